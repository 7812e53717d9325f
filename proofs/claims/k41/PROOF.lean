import PyProof.Rows.All
import Wide.All
import OpenK.AllK
import Wide.FinOn
import Lean
import PyProof.EqAt
import PyProof.EqKinds
import PyProof.TupleCall
import PySem.Challenge.RW_websbykind_k41_lots_gathered_and_parted
set_option Elab.async false
set_option linter.all false
set_option compiler.extract_closed false
set_option bootstrap.genMatcherCode false
set_option genSizeOf false
set_option maxHeartbeats 4000000
set_option maxRecDepth 100000
set_option autoImplicit true
open PySem PySem.Spec PyProof.Rows
open PySem.W (Frag)
noncomputable section
local macro_rules | `(⋯)=>`(by first |decide |lia |simp)
local macro_rules | `($x⁻¹)=>`(($x).heap.objs.size)
local macro_rules|`(⇑$x)=>`((.slot $x))
local macro_rules|`(↥$x)=>`((.val (.int $x)))
local macro_rules|`(‹$x›)=>`((.dat (.int $x)))
set_option hygiene false in
local macro_rules|`(~~~5)=>`(List (List Int))
local macro_rules|`(~~~0)=>`(List Int)
set_option hygiene false in
local macro_rules|`(~~~1)=>`(List (Addr×Obj))
set_option hygiene false in
local macro_rules|`(~~~2)=>`(model X.prog X.w)
local macro_rules|`(~~~3)=>`(("__debug__":Str))
set_option hygiene false in
local macro_rules|`(~~~7)=>`(Inv X ah O H s)
set_option hygiene false in
local macro_rules|`(tactic|left)=>`(tactic|split at h)
set_option hygiene false in
local macro_rules|`(tactic|symm)=>`(tactic|cases h)
abbrev aS:=@PySem.wpAny_bind
abbrev a7:=@PySem.Heap.get?_push_of_some
abbrev a8:=@List.mem_cons_of_mem
abbrev a9:=@List.getElem?_eq_some_iff
abbrev bP:=@List.size_toArray
abbrev b0:=@List.mem_cons
abbrev dA:=@List.mem_cons_self
abbrev dC:=@PySem.Heap.get?_push_size
abbrev dE:=@List.getElem?_append_right
abbrev dL:=@PySem.Heap.lt_size
abbrev dS:=@PySem.wpAny_pure
abbrev d5:=@List.getElem?_append_left
abbrev d6:=@Option.bind_eq_some_iff
abbrev eA:=@Nat.le_refl
abbrev eC:=@List.length_map
abbrev eD:=@List.getElem?_set_ne
abbrev eJ:=@Nat.lt_of_lt_of_le
abbrev eM:=@Nat.le_trans
abbrev eP:=@List.mem_singleton
abbrev eQ:=@Bool.and_eq_true
abbrev eR:=@List.nodup_cons
abbrev fA:=@List.mem_of_getElem?
abbrev fI:=@PySem.Heap.get?_update_other
abbrev fN:=@Nat.ne_of_lt
abbrev fR:=@Nat.pow_le_pow_right
abbrev gL:=@List.mem_map
abbrev gN:=@List.getElem?_set_self
abbrev hU:=@List.mem_append_right
abbrev hV:=@List.mem_filter
abbrev hZ:=@PySem.wpAny_mono
abbrev i4:=@List.length_append
abbrev i5:=@List.all_eq_true
abbrev i6:=@List.not_mem_nil
abbrev i7:=@List.length_replicate
abbrev i8:=@if_neg
abbrev i9:=@Nat.pow_le_pow_left
abbrev kA:=@List.getElem?_eq_getElem
abbrev kS:=@decide_eq_true_eq
abbrev lL:=@if_pos
abbrev lS:=@Ne.symm
abbrev l6:=@Option.some.inj
abbrev l7:=@PySem.wpAny_truthy_bool
abbrev l8:=@PySem.wpAny_field
abbrev l9:=@PySem.Heap.size_push
abbrev mB:=@PySem.wpAny_holding
abbrev mE:=@of_decide_eq_true
abbrev mI:=@PySem.Heap.get?_update_self
abbrev mM:=@List.mem_map_of_mem
abbrev mP:=@List.lookup_cons
abbrev nE:=@List.getElem?_map
abbrev nK:=@List.append_nil
abbrev nN:=@decide_eq_true
abbrev nS:=@Nat.lt_irrefl
abbrev nV:=@PySem.AutoSeq1.wpAny_loadPart'
abbrev n0:=@PyProof.Rows.callWith_type1
abbrev oC:=@PySem.wpAny_Call_Name_kw
abbrev oD:=@PySem.wpAny_callSpecial?_slot
abbrev oP:=@Bool.false_ne_true
abbrev oQ:=@PySem.W.kia_one
abbrev oS:=@PyProof.Rows.slot_tuple_getitem
abbrev o6:=@PySem.wpAny_newObj_type
abbrev pE:=@decide_eq_false
abbrev pV:=@Nat.lt_or_ge
abbrev qS:=@PySem.Obj.isFreed_of_fields
abbrev rV:=@PySem.Obj.data_mapFields
abbrev r6:=@Nat.mul_le_mul_right
abbrev sK:=@Nat.add_sub_cancel_left
abbrev sR:=@List.filterMap_cons
abbrev sT:=@List.replicate_succ
abbrev tJ:=@PySem.F.slot_tuple_iterator_next
abbrev tP:=@PySem.wpAny_call_entry
abbrev tS:=@List.length_cons
abbrev t8:=@PySem.wpAny_pyIter_tuple
abbrev t9:=@List.mem_replicate
abbrev u4:=@PySem.wpAny_setField_rec
abbrev u7:=@Int.add_zero
abbrev u8:=@List.getElem?_eq_none_iff
abbrev vS:=@PySem.wpAny_seqItems
abbrev v0:=@PySem.wpAny_passesOwn
abbrev v6:=@PySem.wpAny_pyIter_list
abbrev wE:=@List.getElem?_take_of_lt
abbrev wP:=@List.length_set
abbrev wS:=@Nat.ne_of_gt
abbrev wT:=@Nat.sub_self
abbrev w8:=@Array.length_toList
abbrev w9:=@PySem.mem_of_lookup
abbrev xI:=@List.length_take
abbrev xL:=@Nat.lt_succ_self
abbrev yA:=@List.nodup_nil
abbrev yB:=@List.mem_append
abbrev yY:=@PySem.sizeLine_eq
abbrev y0:=@PySem.codeAny_mono
abbrev y6:=@List.length_singleton
abbrev y7:=@List.getElem?_eq_none
abbrev y8:=@Nat.succ_pos
abbrev An:=@List.contains_iff_mem
abbrev Ap:=@or_false
abbrev At:=@Array.getElem?_eq_some_iff
abbrev AA:=@List.mem_append_left
abbrev AB:=@Nat.not_succ_le_zero
abbrev AC:=@PySem.wpAny_setField
abbrev AD:=@PySem.wpAny_execs_cons
abbrev AE:=@Nat.le_succ
abbrev AF:=@Nat.pow_mul
abbrev AG:=@PySem.F.args_tuple_add_2
abbrev AH:=@PySem.W.callWith_K
abbrev AI:=@PySem.F.entry_tuple_add
abbrev AJ:=@List.nil_append
abbrev AK:=@Nat.lt_of_lt_of_eq
abbrev AL:=@Bool.or_eq_true
abbrev AM:=@PySem.W.cellsFrom_some
abbrev AO:=@PySem.F.slot_tuple_add
abbrev AR:=@Nat.lt_of_succ_lt_succ
abbrev AS:=@List.range_succ_eq_map
abbrev AT:=@Nat.le_of_succ_le_succ
abbrev AU:=@PySem.W.kitx_list
abbrev AV:=@PySem.W.kitx_dict
abbrev AW:=@Int.toNat_natCast
abbrev AX:=@Nat.mul_le_mul
abbrev AY:=@Nat.mul_comm
abbrev AZ:=@Nat.succ.inj
abbrev A6:=@Nat.zero_add
abbrev A7:=@Nat.le_of_eq
abbrev A8:=@List.set_append_right
abbrev A9:=@PySem.Heap.size_update
abbrev Bi:=@List.range'_succ
abbrev Bn:=@List.getElem_map
abbrev BB:=@Nat.div_le_div_right
abbrev BC:=@List.range_eq_range'
abbrev BD:=@PySem.wpAny_standAt
abbrev BE:=@PySem.wpAny_onRaise
abbrev BF:=@PySem.W.mg_of
abbrev BH:=@PySem.wpAny_call
abbrev BM:=@List.of_mem_zip
abbrev BN:=@Option.map_some
abbrev BO:=@List.getElem?_range
abbrev BQ:=@Nat.add_left_cancel
abbrev BU:=@Nat.div_mul_le_self
abbrev BY:=@List.map_append
abbrev B0:=@Nat.add_comm
abbrev B2:=@Nat.pow_succ
abbrev B3:=@List.mem_range
abbrev B4:=@PySem.wpAny_Name
abbrev B6:=@if_true
theorem nt{p:Prop}(h:false=true):p:=Bool.noConfusion h
namespace L2
def fT(s:Stmt):Arguments:=match s with
 |.FunctionDef _ a _ _ _ _ _ _ _ _=>a
 |_=>{ posonlyargs:=[],args:=[],vararg:=none,kwonlyargs:=[],kw_defaults:=[],kwarg:=none,defaults:=[]}
def aU(s:Stmt):List Stmt:=match s with
 |.FunctionDef _ _ b _ _ _ _ _ _ _=>b
 |_=>[]
def aD(s:Stmt):Scope:=match s with
 |.FunctionDef _ _ _ _ _ _ sc _ _ _=>sc
 |_=>{ kind:=.function,names:=[],isGenerator:=false,isCoroutine:=false}
end L2
namespace Ev
open L2
noncomputable def mJ(qs:List Addr)(K:Params->Frag)(P:Params):Frag:=qs.map (λq=>(q,{ cls:=.none,data:=.fields #[]}))++K P
section
open PySem.W
noncomputable def DN(tb:String->Option Builtin)(p:Program)(w:World)(n₀:Nat)(ann:Option Value):Nat->SharedT->Thread->Option SharedT
 | 0,_,_=>none
 |n+1,s,t=>match through t with
  |true=>some s
  |false=>match stepOk n₀ ann t with
   |false=>none
   |true=>match stepT (denote tb) p w s t with
    |some (s',t')=>DN tb p w n₀ ann n s' t'
    |none=>none
theorem ur:∀{n:Nat}{s s':SharedT}{t:Thread},DN tb p w n₀ ann n s t=some s'->topRun tb p w n₀ ann n s.abs t=some s'.abs
 | 0,_,_,_,h=>by symm
 |n+1,s,s',t,h=>by
  unfold DN at h;unfold topRun;cases he:through t with
  |true=>rw[he]at h;symm;rfl
  |false=>
   rw[he]at h;cases hk:stepOk n₀ ann t with
   |false=>rw[hk]at h;symm
   |true=>
    rw[hk]at h;cases hs:stepT (denote tb) p w s t with
    |none=>rw[hs]at h;symm
    |some r=>obtain⟨s₂,t₂⟩:=r;rw[hs]at h;rw[stepT_spec hs];exact ur h
noncomputable def Ka:BT->Nat->List Obj->BT
 |t,_,[]=>t
 |t,n,o::os=>Ka (t.ins n o) (n+1) os
noncomputable def yq(P:Params):BT:=Ka .nil 0 (boot_heap P).objs.toList
theorem yr(P:Params):absHeap (yq P) 11 (boot_heap P).life=boot_heap P:=by kernel_rfl
noncomputable abbrev AN (P:Params):Option Value:=(boot_heap P).nsMap mainGlobals "__annotations__"
theorem vH{p q:Program}{loose:List Str}{Xt:Shared->Bool}{α:Type}{Yf:Shared->α}{Ya:World->α}{N:Nat}{ann:Option Value}
  (e:opening p=plainProg p.main.scope.names) (hN:Nat.ble 600 N=true) (f:∀s,fenceModules? p s=some s) (ha:∀P,AN P=ann)
  (run:∀(w:World) (os:OsState),(DN treeTable p w 11 ann N ⟨yq w.params,11,(boot_heap w.params).life,#[],boot_drawn,boot_toks,os⟩ (topStub p)).map (λs=>
   (staticsOk (importedModules p.main.body) (boot_heap w.params) s.abs.heap&&namesBound p s.abs.heap&&gensDone s.abs&&laidKept (boot_heap w.params) s.abs.heap,openSeen q loose (importedModules p.main.body) Xt true s.abs,Yf s.abs))=some (true,openGood q loose,Ya w)):LeftO p q loose Xt Yf Ya N:=λw=>by
 obtain⟨⟨h,gs,d,k,os⟩,e1,e2⟩:=Option.map_eq_some_iff.mp (boot_open e hN f w);obtain⟨rfl,rfl,rfl,rfl⟩:h=boot_heap w.params/\gs=Array.mk []/\d=boot_drawn/\k=boot_toks:=by simpa using e2
 obtain⟨s,r1,r2⟩:=Option.map_eq_some_iff.mp (run w os);obtain⟨l1,l2,l3⟩:_/\_/\_:=by simpa only[Prod.mk.injEq]using r2
 have r:=ur r1;unfold openEnds;rw[e1];show (topFrom treeTable p w N _).map _=_;have z0:((boot_heap w.params).isNs mainGlobals&&(Array.mk []:Array GenState).size==0)=true:=by kernel_rfl
 have t:topFrom treeTable p w N ⟨boot_heap w.params,Array.mk [],boot_drawn,boot_toks,os⟩=some s.abs:=by
  unfold topFrom;dsimp only;rw[z0];have r':topRun treeTable p w (boot_heap w.params).objs.size ((boot_heap w.params).nsMap mainGlobals "__annotations__") N ⟨boot_heap w.params,Array.mk [],boot_drawn,boot_toks,os⟩ (topStub p)=some s.abs:=by
   have:=ha w.params;unfold AN at this;rw[this];have z:SharedT.abs ⟨yq w.params,11,(boot_heap w.params).life,#[],boot_drawn,boot_toks,os⟩=⟨boot_heap w.params,Array.mk [],boot_drawn,boot_toks,os⟩:=by unfold SharedT.abs;dsimp only;rw[yr]
   rw[z]at r;exact r
  rw[r'];show (match staticsOk (importedModules p.main.body) (boot_heap w.params) s.abs.heap&&namesBound p s.abs.heap&&gensDone s.abs&&laidKept (boot_heap w.params) s.abs.heap with |true=>_ |false=>_)=_
  rw[l1]
 rw[t];exact congrArg some (Prod.ext l2 l3)
theorem RC(P:Params):AN P=some (.ref 6):=by kernel_rfl
end
end Ev
namespace aY
open L2 Ev
def st(j:Nat):Stmt:=PySem.Challenge.pw_websbykind_k41_lots_gathered_and_parted.main.body.getD j (.Pass ⟨0,0,0,0⟩)
noncomputable def de(P:Params)(s:Str)(t:Tok)(v:Value):DictEntry:=⟨PyData.keyHash P s,.str s t,v⟩
noncomputable def co(vs:Array Value):Obj:=⟨.type "code",none,.fields vs,#[]⟩
noncomputable def fo(j:Nat)(n:Str)(kV doc pm:Value)(an:Option Addr)(bh ct:Value):Obj:=⟨.type "function",none,.func (PySem.W.fnOf n n (fT (st j)) (aU (st j)) (aD (st j)) .none kV doc pm an bh ct),#[]⟩
noncomputable def ce(n:Str)(b a s r t u:Nat):Obj:=⟨.type "type",none,.cls ⟨n,[.ref b],[.ref a,.ref b,.type "ValueError",.type "Exception",.type "BaseException",.type "object"],s,n,true,[],[],false,none,false⟩,#[some (.ref r),none,some (.str n t),some (.str n u),some (.builtin "ValueError.__new__"),some (.bool true)]⟩
def cd(n:Str)(t l p r:Nat)(x y z:Value)(u:Nat):Obj:=co #[.str n t,.str n (t+1),.str "/claim/cut.py" (t+2),.int l 0,.int p 0,.int 0 0,.int 0 0,.int 3 0,.ref r,.bool true,.int 181 0,.ref (r+1),.none,x,y,z,.int u 0,.int l 0,.str "/claim/cut.py" (u+1)]
def fq(j:Nat)(n:Str)(m:Value)(c:Addr):Obj:=fo j n .none .none m none (.ref c) .none
def m0:Value:=.str "websbykind.whole" 458
def m1:Value:=.str "websbykind.hanging" 476
def m2:Value:=.str "law_websbykind_k41_lots_gathered_and_parted" 538
def K(P:Params):Frag:=
 (nat_lit 3,⟨.type "dict",none,.dict #[de P "__name__" 165 (.str "law_websbykind_k41_lots_gathered_and_parted" 538),de P "__doc__" 166 (.none),de P "__package__" 167 (.none),de P "__loader__" 168 (.builtin "__main__.__loader__#opaque"),de P "__spec__" 169 (.none),de P "__annotations__" 170 (.ref 6),de P "__builtins__" 171 (.ref 4),de P "__file__" 173 (.str "/claim/cut.py" 172),de P "__cached__" 174 (.none),de P "KindError" 206 (.ref 24),de P "NoWeb" 222 (.ref 37),de P "NoNumber" 238 (.ref 49),de P "NoTurn" 254 (.ref 61),de P "NoKind" 270 (.ref 73),de P "NoPlace" 286 (.ref 85),de P "NoTie" 302 (.ref 97),de P "NoNumbers" 318 (.ref 109),de P "NoTree" 334 (.ref 121),de P "NoCode" 350 (.ref 133),de P "NoCounts" 366 (.ref 145),de P "NoMarks" 382 (.ref 157),de P "NoText" 398 (.ref 169),de P "NoLine" 414 (.ref 181),de P "NoDeed" 430 (.ref 193),de P "TooGreat" 457 (.ref 212),de P "is_whole" 466 (.ref 221),de P "is_within" 475 (.ref 228),de P "MOST_NUMBERS" 479 (.int 9 478),de P "MOST_KINDS" 481 (.int 9999999999 480),de P "is_numbers" 487 (.ref 233),de P "must_be_numbers" 494 (.ref 240),de P "gathered" 504 (.ref 247),de P "with_pieces" 518 (.ref 254),de P "parted" 525 (.ref 261),de P "parted_by_size" 537 (.ref 268),de P "_law_take" 549 (.ref 275),de P "_law_same" 555 (.ref 280),de P "_law_lots" 565 (.ref 287),de P "_law_gathered" 579 (.ref 294),de P "_law_parted" 588 (.ref 301),de P "_law_refused" 594 (.ref 306),de P "_law_cell_at" 602 (.ref 313),de P "_law_state" 611 (.ref 320),de P "_law_numbers" 621 (.ref 327),de P "_law_right" 632 (.ref 334),de P "law" 638 (.ref 339)] 46,#[]⟩) ::
 (nat_lit 4,⟨.type "module",(some 0),.plain,#[]⟩) ::
 (nat_lit 24,⟨.type "type",none,.cls ⟨"KindError",[.type "ValueError"],[.ref 24,.type "ValueError",.type "Exception",.type "BaseException",.type "object"],23, "KindError",true,[],[.ref 37,.ref 49,.ref 61,.ref 73,.ref 85,.ref 97,.ref 109,.ref 121,.ref 133,.ref 145,.ref 157,.ref 169,.ref 181,.ref 193,.ref 212],false,none,false⟩,#[some (.ref 15),none,some (.str "KindError" 189),some (.str "KindError" 197),some (.builtin "ValueError.__new__"),some (.bool true)]⟩) ::
 (nat_lit 23,⟨.type "dict",none,.dict #[de P "__module__" 196 (.str "websbykind.errors" 187),de P "__firstlineno__" 200 (.int 2 199),de P "__static_attributes__" 201 (.ref 22),de P "__weakref__" 203 (.ref 25),de P "__doc__" 204 (.none)] 3,#[]⟩) ::
 (nat_lit 37,ce "NoWeb" 24 37 36 28 207 215) ::
 (nat_lit 49,ce "NoNumber" 24 49 48 40 223 231) ::
 (nat_lit 61,ce "NoTurn" 24 61 60 52 239 247) ::
 (nat_lit 73,ce "NoKind" 24 73 72 64 255 263) ::
 (nat_lit 85,ce "NoPlace" 24 85 84 76 271 279) ::
 (nat_lit 97,ce "NoTie" 24 97 96 88 287 295) ::
 (nat_lit 109,ce "NoNumbers" 24 109 108 100 303 311) ::
 (nat_lit 108,⟨.type "dict",none,.dict #[de P "__module__" 310 (.str "websbykind.errors" 187),de P "__firstlineno__" 314 (.int 16 313),de P "__static_attributes__" 315 (.ref 107),de P "__doc__" 316 (.none)] 2,#[]⟩) ::
 (nat_lit 121,ce "NoTree" 24 121 120 112 319 327) ::
 (nat_lit 133,ce "NoCode" 24 133 132 124 335 343) ::
 (nat_lit 145,ce "NoCounts" 24 145 144 136 351 359) ::
 (nat_lit 157,ce "NoMarks" 24 157 156 148 367 375) ::
 (nat_lit 169,ce "NoText" 24 169 168 160 383 391) ::
 (nat_lit 181,ce "NoLine" 24 181 180 172 399 407) ::
 (nat_lit 193,ce "NoDeed" 24 193 192 184 415 423) ::
 (nat_lit 212,ce "TooGreat" 24 212 211 196 431 439) ::
 (nat_lit 220,cd "is_whole" 460 38 1 215 (.ref 217) (.ref 218) (.ref 219) 464) ::
 (nat_lit 221,fq 18 "is_whole" m0 220) ::
 (nat_lit 227,cd "is_within" 467 40 3 222 (.ref 224) (.ref 225) (.ref 226) 473) ::
 (nat_lit 228,fq 19 "is_within" m0 227) ::
 (nat_lit 232,cd "is_numbers" 482 45 1 229 .none .none (.ref 231) 485) ::
 (nat_lit 233,fq 23 "is_numbers" m1 232) ::
 (nat_lit 239,cd "must_be_numbers" 488 49 1 234 (.ref 236) (.ref 237) (.ref 238) 492) ::
 (nat_lit 240,fq 24 "must_be_numbers" m1 239) ::
 (nat_lit 246,cd "gathered" 495 52 1 241 (.ref 243) (.ref 244) (.ref 245) 502) ::
 (nat_lit 247,fq 25 "gathered" m1 246) ::
 (nat_lit 253,cd "with_pieces" 505 58 3 248 (.ref 250) (.ref 251) (.ref 252) 516) ::
 (nat_lit 254,fq 26 "with_pieces" m1 253) ::
 (nat_lit 260,cd "parted" 519 66 1 255 (.ref 257) (.ref 258) (.ref 259) 523) ::
 (nat_lit 261,fq 27 "parted" m1 260) ::
 (nat_lit 267,cd "parted_by_size" 526 69 1 262 (.ref 264) (.ref 265) (.ref 266) 535) ::
 (nat_lit 268,fq 28 "parted_by_size" m1 267) ::
 (nat_lit 274,cd "_law_take" 540 80 2 269 (.ref 271) (.ref 272) (.ref 273) 547) ::
 (nat_lit 275,fq 30 "_law_take" m2 274) ::
 (nat_lit 279,cd "_law_same" 550 89 2 276 .none .none (.ref 278) 553) ::
 (nat_lit 280,fq 31 "_law_same" m2 279) ::
 (nat_lit 286,cd "_law_lots" 556 97 2 281 (.ref 283) (.ref 284) (.ref 285) 563) ::
 (nat_lit 287,fq 32 "_law_lots" m2 286) ::
 (nat_lit 293,cd "_law_gathered" 566 102 1 288 (.ref 290) (.ref 291) (.ref 292) 577) ::
 (nat_lit 294,fq 33 "_law_gathered" m2 293) ::
 (nat_lit 300,cd "_law_parted" 580 113 1 295 (.ref 297) (.ref 298) (.ref 299) 586) ::
 (nat_lit 301,fq 34 "_law_parted" m2 300) ::
 (nat_lit 305,cd "_law_refused" 589 118 1 302 .none .none (.ref 304) 592) ::
 (nat_lit 306,fq 35 "_law_refused" m2 305) ::
 (nat_lit 312,cd "_law_cell_at" 595 132 2 307 (.ref 309) (.ref 310) (.ref 311) 600) ::
 (nat_lit 313,fq 36 "_law_cell_at" m2 312) ::
 (nat_lit 319,cd "_law_state" 603 136 2 314 (.ref 316) (.ref 317) (.ref 318) 609) ::
 (nat_lit 320,fq 37 "_law_state" m2 319) ::
 (nat_lit 326,cd "_law_numbers" 612 141 1 321 (.ref 323) (.ref 324) (.ref 325) 619) ::
 (nat_lit 327,fq 38 "_law_numbers" m2 326) ::
 (nat_lit 333,cd "_law_right" 622 147 1 328 (.ref 330) (.ref 331) (.ref 332) 630) ::
 (nat_lit 334,fq 39 "_law_right" m2 333) ::
 (nat_lit 338,cd "law" 633 163 1 335 .none .none (.ref 337) 636) ::
 (nat_lit 339,fq 40 "law" m2 338)::[]
noncomputable def as:List Addr:=nat_lit 3::nat_lit 4::nat_lit 24::nat_lit 23::nat_lit 37::nat_lit 49::nat_lit 61::nat_lit 73::nat_lit 85::nat_lit 97::nat_lit 109::nat_lit 108::nat_lit 121::nat_lit 133::nat_lit 145::nat_lit 157::nat_lit 169::nat_lit 181::nat_lit 193::nat_lit 212::nat_lit 220::nat_lit 221::nat_lit 227::nat_lit 228::nat_lit 232::nat_lit 233::nat_lit 239::nat_lit 240::nat_lit 246::nat_lit 247::nat_lit 253::nat_lit 254::nat_lit 260::nat_lit 261::nat_lit 267::nat_lit 268::nat_lit 274::nat_lit 275::nat_lit 279::nat_lit 280::nat_lit 286::nat_lit 287::nat_lit 293::nat_lit 294::nat_lit 300::nat_lit 301::nat_lit 305::nat_lit 306::nat_lit 312::nat_lit 313::nat_lit 319::nat_lit 320::nat_lit 326::nat_lit 327::nat_lit 333::nat_lit 334::nat_lit 338::nat_lit 339::[]
def as2:List Addr:=nat_lit 329::nat_lit 336 ::  as
noncomputable def qv:Program:={ PySem.Challenge.pw_websbykind_k41_lots_gathered_and_parted with main:={ PySem.Challenge.pw_websbykind_k41_lots_gathered_and_parted.main with body:=[st 1,st 2,st 3,st 4,st 5,st 6,st 7,st 8,st 9,st 10,st 11,st 12,st 13,st 14,st 15,st 16,st 18,st 19,st 21,st 22,st 23,st 24,st 25,st 26,st 27,st 28,st 30,st 31,st 32,st 33,st 34,st 35,st 36,st 37,st 38,st 39,st 40]}}
theorem RD(P:Params):as2=(mJ [329,336] K P).map (·.1):=by kernel_rfl
theorem op:PySem.W.opening PySem.Challenge.rw_websbykind_k41_lots_gathered_and_parted.row.prog=PySem.W.plainProg PySem.Challenge.rw_websbykind_k41_lots_gathered_and_parted.row.prog.main.scope.names:=by kernel_rfl
theorem fe:∀s,PySem.fenceModules? PySem.Challenge.rw_websbykind_k41_lots_gathered_and_parted.row.prog s=some s:=λs=>by kernel_rfl
theorem hl:PySem.W.LeftO PySem.Challenge.rw_websbykind_k41_lots_gathered_and_parted.row.prog qv [] (λs=>PySem.W.xlAt qv [] s&&PySem.W.recOk (PySem.W.OpenRow.toRowW PySem.Challenge.rw_websbykind_k41_lots_gathered_and_parted.row).records s) (λs=>as2.map s.heap.get?) (λw=>(mJ [329,336] K w.params).map λp:Nat×Obj=>some p.2) 8000:=vH op ⋯ fe RC λw os=>by kernel_rfl
end aY
namespace Ev
open PySem PySem.W
end Ev
namespace L2
abbrev Key:=Sum Int Str
noncomputable def mK:Key->Value->Bool
 |.inl k,v=>Value.isInt k v
 |.inr x,v=>Value.isStrOf x v
noncomputable def Xh(w:World):Key->Int
 |.inl k=>hashInt k
 |.inr x=>hashStr w x
theorem aV:∀{k:Key}{v:Value},mK k v=true->(∃i t,k=Sum.inl i/\v=Value.int i t)\/(∃x t,k=Sum.inr x/\v=Value.str x t)
 |.inl i,v,h=>by
  obtain⟨t,e⟩:=Value.isInt_shape h;exact .inl ⟨i,t,rfl,e⟩
 |.inr x,v,h=>by
  obtain⟨t,e⟩:=Value.isStrOf_shape h;exact .inr ⟨x,t,rfl,e⟩
theorem vI(i:Int)(t:Tok):mK (.inl i) (.int i t)=true:=by simp[mK,Value.isInt]
theorem vJ(x:Str)(t:Tok):mK (.inr x) (.str x t)=true:=by simp[mK,Value.isStrOf]
theorem KN(a b:Int):decide ((Sum.inl a:Key)=Sum.inl b)=(a==b):=by
 by_cases e:a=b
 . subst e;simp
 .
  have h : ¬ (Sum.inl a:Key)=Sum.inl b:=λq=>e (Sum.inl.inj q)
  rw[pE h];exact (beq_eq_false_iff_ne.mpr e).symm
theorem KQ(a b:Str):decide ((Sum.inr a:Key)=Sum.inr b)=decide (a=b):=by
 by_cases e:a=b
 . subst e;simp
 .
  have h : ¬ (Sum.inr a:Key)=Sum.inr b:=λq=>e (Sum.inr.inj q)
  rw[pE h,pE e]
theorem KR(a:Int)(b:Str):decide ((Sum.inl a:Key)=Sum.inr b)=false:=pE (λq=>nomatch q)
theorem KS(a:Str)(b:Int):decide ((Sum.inr a:Key)=Sum.inl b)=false:=pE (λq=>nomatch q)
def ez(prog:Program)(w:World):PySem.KeyKind prog w Key where
 is:=mK
 hash:=Xh w
 inj:=λv a b ha hb=>by
  rcases aV ha with ⟨i,t,rfl,rfl⟩ |⟨x,t,rfl,rfl⟩
  .
   rcases aV hb with ⟨j,u,rfl,e⟩ |⟨y,u,rfl,e⟩
   . injection e with e1 _;rw[e1]
   . exact nomatch e
  .
   rcases aV hb with ⟨j,u,rfl,e⟩ |⟨y,u,rfl,e⟩
   . exact nomatch e
   . injection e with e1 _;rw[e1]
 byValue:=λk v h=>by
  rcases aV h with ⟨i,t,rfl,rfl⟩ |⟨x,t,rfl,rfl⟩ <;> rfl
 pyHash:=λhv h=>by
  rcases aV hv with ⟨i,t,rfl,rfl⟩ |⟨x,t,rfl,rfl⟩
  . exact wpAny_pyHash_int h
  . exact wpAny_pyHash_str h
 eqBool:=λhu hv h=>by
  rcases aV hu with ⟨i,t,rfl,rfl⟩ |⟨x,t,rfl,rfl⟩
  .
   rcases aV hv with ⟨j,u,rfl,rfl⟩ |⟨y,u,rfl,rfl⟩
   . rw[KN]at h;exact wpAny_eqBool_int h
   . rw[KR]at h;exact SeqAt.EqAt.int_str i t y u _ _ _ _ h
  .
   rcases aV hv with ⟨j,u,rfl,rfl⟩ |⟨y,u,rfl,rfl⟩
   . rw[KS]at h;exact SeqAt.EqAt.str_int x t j u _ _ _ _ h
   . rw[KQ]at h;exact wpAny_eqBool_str h
 «strs»:=λk x t v h=>by
  rcases aV h with ⟨i,u,rfl,e⟩ |⟨y,u,rfl,e⟩
  . exact nomatch e
  . injection e with e1 _;subst e1;cases v <;> rfl
theorem pY(prog:Program)(w:World)(i:Int)(t:Tok):(ez prog w).is (.inl i) (.int i t)=true:=vI i t
theorem pZ(prog:Program)(w:World)(x:Str)(t:Tok):(ez prog w).is (.inr x) (.str x t)=true:=vJ x t
inductive V where
 |non |bl (b:Bool) |int (i:Int) |str (x:Str) |KY (b:Array UInt8) |flt (b:UInt64) |ref (a:Addr) |ty (n:String)
 deriving DecidableEq
noncomputable def RelV:V->Value->Prop
 |.non,u=>u=Value.none
 |.bl b,u=>u=Value.bool b
 |.int i,u=>∃t,u=Value.int i t
 |.str x,u=>∃t,u=Value.str x t
 |.KY b,u=>∃t,u=Value.bytes b t
 |.flt b,u=>∃t,u=Value.float b t
 |.ref a,u=>u=Value.ref a
 |.ty n,u=>u=Value.type n
abbrev Vals:List V->List Value->Prop:=Paired RelV
theorem Vals.length{xs:List V}{us:List Value}(r:Vals xs us):xs.length=us.length:=Paired.length r
theorem Vals.get:∀{xs:List V}{us:List Value}{i:Nat}{x:V},Vals xs us->xs[i]?=some x->∃u,us[i]?=some u/\RelV x u
 |_,_,_,_,.nil,e=>by simp at e
 |_,_,0,_,.cons r _,e=>by simp at e;subst e;exact⟨_,rfl,r⟩
 |_,_,i+1,x,.cons _ t,e=>by
  obtain⟨u,h1,h2⟩:=Vals.get t (by simpa using e)
  exact⟨u,by simpa using h1,h2⟩
theorem Vals.set(r:RelV x u):∀{xs:List V}{us:List Value} (i:Nat),Vals xs us->Vals (xs.set i x) (us.set i u)
 |_,_,_,.nil=>.nil
 |_,_,0,.cons _ t=>.cons r t
 |_,_,i+1,.cons q t=>.cons q (Vals.set r i t)
theorem Vals.append:∀{xs ys:List V}{us ws:List Value},Vals xs us->Vals ys ws->Vals (xs++ys) (us++ws):=by
 intro xs ys us ws h s
 induction h with
 |nil=>exact s
 |cons r t ih=>exact .cons r ih
theorem Vals.take:∀{xs:List V}{us:List Value} (n:Nat),Vals xs us->Vals (xs.take n) (us.take n)
 |_,_,0,_=>.nil
 |_,_,_+1,.nil=>.nil
 |_,_,n+1,.cons r t=>.cons r (Vals.take n t)
theorem Vals.drop:∀{xs:List V}{us:List Value} (n:Nat),Vals xs us->Vals (xs.drop n) (us.drop n)
 |_,_,0,r=>r
 |_,_,_+1,.nil=>.nil
 |_,_,n+1,.cons _ t=>Vals.drop n t
def RJ:Option V->Option Value->Prop
 |some v,some u=>RelV v u
 |none,none=>True
 |_,_=>False
def KV{κ:Type}:List (κ×V)->List (κ×Value)->Prop:=Paired λ(p:κ×V) (q:κ×Value)=>p.1=q.1/\RelV p.2 q.2
noncomputable def kV:Key->V
 |.inl i=>.int i
 |.inr x=>.str x
inductive HO where
 |lst (xs:List V)
 |tup (xs:List V)
 |dK (eu:List (Key×V)) |dT (eu:List (List Key×V))
 |set (S:Int->Bool) (n:Nat)
 |ins (C dx:Addr) (fs:List (Str×V))
 |own (x:Addr)
 |xd (fs:List (Str×V))
 |met (f x:Addr)
 |Wk (lo hi:Int)
 |g9 (o:Obj) (u:HO)
 |jA (ps:Array Value)
 |ext (φ:Heap->Prop)
abbrev Hp:=Addr->Option HO
noncomputable def upd(H:Hp)(a:Addr)(o:HO):Hp:=λb=>if b=a then some o else H b
theorem aE:upd H a o a=some o:=by unfold upd;rw[lL rfl]
theorem au(h:b≠a):upd H a o b=H b:=by unfold upd;rw[i8 h]
theorem aG{H:Hp}{a b:Addr}{o:HO}(h:H a=some o)(h':H b=none):a≠b:=by intro e;subst e;rw[h]at h';cases h'
def eE(h:Heap)(a:Addr)(aB:Array Value):Prop:=∃o,h.get? a=some o/\(o.cls=.type "tuple" /\∃n,o.data=.seq aB n)/\o.dict=none
theorem eE.tup{h:Heap}{a:Addr}{aB:Array Value}(x:eE h a aB):IsTup h a aB:=let ⟨o,e,c,_⟩:=x;⟨o,e,c⟩
theorem eE.new(h:Heap)(aB:Array Value):eE (h.push { cls:=.type "tuple",data:=.seq aB}) h.objs.size aB:=⟨_,dC _ rfl,⟨rfl,_,rfl⟩,rfl⟩
section
variable(P:Program)(w:World)
def cg(H:Hp)(h:Heap)(a:Addr):HO->Prop
 |.lst xs=>xs.length<=sizeLine/\∃(aB:List Value) (n:Nat),Vals xs aB/\h.get? a=some { cls:=.type "list",data:=.seq aB.toArray n}
 |.tup xs=>xs.length<=sizeLine/\∃aB:List Value,Vals xs aB/\eE h a aB.toArray
 |.dK eu=>eu.length<=sizeLine/\(a==sysModules)=false/\∃vs,KV eu vs/\h.DictOf (ez P w) a vs
 |.dT eu=>eu.length<=sizeLine/\(a==sysModules)=false/\∃xs:List (List Key×Addr×Value),
   Paired (λ(p:List Key×V) (q:List Key×Addr×Value)=>p.1=q.1/\H q.2.1=some (.tup (p.1.map kV))/\RelV p.2 q.2.2) eu xs/\
   ∃o es ep,h.get? a=some o/\o.ExactDict/\o.data=.dict es ep/\es.toList=xs.map (entryOfKey (tupleKind (ez P w)))/\(xs.map (·.1)).Nodup
 |.set S n=>h.SetOf (intKind P w) a S n
 |.ins C dx fs=>H dx=some (.own a)/\fs.length<=1000/\dx≠a/\h.get? a=some (PySem.W.instObj C dx)/\
   ∃mA,h.Ns1 dx mA/\(∀f,RJ (fs.lookup f) (mA f))/\PySem.Within mA (fs.map (·.1))
 |.own _=>∃o,h.get? a=some o
 |.xd fs=>∃mA,h.Ns1 a mA/\∀f,RJ (fs.lookup f) (mA f)
 |.Wk lo hi=>∃t u v,h.get? a=some { cls:=.type "range",data:=.fields #[.int lo t,.int hi u,.int 1 v]}
 |.g9 o u=>h.get? a=some o/\cg H h a u
 |.jA ps=>h.get? a=some { cls:=.none,data:=.fields ps}
 |.met f x=>h.get? a=some (PySem.W.methodObj (.ref f) (.ref x))
 |.ext φ=>φ h/\(∃o,h.get? a=some o)/\∀h1 h2:Heap,φ h1->(∀o,h1.get? a=some o->h2.get? a=some o)->φ h2
def jc(H:Hp)(h:Heap):Prop:=∀a o,H a=some o->cg P w H h a o
end
section
variable{P:Program}{w:World}{H H':Hp}{h h':Heap}{a:Addr}{o:HO}
theorem cg.lt(x:cg P w H h a o):a<h.objs.size:=by
 cases o with
 |lst xs=>obtain⟨_,_,_,_,e⟩:=x;exact dL e
 |tup xs=>obtain⟨_,_,_,_,e,_⟩:=x;exact dL e
 |dK eu=>obtain⟨_,_,_,_,o,_,_,e,_⟩:=x;exact dL e
 |dT eu=>obtain⟨_,_,_,_,o,_,_,e,_⟩:=x;exact dL e
 |set S n=>obtain⟨o,_,_,_,e,_⟩:=x;exact dL e
 |ins C dx fs=>obtain⟨_,_,_,e,_⟩:=x;exact dL e
 |own y=>obtain⟨_,e⟩:=x;exact dL e
 |xd fs=>obtain⟨_,⟨_,_,_,e,_⟩,_⟩:=x;exact dL e
 |Wk lo hi=>obtain⟨_,_,_,e⟩:=x;exact dL e
 |g9 ob u=>obtain⟨e,_⟩:=x;exact dL e
 |jA ps=>exact dL (show h.get? a=some _ from x)
 |met f y=>exact dL (show h.get? a=some _ from x)
 |ext φ=>obtain⟨_,⟨_,e⟩,_⟩:=x;exact dL e
theorem Paired.Xi{α β:Type}{F G:α->β->Prop}:∀{l₁:List α}{l₂:List β},Paired F l₁ l₂->(∀a b,F a b->G a b)->Paired G l₁ l₂:=by
 intro l₁ l₂ h f
 induction h with
 |nil=>exact .nil
 |cons r t ih=>exact .cons (f _ _ r) ih
theorem cg.stay(x:cg P w H h a o)(k:∀b u,(b=a\/H b=some (.own a))->h.get? b=some u->h'.get? b=some u)
  (ho:∀b,H b=some (.own a)->H' b=some (.own a)) (ht:∀b xs,H b=some (.tup xs)->H' b=some (.tup xs)):cg P w H' h' a o:=by
 induction o with
 |lst xs=>obtain⟨z,aB,n,r,e⟩:=x;exact⟨z,aB,n,r,k _ _ (.inl rfl) e⟩
 |tup xs=>obtain⟨z,aB,r,ob,e,c⟩:=x;exact⟨z,aB,r,ob,k _ _ (.inl rfl) e,c⟩
 |dK eu=>obtain⟨z,y,vs,r,ob,es,ep,e,c⟩:=x;exact⟨z,y,vs,r,ob,es,ep,k _ _ (.inl rfl) e,c⟩
 |dT eu=>obtain⟨z,y,xs,r,ob,es,ep,e,c⟩:=x;exact⟨z,y,xs,Paired.Xi r λp q z=>⟨z.1,ht _ _ z.2.1,z.2.2⟩,ob,es,ep,k _ _ (.inl rfl) e,c⟩
 |set S n=>obtain⟨ob,es,ep,t,e,c⟩:=x;exact⟨ob,es,ep,t,k _ _ (.inl rfl) e,c⟩
 |ins C dx fs=>obtain⟨d,z,ne,e,mA,⟨od,es,ep,e2,c⟩,r⟩:=x;exact⟨ho _ d,z,ne,k _ _ (.inl rfl) e,mA,⟨od,es,ep,k _ _ (.inr d) e2,c⟩,r⟩
 |own y=>obtain⟨ob,e⟩:=x;exact⟨ob,k _ _ (.inl rfl) e⟩
 |xd fs=>obtain⟨mA,⟨od,es,ep,e,c⟩,r⟩:=x;exact⟨mA,⟨od,es,ep,k _ _ (.inl rfl) e,c⟩,r⟩
 |Wk lo hi=>obtain⟨t,u,v,e⟩:=x;exact⟨t,u,v,k _ _ (.inl rfl) e⟩
 |g9 ob u ih=>obtain⟨e,q⟩:=x;exact⟨k _ _ (.inl rfl) e,ih q⟩
 |jA ps=>have e:=x;exact k a _ (.inl rfl) e
 |met f y=>have e:=x;exact k a _ (.inl rfl) e
 |ext φ=>obtain⟨p,⟨o,e⟩,st⟩:=x;exact⟨st _ _ p λo q=>k _ _ (.inl rfl) q,⟨o,k _ _ (.inl rfl) e⟩,st⟩
theorem jc.lt(x:jc P w H h)(e:H a=some o):a<h.objs.size:=(x a o e).lt
theorem jc.fresh(x:jc P w H h)(e:h.objs.size<=a):H a=none:=by
 cases q:H a with
 |none=>rfl
 |some u=>exact absurd (eJ (x.lt q) e) (nS _)
theorem jc.kept(x:jc P w H h)(k:∀b u,h.get? b=some u->h'.get? b=some u):jc P w H h':=λa o e=>
 (x a o e).stay (λb u _ q=>k b u q) (λ_ q=>q) λ_ _ q=>q
theorem jc.laid(x:jc P w H h)(k:∀b u,h.get? b=some u->h'.get? b=some u)(hp:h.objs.size<=a)(new:cg P w (upd H a o) h' a o):jc P w (upd H a o) h':=λb u e=>by
 have hn:=x.fresh hp;by_cases hb:b=a
 . subst hb;rw[aE]at e;cases e;exact new
 . rw[au hb]at e;exact (x b u e).stay (λc v _ q=>k c v q) (λc q=>by rw[au (aG q hn)];exact q) λc xs q=>by rw[au (aG q hn)];exact q
end
def Rd(H:Hp)(a:Addr)(u:HO):Prop:=H a=some u\/∃o,H a=some (.g9 o u)
theorem Rd.ok{P:Program}{w:World}{H:Hp}{h:Heap}{a:Addr}{u:HO}(r:Rd H a u)(x:jc P w H h):cg P w H h a u:=by
 rcases r with r |⟨o,r⟩
 . exact x a u r
 . obtain⟨_,q⟩:=x a _ r;exact q
noncomputable def Wm:Option HO->Prop
 |some (.lst _)=>True
 |some (.dK _)=>True
 |some (.dT _)=>True
 |some (.set _ _)=>True
 |some (.ins _ _ _)=>True
 |some (.ext _)=>True
 |_=>False
section
variable{P:Program}{w:World}{H:Hp}{h h':Heap}{x e:Addr}{o':HO}
theorem jc.write(ok:jc P w H h)(mu:Wm (H x))(he:e=x\/H e=some (.own x))(k:∀b u,b≠e->h.get? b=some u->h'.get? b=some u)(Q5:∃u,h'.get? e=some u)
  (new:cg P w (upd H x o') h' x o'):jc P w (upd H x o') h':=λb u q=>by
 have RK:∀c y,H c=some (.own y)->c≠x:=λc y r z=>by subst z;rw[r]at mu;exact mu
 have Xj:∀c xs,H c=some (.tup xs)->c≠x:=λc xs r z=>by subst z;rw[r]at mu;exact mu
 by_cases hb:b=x
 . subst hb;rw[aE]at q;cases q;exact new
 .
  rw[au hb]at q;by_cases KZ:b=e
  .
   have q':H b=some (.own x):=by
    rcases he with z |z
    . exact absurd (KZ.trans z) hb
    . rw[KZ];exact z
   rw[q]at q';cases q';obtain⟨v,hv⟩:=Q5;exact⟨v,by rw[KZ];exact hv⟩
  .
   refine (ok b u q).stay (λc v hc r=>k c v ?_ r) (λc r=>by rw[au (RK c b r)];exact r) λc xs r=>by rw[au (Xj c xs r)];exact r
   rcases hc with rfl |hc
   . exact KZ
   .
    rintro rfl;rcases he with z |z
    . exact RK c b hc z
    . rw[hc]at z;cases z;exact hb rfl
end
structure Un(fs ex:List Addr)(H H':Hp)(h h':Heap):Prop where
 keep:∀b o,h.get? b=some o->H b=none->b∉fs->b∉ex->h'.get? b=some o
 slot:∀b o,h.get? b=some o->H b=none->b∈fs->b∉ex->∃sl,h'.get? b=some { o with slots:=sl}
 free:∀b o,h.get? b=some o->H b=none->b∉ex->H' b=none
 there:∀b o,h.get? b=some o->b∉ex->∃o',h'.get? b=some o'
 tups:∀b xs,H b=some (.tup xs)->H' b=some (.tup xs)
 iz:∀b o u,H b=some (.g9 o u)->H' b=some (.g9 o u)
 iA:∀b ps,H b=some (.jA ps)->∃more,H' b=some (.jA (ps++more))
section
variable{fs fs' ex ex':List Addr}{H H1 H2:Hp}{h h1 h2 h':Heap}{a x e:Addr}{o:HO}
theorem Un.any(u:Un fs ex H H1 h h1){b:Addr}{ob:Obj}(q:h.get? b=some ob)(n:H b=none)(hx:b∉ex):∃sl,h1.get? b=some { ob with slots:=sl}:=by
 by_cases hb:b∈fs
 . exact u.slot b ob q n hb hx
 . exact⟨ob.slots,u.keep b ob q n hb hx⟩
theorem Un.kept(k:∀b u,h.get? b=some u->h'.get? b=some u):Un fs ex H H h h':=
 ⟨λb ob q _ _ _=>k b ob q,λb ob q _ _ _=>⟨ob.slots,k b ob q⟩,λ_ _ _ n _=>n,λb ob q _=>⟨ob,k b ob q⟩,λ_ _ q=>q,λ_ _ _ q=>q,λ_ ps q=>⟨#[],by rw[q];simp⟩⟩
theorem Un.refl:Un fs ex H H h h:=Un.kept λ_ _ q=>q
theorem Un.laid(k:∀b u,h.get? b=some u->h'.get? b=some u)(hp:h.objs.size<=a)(hn:H a=none):Un fs ex H (upd H a o) h h' where
 keep:=λb u q _ _ _=>k b u q
 slot:=λb u q _ _ _=>⟨u.slots,k b u q⟩
 free:=λb u q n _=>by rw[au (fN (eJ (dL q) hp))];exact n
 there:=λb u q _=>⟨u,k b u q⟩
 tups:=λb xs q=>by rw[au (aG q hn)];exact q
 iz:=λb u xs q=>by rw[au (aG q hn)];exact q
 iA:=λb ps q=>⟨#[],by rw[au (aG q hn),q];simp⟩
theorem Un.write(mu:Wm (H x))(he:e=x\/H e=some (.own x))(k:∀b u,b≠e->h.get? b=some u->h'.get? b=some u)(Q5:∃u,h'.get? e=some u):Un fs ex H (upd H x o) h h':=by
 have hx:∀b,H b=none->b≠x:=λb n z=>by subst z;rw[n]at mu;exact mu
 have hb:∀b,H b=none->b≠e:=λb n z=>by
  subst z;rcases he with r |r
  . exact hx b n r
  . rw[n]at r;cases r
 have hm:∀b u,H b=some u->¬ Wm (some u)->b≠x:=λb u q nm z=>by subst z;rw[q]at mu;exact nm mu
 refine⟨λb u q n _ _=>k b u (hb b n) q,λb u q n _ _=>⟨u.slots,k b u (hb b n) q⟩,λb u q n _=>by rw[au (hx b n)];exact n,λb u q _=>?_,
  λb xs q=>by rw[au (hm b _ q λz=>z)];exact q,λb u xs q=>by rw[au (hm b _ q λz=>z)];exact q,λb ps q=>⟨#[],by rw[au (hm b _ q λz=>z),q];simp⟩⟩
 by_cases KZ:b=e
 . subst KZ;exact Q5
 . exact⟨u,k b u KZ q⟩
end
noncomputable def Wn(h:Heap)(H:Hp):List Addr:=(List.range h.objs.size).filter λa=>(H a).isSome
def nY(h:Heap)(H:Hp):Heap:=PySem.W.hideAll h (Wn h H)
theorem vK(h:Heap)(H:Hp):(nY h H).objs.size=h.objs.size:=PySem.W.hideAll_size _ _
theorem yt(e:h.get? b=some o)(n:H b=none):(nY h H).get? b=some o:=
 PySem.W.hideAll_get _ e λhm=>by
  have q:=(hV.mp hm).2;rw[n]at q;simp at q
theorem DP(e:(nY h H).get? b=some o):h.get? b=some o/\H b=none:=by
 have e':=PySem.W.of_hideAll (Wn h H) e;refine⟨e',?_⟩;cases q:H b with
 |none=>rfl
 |some x=>
  have hm:b∈Wn h H:=hV.mpr ⟨B3.mpr (dL e'),by simp[q]⟩
  have z:(nY h H).get? b=none:=PySem.W.hideAll_none (Wn h H) hm;rw[z]at e;cases e
noncomputable def DQ(g h:Heap)(L:Addr): ~~~1:=(List.range h.objs.size).filterMap λa=>if a=L\/(g.get? a).isSome=true then none else (h.get? a).map λo=>(a,o)
def rest(g h:Heap)(L d:Addr): ~~~1:=(DQ g h L).filter λp=>decide (p.1≠d)
structure Mod(K:Frag)(mg:Str->Option Value)(base:Heap):Prop where
 yu:K.In base
 glob:base.Ns mainGlobals mg
 blt:∃mb,base.Ns builtinsNs mb/\∀x:Str,x≠ "__name__" ->mb x=bootBuiltins x
 nolimit:base.NoLimit
structure Cx where
 prog:Program
 w:World
 K:Frag
 mg:Str->Option Value
 base:Heap
 A:Around
 N:List Str
 s₀:Shared
 H₀:Hp
 env:Env
 outer:List Env
 stack:List Env
 ex:List Addr
 fn:Str->Bool
 calm:Bool
 pn:List (Addr×Obj)
 xe:Value->Shared->Prop
noncomputable def frs(l:List Env):List Addr:=l.filterMap (·.frame)
abbrev Cx.fs(X:Cx):List Addr:=frs X.outer
def rZ(sc:Scope)(x:Str):Prop:=sc.names.lookup x=some .local\/sc.names.lookup x=some .cell\/sc.names.lookup x=some .free
def Loc(sc:Scope)(x:Str):Prop:=sc.names.lookup x=some .local\/sc.names.lookup x=some .cell
def Look(env:Env)(h:Heap)(m:Str->Option Value)(x:Str)(u:Value):Prop:=
 (env.kindOf x=some .local/\m x=some u)\/((env.kindOf x=some .cell\/env.kindOf x=some .free)/\∃c,env.cells.lookup x=some c/\h.IsCell c (some u))
structure Cx.Ok(X:Cx):Prop where
 mod:Mod X.K X.mg X.base
 kind:X.env.scope.kind=.function
 glob:X.env.globals=mainGlobals
 blt:X.env.builtins=builtinsNs
 above:X.s₀⁻¹<=X.env.locals
 inj:∀x y c,X.env.cells.lookup x=some c->X.env.cells.lookup y=some c->x=y
 has:∀x,(X.env.kindOf x=some .cell\/X.env.kindOf x=some .free)->∃c,X.env.cells.lookup x=some c
 K1:∀x c,X.fn x=true->X.env.cells.lookup x=some c->X.s₀⁻¹<=c
 hd:X.calm=true->X.A.handled=none
 frames:X.A.frames=some X.stack
 stk:X.stack=X.outer\/(X.stack=X.env::X.outer/\X.env.frame=some X.env.locals)
 Q6:∀b∈X.ex,b≠X.env.locals/\∀x c,X.env.cells.lookup x=some c->c≠b
 bs:∀b o,X.base.get? b=some o->X.s₀.heap.get? b=some o/\X.H₀ b=none
 yw:X.base.objs.size<=X.s₀⁻¹
 p7:∀b o,X.base.get? b=some o->b∉X.ex
 r9:∀b∈X.ex,b∉X.fs
 iB:X.s₀.heap.FunFrames X.base X.outer
 DR:∀b∈X.fs,X.H₀ b=none
structure Inv(X:Cx)(ah: ~~~1)(O:List (Option V))(H:Hp)(s:Shared):Prop where
 ok:X.Ok
 os:s.os=X.s₀.os
 bare:AllBare s.gens
 base:Un X.fs X.ex X.H₀ H X.s₀.heap s.heap
 loc:∃m,s.heap.Ns X.env.locals m/\∀(i:Nat) (x:Str) (v:V),X.N[i]?=some x->O[i]?=some (some v)->rZ X.env.scope x->∃u,RelV v u/\Look X.env s.heap m x u
 cell:∀x c,X.env.cells.lookup x=some c->∃v,s.heap.IsCell c v
 free:H X.env.locals=none
 cG:∀x c,X.env.cells.lookup x=some c->H c=none
 pin:∀p∈X.pn++ah,s.heap.get? p.1=some p.2/\H p.1=none/\p.1≠X.env.locals/\p.1∉X.fs/\∀v,p.2.data≠.cell v
 hok:jc X.prog X.w H s.heap
 len:O.length=X.N.length
section
variable{X:Cx}{ah: ~~~1}{O:List (Option V)}{H H':Hp}{s:Shared}{h':Heap}
theorem Cx.Ok.Xk(ok:X.Ok)(e:X.base.get? b=some o):b∉X.fs:=λhb=>by
 have:=(ok.iB.mem hb).1;rw[e]at this;cases this
theorem Inv.bs(I: ~~~7):∀b o,X.base.get? b=some o->s.heap.get? b=some o/\H b=none:=λb o e=>
 ⟨I.base.keep b o (I.ok.bs b o e).1 (I.ok.bs b o e).2 (I.ok.Xk e) (I.ok.p7 b o e),I.base.free b o (I.ok.bs b o e).1 (I.ok.bs b o e).2 (I.ok.p7 b o e)⟩
theorem Inv.bk(I: ~~~7):∀b o,X.base.get? b=some o->s.heap.get? b=some o:=λb o e=>(I.bs b o e).1
theorem Inv.mod(I: ~~~7):Mod X.K X.mg X.base:=I.ok.mod
theorem Inv.jL(I: ~~~7):X.K.In s.heap:=I.ok.mod.yu.keeps I.bk
theorem Inv.nolimit(I: ~~~7):s.heap.NoLimit:=I.ok.mod.nolimit.keeps I.bk
theorem Inv.lt(I: ~~~7):X.env.locals<s⁻¹:=let ⟨_,hn,_⟩:=I.loc;hn.lt
theorem Inv.sz(I: ~~~7):X.s₀⁻¹<=s⁻¹:=eM I.ok.above (Nat.le_of_lt I.lt)
theorem Inv.Xl(I: ~~~7)(h:s⁻¹<=a):a∉X.fs:=λhb=>by
 obtain⟨_,o,ho,_⟩:=I.ok.iB.mem hb;exact absurd (eJ (dL ho) (eM I.sz h)) (nS _)
theorem Inv.K3(I: ~~~7):∀x c,X.env.cells.lookup x=some c->c≠X.env.locals:=λx c e z=>by
 obtain⟨v,o,ho,hd⟩:=I.cell x c e;obtain⟨m,⟨o',es,ep,ho',hd',_⟩,_⟩:=I.loc;rw[z,ho']at ho;cases ho;rw[hd']at hd;cases hd
theorem Inv.iB(I: ~~~7):s.heap.FunFrames X.base X.outer:=by
 have all:∀(l:List Env),(∀b∈frs l,b∈X.fs)->X.s₀.heap.FunFrames X.base l->s.heap.FunFrames X.base l:=by
  intro l
  induction l with
  |nil=>intro _ _;trivial
  |cons env r ih=>
   intro hs hl;obtain⟨hk,⟨L,o,hf,hn,ho,hd⟩,hr⟩:=hl;have hL:=hs L (by unfold frs;rw[sR,hf];exact dA)
   obtain⟨sl,e⟩:=I.base.slot L o ho (I.ok.DR L hL) hL λz=>I.ok.r9 L z hL
   exact⟨hk,⟨L,_,hf,hn,e,hd⟩,ih (λb hb=>hs b (by unfold frs;rw[sR,hf];exact a8 _ hb)) hr⟩
 exact all X.outer (λ_ hb=>hb) I.ok.iB
theorem Inv.stack(I: ~~~7):s.heap.FunFrames X.base X.stack:=by
 rcases I.ok.stk with e |⟨e,hf⟩
 . rw[e];exact I.iB
 .
  rw[e];obtain⟨m,hn,_⟩:=I.loc;refine .cons (by rw[I.ok.kind];decide) hf hn ?_ I.iB
  exact Heap.get?_none_of_le (eM I.ok.yw I.ok.above)
theorem Inv.se(I: ~~~7):∀b∈frs X.stack,b∈X.env.locals::X.fs:=λb hb=>by
 rcases I.ok.stk with e |⟨e,hf⟩
 . rw[e]at hb;exact a8 _ hb
 . rw[e]at hb;unfold frs at hb;rw[sR,hf]at hb;exact hb
theorem Inv.nZ(I: ~~~7):∀b∈frs X.stack,H b=none:=λb hb=>by
 rcases b0.mp (I.se b hb)with e |hb
 . rw[e];exact I.free
 . obtain⟨_,o,ho,_⟩:=I.ok.iB.mem hb;exact I.base.free b o ho (I.ok.DR b hb) λz=>I.ok.r9 b z hb
theorem Inv.step{g':Array GenState}{t':Nat}{d':Drawn}{ch:List Addr}(I: ~~~7)
  (hch:∀b∈ch,(b∈X.ex\/X.s₀⁻¹<=b)/\b≠X.env.locals/\(∀x c,X.env.cells.lookup x=some c->c≠b)/\∀p∈X.pn++ah,p.1≠b)
  (keep:∀b o,b≠X.env.locals->b∉X.fs->b∉ch->s.heap.get? b=some o->H b=none->h'.get? b=some o)
  (slot:∀b o,b≠X.env.locals->b∈X.fs->b∉ch->s.heap.get? b=some o->H b=none->∃sl,h'.get? b=some { o with slots:=sl}) (free:∀b o,b∉ch->s.heap.get? b=some o->H b=none->H' b=none)
  (there:∀b o,b∉ch->s.heap.get? b=some o->∃o',h'.get? b=some o')
  (tups:∀b xs,H b=some (.tup xs)->H' b=some (.tup xs)) (iz:∀b o u,H b=some (.g9 o u)->H' b=some (.g9 o u)) (iA:∀b ps,H b=some (.jA ps)->∃more,H' b=some (.jA (ps++more)))
  (ns:∀m,s.heap.Ns X.env.locals m->h'.Ns X.env.locals m) (hok:jc X.prog X.w H' h') (hg:AllBare g') :
  Inv X ah O H' { s with heap:=h',gens:=g',drawn:=d',toks:=t'}:=by
 have ZP:∀b o,X.s₀.heap.get? b=some o->b≠X.env.locals:=λb o e=>fN (eJ (dL e) I.ok.above)
 have Wo:∀b o,X.s₀.heap.get? b=some o->b∉X.ex->b∉ch:=λb o e hx hb=>by
  rcases (hch b hb).1 with z |z
  . exact hx z
  . exact absurd (eJ (dL e) z) (nS _)
 have cellK:∀x c,X.env.cells.lookup x=some c->∀v,s.heap.IsCell c v->h'.IsCell c v:=by
  rintro x c e v ⟨o,ho,hd⟩;have RL:c∉ch:=λz=>(hch c z).2.2.1 x c e rfl
  by_cases hc:c∈X.fs
  . obtain⟨sl,q⟩:=slot c o (I.K3 x c e) hc RL ho (I.cG x c e);exact⟨_,q,hd⟩
  . exact⟨o,keep c o (I.K3 x c e) hc RL ho (I.cG x c e),hd⟩
 refine⟨I.ok,I.os,hg,⟨λb o e n hb hx=>?_,λb o e n hb hx=>?_,λb o e n hx=>?_,λb o e hx=>?_,λb xs e=>tups b xs (I.base.tups b xs e),λb o xs e=>iz b o xs (I.base.iz b o xs e),λb ps e=>?_⟩,?_,λx c e=>?_,?_,λx c e=>?_,λp hp=>?_,hok,I.len⟩
 . exact keep b o (ZP b o e) hb (Wo b o e hx) (I.base.keep b o e n hb hx) (I.base.free b o e n hx)
 . obtain⟨sl,e1⟩:=I.base.slot b o e n hb hx;obtain⟨Wq,e2⟩:=slot b _ (ZP b o e) hb (Wo b o e hx) e1 (I.base.free b o e n hx);exact⟨Wq,e2⟩
 . obtain⟨o',e1⟩:=I.base.there b o e hx;exact free b o' (Wo b o e hx) e1 (I.base.free b o e n hx)
 . obtain⟨o',e1⟩:=I.base.there b o e hx;exact there b o' (Wo b o e hx) e1
 . obtain⟨m1,e1⟩:=I.base.iA b ps e;obtain⟨m2,e2⟩:=iA b _ e1;exact⟨m1++m2,by rw[e2,Array.append_assoc]⟩
 .
  obtain⟨m,hn,hl⟩:=I.loc;refine⟨m,ns m hn,λi x v e1 e2 e3=>?_⟩
  obtain⟨u,r,l⟩:=hl i x v e1 e2 e3;refine⟨u,r,?_⟩;rcases l with l |⟨k,c,e,z⟩
  . exact .inl l
  . exact .inr ⟨k,c,e,cellK x c e _ z⟩
 . obtain⟨v,z⟩:=I.cell x c e;exact⟨v,cellK x c e v z⟩
 . obtain⟨m,⟨o,_,_,ho,_⟩,_⟩:=I.loc;exact free _ o (λz=>(hch _ z).2.1 rfl) ho I.free
 . obtain⟨v,o,ho,hd⟩:=I.cell x c e;exact free c o (λz=>(hch c z).2.2.1 x c e rfl) ho (I.cG x c e)
 .
  obtain⟨e,n,ne,nf,d⟩:=I.pin p hp;have RL:p.1∉ch:=λz=>(hch p.1 z).2.2.2 p hp rfl
  exact⟨keep p.1 p.2 ne nf RL e n,free p.1 p.2 RL e n,ne,nf,d⟩
theorem Inv.un{t':Nat}(I: ~~~7)(u:Un X.fs [] H H' s.heap h')(hok:jc X.prog X.w H' h'):Inv X ah O H' { s with heap:=h',toks:=t'}:=by
 obtain⟨m,⟨o,es,ep,ho,r⟩,_⟩:=id I.loc;obtain⟨sl,hL⟩:=u.any ho I.free ⋯;exact I.step (ch:=[]) (λ_ z=>nomatch z) (λb o _ hb _ e n=>u.keep b o e n hb ⋯) (λb o _ hb _ e n=>u.slot b o e n hb ⋯) (λb o _ e n=>u.free b o e n ⋯) (λb o _ e=>u.there b o e ⋯) u.tups u.iz u.iA (λm' hm=>by
  obtain⟨o',es',DS,ho',r'⟩:=hm;rw[ho]at ho';cases ho';exact⟨_,es',DS,hL,r'⟩) hok I.bare
theorem Inv.call{g':Array GenState}{t':Nat}{d':Drawn}{ch:List Addr}(I: ~~~7)(u:Un (frs X.stack) ch H H' s.heap h')(hok:jc X.prog X.w H' h')(hg:AllBare g')
  (hch:∀b∈ch,(b∈X.ex\/X.s₀⁻¹<=b)/\b≠X.env.locals/\(∀x c,X.env.cells.lookup x=some c->c≠b)/\∀p∈X.pn++ah,p.1≠b) :
  Inv X ah O H' { s with heap:=h',gens:=g',drawn:=d',toks:=t'}:=by
 obtain⟨m,⟨o,es,ep,ho,r⟩,_⟩:=id I.loc;obtain⟨sl,hL⟩:=u.any ho I.free λz=>(hch _ z).2.1 rfl
 exact I.step hch (λb o hL hb hc e n=>u.keep b o e n (λz=>(b0.mp (I.se b z)).elim hL hb) hc) (λb o _ _ hc e n=>u.any e n hc) (λb o hc e n=>u.free b o e n hc) (λb o hc e=>u.there b o e hc) u.tups u.iz u.iA (λm' hm=>by
  obtain⟨o',es',DS,ho',r'⟩:=hm;rw[ho]at ho';cases ho';exact⟨_,es',DS,hL,r'⟩) hok hg
theorem Inv.turned{t':Nat}{it:Addr}(I: ~~~7)(k:∀b o,b≠it->s.heap.get? b=some o->h'.get? b=some o)(hn:H it=none)(hL:it≠X.env.locals)
  (h1:it∈X.ex\/X.s₀⁻¹<=it) (h2:∀x c,X.env.cells.lookup x=some c->c≠it) (h3:∀p∈X.pn++ah,p.1≠it):Inv X ah O H { s with heap:=h',toks:=t'}:=by
 have ZQ:∀b u,H b=some u->b≠it:=λb u e z=>by rw[z,hn]at e;cases e
 refine I.step (ch:=[it]) (λb hb=>?_) (λb o _ _ hc e _=>k b o (λz=>hc (by simp[z])) e) (λb o _ _ hc e _=>⟨o.slots,k b o (λz=>hc (by simp[z])) e⟩) (λ_ _ _ _ n=>n)
  (λb o hc e=>⟨o,k b o (λz=>hc (by simp[z])) e⟩) (λ_ _ e=>e) (λ_ _ _ e=>e) (λb ps e=>⟨#[],by rw[e];simp⟩) (λm hm=>?_) (λb u e=>?_) I.bare
 .
  have e:b=it:=by simpa using hb
  subst e;exact⟨h1,hL,h2,h3⟩
 . obtain⟨o,es,ep,ho,r⟩:=hm;exact⟨o,es,ep,k _ o (lS hL) ho,r⟩
 .
  refine (I.hok b u e).stay (λc v hc q=>k c v ?_ q) (λ_ q=>q) λ_ _ q=>q
  rcases hc with z |z
  . rw[z];exact ZQ b u e
  . exact ZQ c _ z
theorem Inv.tok(I: ~~~7)(t:Nat):Inv X ah O H { s with toks:=t}:=I.un Un.refl I.hok
theorem Inv.kept{t':Nat}(I: ~~~7)(k:∀b u,s.heap.get? b=some u->h'.get? b=some u):Inv X ah O H { s with heap:=h',toks:=t'}:=I.un (Un.kept k) (I.hok.kept k)
theorem Inv.laid{a:Addr}{o:HO}{t':Nat}(I: ~~~7)(k:∀b u,s.heap.get? b=some u->h'.get? b=some u)(hp:s⁻¹<=a)(new:cg X.prog X.w (upd H a o) h' a o) :
  Inv X ah O (upd H a o) { s with heap:=h',toks:=t'}:=I.un (Un.laid k hp (I.hok.fresh hp)) (I.hok.laid k hp new)
theorem Inv.write(I: ~~~7)(mu:Wm (H x))(he:e=x\/H e=some (.own x))(k:∀b u,b≠e->s.heap.get? b=some u->h'.get? b=some u)(Q5:∃u,h'.get? e=some u)
  (new:cg X.prog X.w (upd H x o) h' x o):Inv X ah O (upd H x o) { s with heap:=h',toks:=t'}:=I.un (Un.write mu he k Q5) (I.hok.write mu he k Q5 new)
theorem Inv.uv(I: ~~~7)(h:∀p∈RM,s.heap.get? p.1=some p.2/\H p.1=none/\p.1≠X.env.locals/\p.1∉X.fs/\∀v,p.2.data≠.cell v):Inv X RM O H s:=
 ⟨I.ok,I.os,I.bare,I.base,I.loc,I.cell,I.free,I.cG,λp hp=>(yB.mp hp).elim (λz=>I.pin p (AA _ z)) (h p),I.hok,I.len⟩
theorem jW{N:List Str}(hN:N.Nodup){i j:Nat}{x:Str}(a:N[i]?=some x)(b:N[j]?=some x):i=j:=by obtain⟨h1,e1⟩:=a9.mp a;obtain⟨h2,e2⟩:=a9.mp b;exact (List.getElem_inj hN).mp (e1.trans e2.symm)
theorem mL{M:Model}{A:Around}{E:Value->Shared->Prop}{i:Nat}{x:Str}{v:V}{u:Value}{Q:Unit->Shared->Prop}(I: ~~~7)(hN:X.N.Nodup)(hi:X.N[i]?=some x)(hx:Loc X.env.scope x)(r:RelV v u)
  (h:∀s',Inv X ah (O.set i (some v)) H s'->(∃a,Heap.SameBut a s.heap s'.heap/\(a=X.env.locals\/X.env.cells.lookup x=some a))->Q () s') (hf:X.fn x=true\/X.env.scope.names.lookup x=some .local:=by first |exact .inl rfl |exact .inr rfl |assumption):wpAny M A (storeName X.env x u) Q E s:=by
 obtain⟨m,hn,hl⟩:=id I.loc;have hcls:(X.env.scope.kind==.class||(X.env.scope.kind==.module&&X.env.locals != X.env.globals))=false:=by rw[I.ok.kind];rfl
 have RN:i<O.length:=by rw[I.len];exact (a9.mp hi).1
 have K3:=I.K3;have tracked:∀{a:Addr}{h':Heap},(∃o,s.heap.get? a=some o/\H a=none)->Heap.SameBut a s.heap h'->jc X.prog X.w H h':=λ{a h'} ha hs b ob e=>by
  obtain⟨_,_,hfree⟩:=ha;refine (I.hok b ob e).stay (λc w' hc q=>(hs.2 c ?_).trans q) (λ_ q=>q) λ_ _ q=>q
  rintro rfl;rcases hc with rfl |hc
  . rw[hfree]at e;cases e
  . rw[hfree]at hc;cases hc
 rcases hx with hk |hk
 .
  refine wpAny_storeName_local hk hn (λh' hn' hs=>?_) hcls
  obtain⟨oL,_,_,Wr,_⟩:=id hn;refine h _ ⟨I.ok,I.os,I.bare,⟨λb o e n hb hx=>?_,λb o e n hb hx=>?_,I.base.free,λb o e hx=>?_,I.base.tups,I.base.iz,I.base.iA⟩,⟨_,hn',λj y v' e1 e2 e3=>?_⟩,λy c e=>?_,I.free,I.cG,λp hp=>?_,tracked ⟨oL,Wr,I.free⟩ hs,by simpa using I.len⟩ ⟨_,hs,.inl rfl⟩
  . exact (hs.2 b (fN (eJ (dL e) I.ok.above))).trans (I.base.keep b o e n hb hx)
  . obtain⟨sl,e1⟩:=I.base.slot b o e n hb hx;exact⟨sl,(hs.2 b (fN (eJ (dL e) I.ok.above))).trans e1⟩
  . obtain⟨o',e1⟩:=I.base.there b o e hx;exact⟨o',(hs.2 b (fN (eJ (dL e) I.ok.above))).trans e1⟩
  .
   by_cases hj:j=i
   . subst hj;rw[hi]at e1;cases e1;rw[gN RN]at e2;cases e2;exact⟨u,r,.inl ⟨hk,by simp⟩⟩
   .
    rw[eD (lS hj)]at e2;obtain⟨u',r',q⟩:=hl j y v' e1 e2 e3;refine⟨u',r',?_⟩;rcases q with ⟨k,e⟩ |⟨k,c,e,z⟩
    .
     refine .inl ⟨k,?_⟩;have:y≠x:=λe=>hj (jW hN e1 (e▸hi))
     simp[this,e]
    . exact .inr ⟨k,c,e,z.sameBut hs (K3 y c e)⟩
  . obtain⟨w',z⟩:=I.cell y c e;exact⟨w',z.sameBut hs (K3 y c e)⟩
  . obtain⟨e,n,ne,nf,d⟩:=I.pin p hp;exact⟨(hs.2 p.1 ne).trans e,n,ne,nf,d⟩
 .
  have hfn:X.fn x=true:=by
   rcases hf with z |z
   . exact z
   . rw[z]at hk;cases hk
  obtain⟨c,hc⟩:=I.ok.has x (.inl hk);obtain⟨w',z⟩:=I.cell x c hc;refine wpAny_storeName_cell I.ok.kind hk hc z (λh' hc' hs=>?_)
  obtain⟨oc,hoc,Xm⟩:=id z;refine h { s with heap:=h'} ⟨I.ok,I.os,I.bare,⟨λb o e n hb hx=>?_,λb o e n hb hx=>?_,I.base.free,λb o e hx=>?_,I.base.tups,I.base.iz,I.base.iA⟩,⟨m,hn.sameBut hs (lS (K3 x c hc)),λj y v' e1 e2 e3=>?_⟩,λy c' e=>?_,I.free,I.cG,λp hp=>?_,tracked ⟨oc,hoc,I.cG x c hc⟩ hs,by simpa using I.len⟩ ⟨c,hs,.inr hc⟩
  . exact (hs.2 b (fN (eJ (dL e) (I.ok.K1 x c hfn hc)))).trans (I.base.keep b o e n hb hx)
  . obtain⟨sl,e1⟩:=I.base.slot b o e n hb hx;exact⟨sl,(hs.2 b (fN (eJ (dL e) (I.ok.K1 x c hfn hc)))).trans e1⟩
  . obtain⟨o',e1⟩:=I.base.there b o e hx;exact⟨o',(hs.2 b (fN (eJ (dL e) (I.ok.K1 x c hfn hc)))).trans e1⟩
  .
   by_cases hj:j=i
   . subst hj;rw[hi]at e1;cases e1;rw[gN RN]at e2;cases e2;exact⟨u,r,.inr ⟨.inl hk,c,hc,hc'⟩⟩
   .
    rw[eD (lS hj)]at e2;obtain⟨u',r',q⟩:=hl j y v' e1 e2 e3;refine⟨u',r',?_⟩;rcases q with q |⟨k,c',e,z'⟩
    . exact .inl q
    . refine .inr ⟨k,c',e,z'.sameBut hs ?_⟩;rintro rfl;exact hj (jW hN e1 (I.ok.inj _ _ _ e hc▸hi))
  .
   by_cases hcc:c'=c
   . subst hcc;exact⟨_,hc'⟩
   . obtain⟨w2,z2⟩:=I.cell y c' e;exact⟨w2,z2.sameBut hs hcc⟩
  . obtain⟨e,n,ne,nf,d⟩:=I.pin p hp;refine⟨(hs.2 p.1 ?_).trans e,n,ne,nf,d⟩;intro q;rw[q,hoc]at e;have q':=l6 e;exact d w' (by rw[<- q'];exact Xm)
theorem jX{M:Model}{A:Around}{E:Value->Shared->Prop}{i:Nat}{x:Str}{v:V}{u:Value}{Q:Unit->Shared->Prop}(I: ~~~7)(hN:X.N.Nodup)(hi:X.N[i]?=some x)(hx:Loc X.env.scope x)(r:RelV v u)
  (h:∀s',Inv X ah (O.set i (some v)) H s'->Q () s') (hf:X.fn x=true\/X.env.scope.names.lookup x=some .local:=by first |exact .inl rfl |exact .inr rfl |assumption):wpAny M A (storeName X.env x u) Q E s:=
 mL I hN hi hx r (λs' I' _=>h s' I') hf
theorem Inv.call'(I: ~~~7)(ho:s'.os=s.os)(u:Un (frs X.stack) ch H H' s.heap s'.heap)(hok:jc X.prog X.w H' s'.heap)(hg:AllBare s'.gens)
  (hch:∀b∈ch,(b∈X.ex\/X.s₀⁻¹<=b)/\b≠X.env.locals/\(∀x c,X.env.cells.lookup x=some c->c≠b)/\∀p∈X.pn++ah,p.1≠b):Inv X ah O H' s':=by
 obtain⟨h',g',d',t',o'⟩:=s';have e:=ho;subst e;exact I.call u hok hg hch
end
abbrev XK:=Value->Option Addr->Hp->Prop
abbrev St:=List (Option V)
abbrev VK:=V->Hp->Prop
abbrev TE:=St->Hp->VK->Prop
abbrev TT:=St->Hp->(Bool->Hp->Prop)->Prop
abbrev TA:=St->Hp->(List V->Hp->Prop)->Prop
structure Ends where
 nx:St->Hp->Prop
 rt:VK
 bk:St->Hp->Prop:=λ_ _=>False
 ct:St->Hp->Prop:=λ_ _=>False
abbrev TS:=Ends->St->Hp->Prop
def EP(X:Cx)(ah: ~~~1)(O:St)(Q:VK)(u:Value)(s':Shared):Prop:=∃v H',Inv X ah O H' s'/\RelV v u/\Q v H'
def TP(X:Cx)(ah: ~~~1)(O:St)(Q:Bool->Hp->Prop)(b:Bool)(s':Shared):Prop:=∃H',Inv X ah O H' s'/\Q b H'
def AP(X:Cx)(ah: ~~~1)(O:St)(Q:List V->Hp->Prop)(us:List Value)(s':Shared):Prop:=∃vs H',Inv X ah O H' s'/\Vals vs us/\Q vs H'
def SP(X:Cx)(ah: ~~~1)(D:Ends)(f:Flow)(s':Shared):Prop:=
 match f with
 |.next=>∃σ' H',Inv X ah σ' H' s'/\D.nx σ' H'
 |.brk=>∃σ' H',Inv X ah σ' H' s'/\D.bk σ' H'
 |.cont=>∃σ' H',Inv X ah σ' H' s'/\D.ct σ' H'
 |.ret u=>∃v σ' H',Inv X ah σ' H' s'/\RelV v u/\D.rt v H'
def PE(X:Cx)(e:Expr)(t:TE):Prop:=
 ∀(ah: ~~~1) (s:Shared) (O:St) (H:Hp) (Q:VK),Inv X ah O H s->t O H Q->wpAny (~~~2) X.A (eval e X.env) (EP X ah O Q) X.xe s
def PT(X:Cx)(e:Expr)(t:TT):Prop:=
 ∀(ah: ~~~1) (s:Shared) (O:St) (H:Hp) (Q:Bool->Hp->Prop),Inv X ah O H s->t O H Q->wpAny (~~~2) X.A (isTrue e X.env (eval e X.env)) (TP X ah O Q) X.xe s
def PW(X:Cx)(e:Expr)(t:TT):Prop:=
 ∀(whole:Sem Value) (ah: ~~~1) (s:Shared) (O:St) (H:Hp) (Q:Bool->Hp->Prop),Inv X ah O H s->t O H Q->wpAny (~~~2) X.A (isTrue e X.env whole) (TP X ah O Q) X.xe s
theorem PW.pt{X:Cx}{e:Expr}{t:TT}(h:PW X e t):PT X e t:=h _
def PA(X:Cx)(es:List Expr)(t:TA):Prop:=
 ∀(pos:Pos) (ah: ~~~1) (s:Shared) (O:St) (H:Hp) (Q:List V->Hp->Prop),Inv X ah O H s->t O H Q->wpAny (~~~2) X.A (spliced (backTo pos (starEach es X.env))) (AP X ah O Q) X.xe s
def PS(X:Cx)(st:Stmt)(t:TS):Prop:=
 ∀(ah: ~~~1) (s:Shared) (O:St) (H:Hp) (D:Ends),Inv X ah O H s->t D O H->wpAny (~~~2) X.A (exec st X.env) (SP X ah D) X.xe s
def n5(X:Cx)(st:List Stmt)(t:TS):Prop:=
 ∀(ah: ~~~1) (s:Shared) (O:St) (H:Hp) (D:Ends),Inv X ah O H s->t D O H->wpAny (~~~2) X.A (execs st X.env) (SP X ah D) X.xe s
theorem bC{α:Type}{t:Sem α}{Q Q':α->Shared->Prop}{M:Model}{A:Around}{E:Value->Shared->Prop}{s:Shared}(h:wpAny M A t Q E s)(hQ:∀a s,Q a s->Q' a s):wpAny M A t Q' E s:=hZ h hQ λ_ _ x=>x
section
variable{X:Cx}
def Xn(i:Nat):TE:=λO H Q=>∃v,O[i]?=some (some v)/\Q v H
def tC(v:V):TE:=λ_ H Q=>Q v H
theorem jd(hN:X.N[i]?=some x)(hv:rZ X.env.scope x)(hd:(x==(~~~3))=false:=by decide)(cB:(x==("__classdict__":Str))=false:=by decide):PE X (.Name x pos) (Xn i):=by
 intro ah s O H Q I h;obtain⟨v,e,h⟩:=h;obtain⟨m,hn,hl⟩:=I.loc;obtain⟨u,r,l⟩:=hl i x v hN e hv;have fin:EP X ah O Q u s:=⟨v,H,I,r,h⟩;rcases l with ⟨hk,hm⟩ |⟨hk,c,hc,hcell⟩
 . exact B4 (wpAny_loadName_local I.ok.kind hk hn hm fin) hd
 .
  rcases hk with hk |hk
  . exact B4 (wpAny_loadName_cell I.ok.kind hk hc hcell fin) hd
  . exact B4 (wpAny_loadName_free I.ok.kind hk hc hcell fin cB) hd
theorem K4{i j pos}:PE X (.Constant (.int i) j pos) (tC (.int i)):=λ_ _ _ H _ I h=>wpAny_Constant_int ⟨.int i,H,I.tok _,⟨_,rfl⟩,h⟩
theorem RP{b j pos}:PE X (.Constant (.bool b) j pos) (tC (.bl b)):=λ_ _ _ H _ I h=>Constant_bool ⟨.bl b,H,I,rfl,h⟩
theorem yx{j pos}:PE X (.Constant .none j pos) (tC .non):=λ_ _ _ H _ I h=>Constant_none ⟨.non,H,I,rfl,h⟩
theorem K5{x j pos}:PE X (.Constant (.str x) j pos) (tC (.str x)):=λ_ _ _ H _ I h=>Calls.Constant_str ⟨.str x,H,I.tok _,⟨_,rfl⟩,h⟩
def Gl(X:Cx)(x:Str):Prop:=X.env.kindOf x=some .globalImplicit
theorem eF{E:Value->Shared->Prop}{ah: ~~~1}{s:Shared}{O:St}{H:Hp}{x:Str}{u:Value}{pos:Pos}{Q:Value->Shared->Prop}(I: ~~~7)(hg:Gl X x)(hm:X.mg x=some u)(h:Q u s)
  (hd:(x==(~~~3))=false:=by decide):wpAny (~~~2) X.A (eval (.Name x pos) X.env) Q E s:=
 Calls.Name_function_global I.ok.kind hg (Calls.loadGlobal_global (by rw[I.ok.glob];exact I.mod.glob.keeps I.bk) hm h) hd
theorem fD{E:Value->Shared->Prop}{ah: ~~~1}{s:Shared}{O:St}{H:Hp}{x:Str}{u:Value}{pos:Pos}{Q:Value->Shared->Prop}(I: ~~~7)(hg:Gl X x)(hm:X.mg x=none)(hv:bootBuiltins x=some u)(h:Q u s)
  (hn:x≠ "__name__" :=by decide) (hd:(x==(~~~3))=false:=by decide):wpAny (~~~2) X.A (eval (.Name x pos) X.env) Q E s:=by
 obtain⟨mb,h1,h2⟩:=I.mod.blt;exact Calls.Name_function_global I.ok.kind hg (Calls.loadGlobal_builtin (by rw[I.ok.glob];exact I.mod.glob.keeps I.bk) hm (by rw[I.ok.blt];exact h1.keeps I.bk) ((h2 x hn).trans hv) h) hd
theorem uw(hg:Gl X x)(hm:X.mg x=some u)(r:RelV v u)(hd:(x==(~~~3))=false:=by decide):PE X (.Name x pos) (tC v):=
 λ_ _ _ H _ I h=>eF I hg hm ⟨v,H,I,r,h⟩ hd
theorem n6(hg:Gl X x)(hm:X.mg x=none)(hv:bootBuiltins x=some u)(r:RelV v u)(hn:x≠ "__name__" :=by decide)(hd:(x==(~~~3))=false:=by decide):PE X (.Name x pos) (tC v):=
 λ_ _ _ H _ I h=>fD I hg hm hv ⟨v,H,I,r,h⟩ hn hd
variable{a b:Expr}{ta tb:TE}{pos:Pos}
def tB(t:TE):TT:=λO H Q=>t O H λx H1=>∃c,x=.bl c/\Q c H1
theorem K6{e:Expr}{t:TE}(h:PE X e t)(he:∀whole,isTrue e X.env whole=(do let v <- whole;standAt e.pos;holding [v] (truthy v)):=by intro _;rfl):PT X e (tB t):=by
 intro ah s O H Q I hw;refine isTrue_plain (bC (h ah s O H _ I hw) λv s1 ⟨x,H1,I1,r1,q1⟩=>?_) (he _)
 obtain⟨d,rfl,q⟩:=q1;cases r1;exact l7 ⟨H1,I1,q⟩
variable{tA Ws:TT}{rest:List Expr}
noncomputable def Xo(t u:TT):TT:=λO H Q=>t O H λc H1=>if c=true then u O H1 Q else Q false H1
noncomputable def tOr(t u:TT):TT:=λO H Q=>t O H λc H1=>if c=true then Q true H1 else u O H1 Q
def Xp(t:TT):TT:=λO H Q=>t O H λc H1=>Q (!c) H1
theorem pw_and1(ha:PT X a tA):PW X (.BoolOp .And [a] pos) tA:=by
 intro wh ah s O H Q I h;refine isTrue_and (bC (ha ah s O H Q I h) λc s1 e=>?_)
 cases c with
 |true=>exact isTrue_and_nil e
 |false=>exact e
theorem pw_or1(ha:PT X a tA):PW X (.BoolOp .Or [a] pos) tA:=by
 intro wh ah s O H Q I h;refine isTrue_or (bC (ha ah s O H Q I h) λc s1 e=>?_)
 cases c with
 |false=>exact isTrue_or_nil e
 |true=>exact e
theorem pw_and(ha:PT X a tA)(hb:PW X (.BoolOp .And (b::rest) pos) Ws):PW X (.BoolOp .And (a::b::rest) pos) (Xo tA Ws):=by
 intro wh ah s O H Q I h;refine isTrue_and (bC (ha ah s O H _ I h) ?_);rintro c s1 ⟨H1,I1,q1⟩;cases c with
 |true=>exact hb wh ah s1 O H1 Q I1 q1
 |false=>exact⟨H1,I1,q1⟩
theorem pw_or(ha:PT X a tA)(hb:PW X (.BoolOp .Or (b::rest) pos) Ws):PW X (.BoolOp .Or (a::b::rest) pos) (tOr tA Ws):=by
 intro wh ah s O H Q I h;refine isTrue_or (bC (ha ah s O H _ I h) ?_);rintro c s1 ⟨H1,I1,q1⟩;cases c with
 |true=>exact⟨H1,I1,q1⟩
 |false=>exact hb wh ah s1 O H1 Q I1 q1
theorem yy(ha:PT X a tA):PT X (.UnaryOp .Not a pos) (Xp tA):=by intro ah s O H Q I h;exact isTrue_not (ha ah s O H (λc H1=>Q (!c) H1) I h)
noncomputable def RQ(ta tb:TE):TE:=λO H Q=>ta O H λx H1=>∃c,x=.bl c/\if c=true then tb O H1 Q else Q (.bl false) H1
noncomputable def Xq(ta tb:TE):TE:=λO H Q=>ta O H λx H1=>∃c,x=.bl c/\if c=true then Q (.bl true) H1 else tb O H1 Q
def RT(ta:TE):TE:=λO H Q=>ta O H λx H1=>∃c,x=.bl c/\Q (.bl (!c)) H1
theorem K7{op}(h:PE X a t):PE X (.BoolOp op [a] pos) t:=λah s O H Q I hw=>BoolOp_one (h ah s O H Q I hw)
theorem yz(ha:PE X a ta)(hb:PE X (.BoolOp .And (b::rest) pos) tb):PE X (.BoolOp .And (a::b::rest) pos) (RQ ta tb):=by
 intro ah s O H Q I h;refine BoolOp_and (bC (ha ah s O H _ I h) ?_);rintro v s1 ⟨x,H1,I1,r1,q1⟩;obtain⟨c,rfl,q1⟩:=q1;cases r1;refine l7 ?_;cases c with
 |true=>exact hb ah s1 O H1 Q I1 q1
 |false=>exact⟨.bl false,H1,I1,rfl,q1⟩
theorem Kc(ha:PE X a ta)(hb:PE X (.BoolOp .Or (b::rest) pos) tb):PE X (.BoolOp .Or (a::b::rest) pos) (Xq ta tb):=by
 intro ah s O H Q I h;refine BoolOp_or (bC (ha ah s O H _ I h) ?_);rintro v s1 ⟨x,H1,I1,r1,q1⟩;obtain⟨c,rfl,q1⟩:=q1;cases r1;refine l7 ?_;cases c with
 |false=>exact hb ah s1 O H1 Q I1 q1
 |true=>exact⟨.bl true,H1,I1,rfl,q1⟩
theorem K8(ha:PE X a ta):PE X (.UnaryOp .Not a pos) (RT ta):=by intro ah s O H Q I h;refine UnaryOp_ (bC (ha ah s O H _ I h) ?_);rintro v s1 ⟨x,H1,I1,r1,q1⟩;obtain⟨c,rfl,q1⟩:=q1;cases r1;exact not_of (l7 ⟨.bl (!c),H1,I1,rfl,q1⟩)
noncomputable def tIf(t:TT)(ta tb:TE):TE:=λO H Q=>t O H λc H1=>if c=true then ta O H1 Q else tb O H1 Q
theorem p8{c:Expr}(hc:PT X c tA)(ha:PE X a ta)(hb:PE X b tb):PE X (.IfExp c a b pos) (tIf tA ta tb):=by
 intro ah s O H Q I h;refine wpAny_IfExp (bC (hc ah s O H _ I h) ?_);rintro d s1 ⟨H1,I1,q1⟩;cases d with
 |true=>exact ha ah s1 O H1 Q I1 q1
 |false=>exact hb ah s1 O H1 Q I1 q1
end
def cF(K:Frag)(H:Hp)(a:Addr)(xs:List V):Prop:=
 Rd H a (.lst xs)\/
  ∃(o:Obj) (aB:Array Value) (n:Nat),K.lookup a=some o/\o.cls=.type "list" /\o.dict=none/\o.data=.seq aB n/\aB.size<=sizeLine/\Vals xs aB.toList
def ig(K:Frag)(H:Hp)(a:Addr)(xs:List V):Prop:=
 Rd H a (.tup xs)\/
  ∃(o:Obj) (aB:Array Value) (n:Nat),K.lookup a=some o/\o.cls=.type "tuple" /\o.data=.seq aB n/\aB.size<=sizeLine/\Vals xs aB.toList
noncomputable def Xr:Value->Option V
 |.none=>some .non
 |.bool b=>some (.bl b)
 |.int i _=>some (.int i)
 |.str x _=>some (.str x)
 |.bytes b _=>some (.KY b)
 |.float b _=>some (.flt b)
 |.ref a=>some (.ref a)
 |.type n=>some (.ty n)
 |_=>none
theorem RelV.abs(r:RelV x u):Xr u=some x:=by
 cases x with
 |non=>cases r;rfl
 |bl _=>cases r;rfl
 |int _=>obtain⟨t,rfl⟩:=r;rfl
 |str _=>obtain⟨t,rfl⟩:=r;rfl
 |KY _=>obtain⟨t,rfl⟩:=r;rfl
 |flt _=>obtain⟨t,rfl⟩:=r;rfl
 |ref _=>cases r;rfl
 |ty _=>cases r;rfl
theorem RelV.inj{x y:V}{u:Value}(r:RelV x u)(q:RelV y u):x=y:=l6 (r.abs.symm.trans q.abs)
theorem Vals.inj:∀{xs ys:List V}{us:List Value},Vals xs us->Vals ys us->xs=ys:=by
 intro xs ys us h
 induction h generalizing ys with
 |nil=>intro h';cases h';rfl
 |cons r t ih=>intro h';cases h' with |cons r' t'=>rw[r.inj r',ih t']
section
variable{X:Cx}{ah: ~~~1}{O:St}{H:Hp}{s:Shared}{a:Addr}{xs ys:List V}
theorem cF.of{K:Frag}(h:H a=some (.lst xs)):cF K H a xs:=.inl (.inl h)
theorem Inv.list(I: ~~~7)(h:cF X.K H a xs):∃aB:List Value,Vals xs aB/\PlainL s.heap a aB.toArray/\xs.length<=sizeLine:=by
 rcases h with h |⟨o,aB,n,hk,hc,hd,hs,hz,r⟩
 . obtain⟨z,aB,n,r,e⟩:=h.ok I.hok;exact⟨aB,r,⟨_,n,e,rfl,rfl,rfl⟩,z⟩
 .
  refine⟨aB.toList,r,⟨o,n,I.jL a o hk,hc,hd,by simpa using hs⟩,?_⟩
  have e:=r.length;simp only[w8]at e;lia
theorem Inv.tuple(I: ~~~7)(h:ig X.K H a xs):∃aB:List Value,Vals xs aB/\IsTup s.heap a aB.toArray/\xs.length<=sizeLine:=by
 rcases h with h |⟨o,aB,n,hk,hc,hs,hz,r⟩
 . obtain⟨z,aB,r,p⟩:=h.ok I.hok;exact⟨aB,r,p.tup,z⟩
 .
  refine⟨aB.toList,r,⟨o,I.jL a o hk,hc,n,by simpa using hs⟩,?_⟩
  have e:=r.length;simp only[w8]at e;lia
theorem Inv.p9(I: ~~~7)(h:cF X.K H a xs)(h':cF X.K H a ys):xs=ys:=by
 obtain⟨aB,r,⟨o,n,e,_,_,d⟩,_⟩:=I.list h;obtain⟨its',r',⟨o',n',e',_,_,d'⟩,_⟩:=I.list h';rw[e]at e';cases e';rw[d]at d';injection d' with d1 _;have:aB=its':=by simpa using congrArg Array.toList d1
 subst this;exact r.inj r'
theorem Inv.mO(I: ~~~7)(h:ig X.K H a xs)(h':ig X.K H a ys):xs=ys:=by
 obtain⟨aB,r,⟨o,e,_,n,d⟩,_⟩:=I.tuple h;obtain⟨its',r',⟨o',e',_,n',d'⟩,_⟩:=I.tuple h';rw[e]at e';cases e';rw[d]at d';injection d' with d1 _;have:aB=its':=by simpa using congrArg Array.toList d1
 subst this;exact r.inj r'
end
abbrev Cx.wish(X:Cx)(E:Value->Shared->Prop):Cx:={ X with xe:=E}
abbrev Cx.jM(X:Cx):Cx:=X.wish λ_ _=>False
theorem Cx.Ok.wish{X:Cx}(ok:X.Ok)(E:Value->Shared->Prop):(X.wish E).Ok:=
 ⟨ok.mod,ok.kind,ok.glob,ok.blt,ok.above,ok.inj,ok.has,ok.K1,ok.hd,ok.frames,ok.stk,ok.Q6,ok.bs,ok.yw,ok.p7,ok.r9,ok.iB,ok.DR⟩
theorem Cx.Ok.bI{X:Cx}{E:Value->Shared->Prop}(ok:(X.wish E).Ok):X.Ok:=
 ⟨ok.mod,ok.kind,ok.glob,ok.blt,ok.above,ok.inj,ok.has,ok.K1,ok.hd,ok.frames,ok.stk,ok.Q6,ok.bs,ok.yw,ok.p7,ok.r9,ok.iB,ok.DR⟩
section
variable{X:Cx}{ah: ~~~1}{O:St}{H:Hp}{s:Shared}{E:Value->Shared->Prop}
theorem Inv.wish(I: ~~~7)(E:Value->Shared->Prop):Inv (X.wish E) ah O H s:=⟨I.ok.wish E,I.os,I.bare,I.base,I.loc,I.cell,I.free,I.cG,I.pin,I.hok,I.len⟩
theorem Inv.bI(I:Inv (X.wish E) ah O H s):Inv X ah O H s:=⟨I.ok.bI,I.os,I.bare,I.base,I.loc,I.cell,I.free,I.cG,I.pin,I.hok,I.len⟩
theorem SP.bI(h:SP (X.wish E) ah D f s'):SP X ah D f s':=by
 cases f with
 |next=>obtain⟨σ',H',I,q⟩:=h;exact⟨σ',H',I.bI,q⟩
 |brk=>obtain⟨σ',H',I,q⟩:=h;exact⟨σ',H',I.bI,q⟩
 |cont=>obtain⟨σ',H',I,q⟩:=h;exact⟨σ',H',I.bI,q⟩
 |ret u=>obtain⟨v,σ',H',I,r,q⟩:=h;exact⟨v,σ',H',I.bI,r,q⟩
theorem PE.jM(h:PE X.jM e t):PE X e t:=λah s O H Q I hw=>
 hZ (h ah s O H Q (I.wish _) hw) (by rintro _ _ ⟨v,H',I',r,q⟩;exact⟨v,H',I'.bI,r,q⟩) λ_ _ z=>False.elim z
theorem PT.jM(h:PT X.jM e t):PT X e t:=λah s O H Q I hw=>
 hZ (h ah s O H Q (I.wish _) hw) (by rintro _ _ ⟨H',I',q⟩;exact⟨H',I'.bI,q⟩) λ_ _ z=>False.elim z
theorem n5.jM{st:List Stmt}{t:TS}(h:n5 X.jM st t):n5 X st t:=λah s O H D I hw=>
 hZ (h ah s O H D (I.wish _) hw) (λ_ _ q=>q.bI) λ_ _ z=>False.elim z
end
section
variable{X:Cx}{st:Stmt}{rest:List Stmt}{t u:TS}{e:Expr}{te:TE}{pos:Pos}
def RV:TS:=λD O H=>D.nx O H
def RW(t u:TS):TS:=λD O H=>t { D with nx:=u D} O H
theorem DT:n5 X [] RV:=λ_ _ O H _ I h=>wpAny_execs_nil ⟨O,H,I,h⟩
theorem cS(h1:PS X st t)(h2:n5 X rest u):n5 X (st::rest) (RW t u):=by
 intro ah s O H D I h;refine AD (bC (h1 ah s O H { D with nx:=u D} I h) λf s1 q=>?_)
 cases f with
 |next=>obtain⟨σ',H',I',q⟩:=q;exact h2 ah s1 σ' H' D I' q
 |ret v=>exact q
 |brk=>exact q
 |cont=>exact q
theorem DW(h1:PS X st t):n5 X [st] t:=by
 intro ah s O H D I h;refine AD (bC (h1 ah s O H D I h) λf s1 q=>?_)
 cases f with
 |next=>exact wpAny_execs_nil q
 |ret v=>exact q
 |brk=>exact q
 |cont=>exact q
theorem Inv.quiet{ah: ~~~1}{O:St}{H:Hp}{s:Shared}(I: ~~~7):interactive X.env=false:=by simp[interactive,I.ok.kind]
def RX(te:TE):TS:=λD O H=>te O H λ_ H1=>D.nx O H1
theorem ux(he:PE X e te)(hs:swapsWith e none pos.line X.env=pure false:=by rfl):PS X (.Expr e pos) (RX te):=by intro ah s O H D I h;exact wpAny_Expr_any (bC (he ah s O H _ I h) (by rintro v s1 ⟨x,H1,I1,r1,q1⟩;exact⟨O,H1,I1,q1⟩)) I.quiet hs
def Xs(te:TE):TS:=λD O H=>te O H D.rt
theorem yC(he:PE X e te):PS X (.Return (some e) pos) (Xs te):=by intro ah s O H D I h;exact wpAny_Return_some (bC (he ah s O H _ I h) (by rintro v s1 ⟨x,H1,I1,r1,q1⟩;exact⟨x,O,H1,I1,r1,q1⟩))
noncomputable def Xu(c:TT)(t u:TS):TS:=λD O H=>c O H λb H1=>if b=true then t D O H1 else u D O H1
theorem qa{c:Expr}{a b:List Stmt}{tc:TT}(hc:PT X c tc)(ha:n5 X a t)(hb:n5 X b u):PS X (.If c a b pos) (Xu tc t u):=by
 intro ah s O H D I h;refine wpAny_If (bC (hc ah s O H _ I h) ?_);rintro d s1 ⟨H1,I1,q1⟩;cases d with
 |true=>exact ha ah s1 O H1 D I1 q1
 |false=>exact hb ah s1 O H1 D I1 q1
def K9:TS:=λ_ _ _=>False
theorem bf:n5 X fZ K9:=λ_ _ _ _ _ _ h=>h.elim
end
abbrev TG:=V->St->Hp->(St->Hp->Prop)->Prop
abbrev La:=List V->St->Hp->(St->Hp->Prop)->Prop
def PG(X:Cx)(target:Expr)(t:TG):Prop:=
 ∀(ah: ~~~1) (s:Shared) (O:St) (H:Hp) (v:V) (u:Value) (Q:St->Hp->Prop),Inv X ah O H s->RelV v u->t v O H Q->
  wpAny (~~~2) X.A (assign target X.env u) (λ_ s'=>∃σ' H',Inv X ah σ' H' s'/\Q σ' H') X.xe s
def Q7(X:Cx)(ts:List Expr)(t:La):Prop:=
 ∀(ah: ~~~1) (s:Shared) (O:St) (H:Hp) (vs:List V) (us:List Value) (Q:St->Hp->Prop),Inv X ah O H s->Vals vs us->t vs O H Q->
  wpAny (~~~2) X.A (assignInOrder ((assignEach ts X.env).map (·.2)) us) (λ_ s'=>∃σ' H',Inv X ah σ' H' s'/\Q σ' H') X.xe s
abbrev yD:=V->V->V->Hp->(Hp->Prop)->Prop
def Lb(X:Cx)(t:yD):Prop:=
 ∀(ah: ~~~1) (s:Shared) (O:St) (H:Hp) (o i v:V) (ov iv u:Value) (Q:Hp->Prop),Inv X ah O H s->RelV o ov->RelV i iv->RelV v u->t o i v H Q->
  wpAny (~~~2) X.A (setItem ov iv u) (λ_ s'=>∃H',Inv X ah O H' s'/\Q H') X.xe s
abbrev Wt:=V->V->Hp->VK->Prop
def ZR(X:Cx)(op:Operator)(t:Wt):Prop:=
 ∀(ah: ~~~1) (s:Shared) (O:St) (H:Hp) (x y:V) (v u:Value) (Q:VK),Inv X ah O H s->RelV x v->RelV y u->t x y H Q->
  wpAny (~~~2) X.A (inplaceOp op v u) (EP X ah O Q) X.xe s
section
variable{X:Cx}{pos:Pos}
def yE(i:Nat):TG:=λv O H Q=>Q (O.set i (some v)) H
theorem uy(hN:X.N.Nodup)(hi:X.N[i]?=some x)(hx:Loc X.env.scope x)(hf:X.fn x=true\/X.env.scope.names.lookup x=some .local:=by first |exact .inl rfl |exact .inr rfl |assumption):PG X (.Name x pos) (yE i):=by intro ah s O H v u Q I r h;exact wpAny_assign_Name (jX I hN hi hx r (λs' I'=>⟨_,H,I',h⟩) hf)
def Xv:La:=λvs O H Q=>vs=[]/\Q O H
noncomputable def RZ(t:TG)(u:La):La:=λvs O H Q=>∃v r,vs=v::r/\t v O H λσ' H'=>u r σ' H' Q
theorem DX:Q7 X [] Xv:=by intro ah s O H vs us Q I r h;obtain⟨e,h⟩:=h;subst e;exact assignInOrder_nil ⟨O,H,I,h⟩
theorem yF{e:Expr}{es:List Expr}{t:TG}{u:La}(h1:PG X e t)(h2:Q7 X es u)
  (hs:(assignEach (e::es) X.env).map (·.2)=assign e X.env::(assignEach es X.env).map (·.2):=by rfl):Q7 X (e::es) (RZ t u):=by
 intro ah s O H vs us Q I r h;obtain⟨v,vr,e1,h⟩:=h;subst e1;cases r with
 |cons r rr=>rw[hs];refine assignInOrder_cons (bC (h1 ah s O H _ _ _ I r h) ?_);rintro _ s1 ⟨σ1,H1,I1,q1⟩;exact h2 ah s1 σ1 H1 _ _ Q I1 rr q1
def Xw(K:Frag)(n:Nat)(t:La):TG:=λv O H Q=>∃a xs,v=.ref a/\ig K H a xs/\xs.length=n/\t xs O H Q
theorem Lc(hc:X.calm=true)(h:Q7 X es t)
  (hn:(assignEach es X.env).length=n:=by rfl) (cD:(assignEach es X.env).findIdx? (·.1)=none:=by rfl):PG X (.Tuple es k pos) (Xw X.K n t):=by
 intro ah s O H v u Q I r hw;obtain⟨a,xs,e1,hq,hl,hw⟩:=hw;subst e1;cases r;obtain⟨aB,rv,ht,hz⟩:=I.tuple hq;refine assign_Tuple_tuple (I.ok.hd hc) ht (by simp[hn,<- hl,rv.length]) cD λh' hx=>?_
 have I1:=I.kept (t':=s.toks) λb o e=>hx b o (fN (dL e)) e
 exact h ah _ O H xs _ Q I1 (by simpa using rv) hw
noncomputable def Xx(to ti:TE)(t:yD):TG:=λv O H Q=>to O H λo H1=>ti O H1 λi H2=>t o i v H2 λH3=>Q O H3
theorem Ld{o i:Expr}{to ti:TE}{t:yD}(ho:PE X o to)(hi:PE X i ti)(hs:Lb X t)
  (ha:∀v,assign (.Subscript o i pos) X.env v=(do
   let ov <- holding [v] (eval o X.env)
   let iv <- holding [v,ov] (eval i X.env)
   standAt pos
   holding [v,ov,iv] (setItem ov iv v)
   release [v,ov,iv] []):=by intro _;rfl):PG X (.Subscript o i pos) (Xx to ti t):=by
 intro ah s O H v u Q I r h;refine aS (mB (bC (ho ah s O H _ I h) ?_));rintro ov s1 ⟨x,H1,I1,r1,q1⟩;refine aS (mB (bC (hi ah s1 O H1 _ I1 q1) ?_));rintro iv s2 ⟨y,H2,I2,r2,q2⟩;refine aS (BD (aS (mB (bC (hs ah s2 O H2 x y v ov iv u _ I2 r1 r2 r q2) ?_))));rintro _ s3 ⟨H3,I3,q3⟩;exact wpAny_release ⟨O,H3,I3,q3⟩
def Le(te:TE)(g:TG):TS:=λD O H=>te O H λx H1=>g x O H1 D.nx
theorem Lf{tg e:Expr}{te:TE}{g:TG}(he:PE X e te)(hg:PG X tg g)(hs:swapsWithSole [tg] e pos.line X.env=pure false:=by rfl)(hw:swappedStores [tg] e X.env=pure none:=by rfl)
  (h1:(assignEach [tg] X.env).map (·.2)=[assign tg X.env]:=by rfl):PS X (.Assign [tg] e pos) (Le te g):=by
 intro ah s O H D I h;refine wpAny_Assign_stores (bC (he ah s O H _ I h) ?_) hs hw;rintro v s1 ⟨x,H1,I1,r1,q1⟩;rw[h1];exact bC (hg ah s1 O H1 x v _ I1 r1 q1) λ_ s2 q=>q
theorem jY{i:Nat}{x:Str}{e:Expr}{te:TE}{pos':Pos}(hN:X.N.Nodup)(hi:X.N[i]?=some x)(hx:Loc X.env.scope x)(he:PE X e te)(hs:swapsWith e (some (.Name x pos')) pos.line X.env=pure false:=by rfl)(hf:X.fn x=true\/X.env.scope.names.lookup x=some .local:=by first |exact .inl rfl |exact .inr rfl |assumption) :
  PS X (.Assign [.Name x pos'] e pos) (Le te (yE i)):=by
 intro ah s O H D I h;refine wpAny_Assign_Name (bC (he ah s O H _ I h) ?_) hs;rintro v s1 ⟨y,H1,I1,r1,q1⟩;exact jX I1 hN hi hx r1 (λs2 I2=>⟨_,H1,I2,q1⟩) hf
noncomputable def R0(to ti te:TE)(DY:V->V->Hp->VK->Prop)(Wu:Wt)(Ea:yD):TS:=λD O H=>to O H λo H1=>ti O H1 λi H2=>DY o i H2 λx H3=>te O H3 λy H4=>Wu x y H4 λz H5=>Ea o i z H5 λH6=>D.nx O H6
def R3(X:Cx)(t:V->V->Hp->VK->Prop):Prop:=
 ∀(ah: ~~~1) (s:Shared) (O:St) (H:Hp) (o i:V) (ov iv:Value) (Q:VK),Inv X ah O H s->RelV o ov->RelV i iv->t o i H Q->
  wpAny (~~~2) X.A (getItem ov iv) (EP X ah O Q) X.xe s
theorem Eb{o i e:Expr}{to ti te:TE}{DY:V->V->Hp->VK->Prop}{Wu:Wt}{Ea:yD}{op:Operator}{jw:Pos}(ho:PE X o to)(hi:PE X i ti)(hg:R3 X DY)(he:PE X e te)(hp:ZR X op Wu)(hs:Lb X Ea)
  (ha:∀ov iv new,augStore i ov iv new=(do holding [new,ov,iv] (setItem ov iv new);release [new,ov,iv] [];pure .next):=by intros;rfl):PS X (.AugAssign (.Subscript o i jw) op e pos) (R0 to ti te DY Wu Ea):=by
 intro ah s O H D I h;refine wpAny_AugAssign_SubscriptAny (bC (ho ah s O H _ I h) ?_) ha;rintro ov s1 ⟨x1,H1,I1,r1,q1⟩;refine bC (hi ah s1 O H1 _ I1 q1) ?_;rintro iv s2 ⟨x2,H2,I2,r2,q2⟩;refine bC (hg ah s2 O H2 x1 x2 ov iv _ I2 r1 r2 q2) ?_;rintro old s3 ⟨x3,H3,I3,r3,q3⟩;refine bC (he ah s3 O H3 _ I3 q3) ?_;rintro v s4 ⟨x4,H4,I4,r4,q4⟩;refine bC (hp ah s4 O H4 x3 x4 old v _ I4 r3 r4 q4) ?_;rintro new s5 ⟨x5,H5,I5,r5,q5⟩;exact bC (hs ah s5 O H5 x1 x2 x5 ov iv new _ I5 r1 r2 r5 q5) (by rintro _ s6 ⟨H6,I6,q6⟩;exact⟨O,H6,I6,q6⟩)
noncomputable def ipI(f:Int->Int->Int):Wt:=λx y H Q=>∃i j,x=.int i/\y=.int j/\Q (.int (f i j)) H
theorem Lg:ZR X .Add (ipI λi j=>i+j):=by intro ah s O H x y v u Q I r1 r2 h;obtain⟨i,j,e1,e2,q⟩:=h;subst e1;subst e2;obtain⟨t,rfl⟩:=r1;obtain⟨t',rfl⟩:=r2;exact iadd_int ⟨.int _,H,I.tok _,⟨_,rfl⟩,q⟩
end
section
variable{X:Cx}{pos:Pos}
noncomputable def Lh(c:TT)(tb:TS):TS:=λD O H=>∃W:Nat->St->Hp->Prop,(∃m,W m O H)/\∀m O H,W m O H->
 c O H λb H1=>if b=true then ∃N:St->Hp->Prop,(∀σ' H',N σ' H'->∃m',m'<m/\W m' σ' H')/\tb { D with nx:=N,ct:=N,bk:=D.nx} O H1 else D.nx O H1
theorem yG{c:Expr}{body:List Stmt}{tc:TT}{tb:TS}(hp:PassesOwn (~~~2) X.A X.env X.xe)(hc:PT X c tc)(hb:n5 X body tb):PS X (.While c body [] pos) (Lh tc tb):=by
 intro ah s O H D I h;obtain⟨W,⟨m0,w0⟩,turn⟩:=h;refine wpAny_While (codeAny_whileLoop (λn s'=>∃σ' H',Inv X ah σ' H' s'/\W n σ' H') ?_ m0 ⟨O,H,I,w0⟩)
 rintro n s1 ⟨σ1,H1,I1,w1⟩;refine v0 hp (bC (hc ah s1 σ1 H1 _ I1 (turn n σ1 H1 w1)) ?_);rintro b s2 ⟨H2,I2,q2⟩;cases b with
 |true=>
  obtain⟨N,hN,q2⟩:=q2;refine v0 hp (bC (hb ah s2 σ1 H2 _ I2 q2) λf s3 q3=>?_)
  cases f with
  |next=>obtain⟨σ3,H3,I3,n3⟩:=q3;obtain⟨m',hm,w3⟩:=hN σ3 H3 n3;exact⟨m',hm,σ3,H3,I3,w3⟩
  |cont=>obtain⟨σ3,H3,I3,n3⟩:=q3;obtain⟨m',hm,w3⟩:=hN σ3 H3 n3;exact⟨m',hm,σ3,H3,I3,w3⟩
  |brk=>exact q3
  |ret v=>exact q3
 |false=>exact wpAny_execs_nil ⟨σ1,H2,I2,q2⟩
end
structure It where
 go:Nat->Hp->Prop
 Wv:Nat->Hp->V->Hp->Prop
 stop:Nat->Hp->Prop
def je(X:Cx)(ah: ~~~1)(H:Hp)(b:Addr):Prop:=
 H b=none/\b≠X.env.locals/\b∉X.fs/\(b∈X.ex\/X.s₀⁻¹<=b)/\(∀x c,X.env.cells.lookup x=some c->c≠b)/\∀p∈X.pn++ah,p.1≠b
theorem Inv.n8{X:Cx}{ah: ~~~1}{O:St}{H H':Hp}{s:Shared}{b:Addr}(I: ~~~7)(hb:s⁻¹<=b)(hn:H' b=none):je X ah H' b:=by
 refine⟨hn,wS (eJ I.lt hb),I.Xl hb,.inr (eM I.sz hb),λx c e z=>?_,λp hp z=>?_⟩
 . obtain⟨v,q⟩:=I.cell x c e;exact absurd (eJ q.lt (by rw[z];exact hb)) (nS _)
 . exact absurd (eJ (dL (I.pin p hp).1) (by rw[z];exact hb)) (nS _)
structure Turn(P:Program)(w:World)(K:Frag)(tg:Expr)(J:It)(fp:List Addr)(it:Addr)(tn:Nat->Heap->Prop):Prop where
 mem:it∈fp
 obj:∀i h,tn i h->∀b∈fp,∃o,h.get? b=some o/\∀v,o.data≠.cell v
 keep:∀i h h',tn i h->(∀b∈fp,∀o,h.get? b=some o->h'.get? b=some o)->tn i h'
 item:∀(X:Cx),X.prog=P->X.w=w->X.K=K->X.calm=true->∀(i:Nat) (ah: ~~~1) (s:Shared) (O:St) (H:Hp) (E:Value->Shared->Prop),Inv X ah O H s->(∀b∈fp,je X ah H b)->tn i s.heap->J.go i H->
  wpAny (model P w) X.A (pyNext (.ref it)) (λr s1=>∃u,r=some u/\
   wpAny (model P w) X.A (letOwnedTupleGo tg (.ref it) u) (λ_ s2=>∃x H',Inv X ah O H' s2/\RelV x u/\J.Wv i H x H'/\tn (i+1) s2.heap/\∀b∈fp,H' b=none) E s1) E s
 done:∀(X:Cx),X.prog=P->X.w=w->X.K=K->X.calm=true->∀(i:Nat) (ah: ~~~1) (s:Shared) (O:St) (H:Hp) (E:Value->Shared->Prop),Inv X ah O H s->(∀b∈fp,je X ah H b)->tn i s.heap->J.stop i H->
  wpAny (model P w) X.A (pyNext (.ref it)) (λr s1=>r=none/\Inv X ah O H s1) E s
 self:∀(A:Around) (i:Nat) (s:Shared) (Q:Value->Shared->Prop) (E:Value->Shared->Prop),tn i s.heap->Q (.ref it) s->wpAny (model P w) A (pyIter (.ref it)) Q E s
abbrev TI:=St->Hp->(It->Hp->Prop)->Prop
def PIE(X:Cx)(ah: ~~~1)(O:St)(tg:Expr)(R:It->Hp->Prop)(itv:Value)(s2:Shared):Prop:=
 ∃(it:Addr) (fp:List Addr) (tn:Nat->Heap->Prop) (J:It) (H':Hp),itv=.ref it/\Inv X ah O H' s2/\Turn X.prog X.w X.K tg J fp it tn/\tn 0 s2.heap/\(∀b∈fp,je X ah H' b)/\R J H'
def PI(X:Cx)(tg iter:Expr)(wi:TI):Prop:=
 ∀(ah: ~~~1) (s:Shared) (O:St) (H:Hp) (R:It->Hp->Prop),Inv X ah O H s->wi O H R->
  wpAny (~~~2) X.A (eval iter X.env) (λv s1=>wpAny (~~~2) X.A (pyIter v) (PIE X ah O tg R) X.xe s1) X.xe s
theorem yH(ho:s.heap.get? it=some o)(hc:o.cls=.type n)(hd:o.data=.fields vs)
  (hn:["enumerate", "zip", "dict_itemiterator", "dict_reverseitemiterator", "odict_iterator", "itertools.zip_longest", "itertools.pairwise"].contains n=false) (hQ:Q () s):wpAny M A (letOwnedTupleGo tg (.ref it) u) Q E s:=by
 cases tg <;> first
  |exact dS hQ
  | (cases u <;> first
    |exact dS hQ
    | (refine aS (wpAny_load ho ?_)
       rw[hc,hd];show wpAny M A (if (["enumerate", "zip", "dict_itemiterator", "dict_reverseitemiterator", "odict_iterator", "itertools.zip_longest", "itertools.pairwise"].contains n&&vs[0]?==some (rawInt _))=true then _ else _) Q E s
       rw[i8 (by intro h;rw[hn]at h;symm)]
       exact dS hQ))
def ZS(K:Frag)(a:Addr):It:=
 ⟨λi H=>∃xs x,cF K H a xs/\xs[i]?=some x,λi H x H'=>H'=H/\∀xs,cF K H a xs->xs[i]?=some x,λi H=>∃xs,cF K H a xs/\xs.length<=i⟩
def ZT(K:Frag)(a:Addr):It:=
 ⟨λi H=>∃xs x,ig K H a xs/\xs[i]?=some x,λi H x H'=>H'=H/\∀xs,ig K H a xs->xs[i]?=some x,λi H=>∃xs,ig K H a xs/\xs.length<=i⟩
noncomputable def Li(lo:Int)(n:Nat):It:=⟨λi _=>i<n,λi H x H'=>H'=H/\x=.int (lo+i),λi _=>n<=i⟩
theorem vL{P:Program}{w:World}{K:Frag}{tg:Expr}(a it:Addr):Turn P w K tg (ZS K a) [it] it (λi h=>h.IsListIter it a i) where
 mem:=by simp
 obj:=λi h st b hb=>by
  have e:b=it:=by simpa using hb
  subst e;obtain⟨o,e,c,d⟩:=st;exact⟨o,e,λv z=>by rw[d]at z;cases z⟩
 keep:=λi h h' st k=>st.at λo e=>k it ⋯ o e
 item:=by
  intro X hP hw hK hc i ah s O H E I hf st hg;subst hP hw hK;obtain⟨xs,x,hq,hx⟩:=hg;obtain⟨aB,rv,p,hz⟩:=I.list hq;obtain⟨u,hu,ru⟩:=rv.get hx;obtain⟨f0,f1,f2,f3,f4,f5⟩:=hf it ⋯;refine wpAny_pyNext_list_item st p.isList (by simpa using hu) λh' st' sb=>?_
  have I1:=I.turned (t':=s.toks) (λb o hb e=>(sb.2 b hb).trans e) f0 f1 f3 f4 f5
  obtain⟨o,e,c,d⟩:=id st';exact⟨u,rfl,yH e c d ⋯ ⟨x,H,I1,ru,⟨rfl,λys hy=>by rw[I.p9 hy hq];exact hx⟩,st',λb hb=>(hf b hb).1⟩⟩
 done:=by intro X hP hw hK hc i ah s O H E I hf st hg;subst hP hw hK;obtain⟨xs,hq,hx⟩:=hg;obtain⟨aB,rv,p,hz⟩:=I.list hq;obtain⟨f0,f1,f2,f3,f4,f5⟩:=hf it ⋯;have hl:=rv.length;exact wpAny_pyNext_list_end (I.ok.hd hc) st p.isList (by simp;lia) λh' eb=>⟨rfl,I.turned (λb o hb e=>eb b o hb e) f0 f1 f3 f4 f5⟩
 self:=λ_ _ _ _ _ st h=>wpAny_pyIter_listiter st h
theorem sf{P:Program}{w:World}{K:Frag}{tg:Expr}(a it:Addr):Turn P w K tg (ZT K a) [it] it (λi h=>h.IsTupleIter it a i) where
 mem:=by simp
 obj:=λi h st b hb=>by
  have e:b=it:=by simpa using hb
  subst e;obtain⟨o,e,c,d⟩:=st;exact⟨o,e,λv z=>by rw[d]at z;cases z⟩
 keep:=λi h h' st k=>st.at λo e=>k it ⋯ o e
 item:=by
  intro X hP hw hK hc i ah s O H E I hf st hg;subst hP hw hK;obtain⟨xs,x,hq,hx⟩:=hg;obtain⟨aB,rv,p,hz⟩:=I.tuple hq;obtain⟨u,hu,ru⟩:=rv.get hx;obtain⟨f0,f1,f2,f3,f4,f5⟩:=hf it ⋯;refine wpAny_pyNext_tuple_item st (show s.heap.IsTuple a aB.toArray from p) (by simpa using hu) λh' st' sb=>?_
  have I1:=I.turned (t':=s.toks) (λb o hb e=>(sb.2 b hb).trans e) f0 f1 f3 f4 f5
  obtain⟨o,e,c,d⟩:=id st';exact⟨u,rfl,yH e c d ⋯ ⟨x,H,I1,ru,⟨rfl,λys hy=>by rw[I.mO hy hq];exact hx⟩,st',λb hb=>(hf b hb).1⟩⟩
 done:=by intro X hP hw hK hc i ah s O H E I hf st hg;subst hP hw hK;obtain⟨xs,hq,hx⟩:=hg;obtain⟨aB,rv,p,hz⟩:=I.tuple hq;obtain⟨f0,f1,f2,f3,f4,f5⟩:=hf it ⋯;have hl:=rv.length;exact wpAny_pyNext_tuple_end (I.ok.hd hc) st (show s.heap.IsTuple a aB.toArray from p) (by simp;lia) λh' eb=>⟨rfl,I.turned (λb o hb e=>eb b o hb e) f0 f1 f3 f4 f5⟩
 self:=λ_ _ _ _ _ st h=>wpAny_pyIter_tupleiter st h
theorem sr{P:Program}{w:World}{K:Frag}{tg:Expr}(it:Addr)(lo:Int)(n:Nat):Turn P w K tg (Li lo n) [it] it (λi h=>IsRangeIter h it (lo+(i:Nat) * 1) ((n:Int) - (i:Nat)) 1) where
 mem:=by simp
 obj:=λi h st b hb=>by
  have e:b=it:=by simpa using hb
  subst e;exact⟨_,st,λv z=>by
   have z':=z;cases z'⟩
 keep:=λi h h' st k=>k it ⋯ _ st
 item:=by
  intro X hP hw hK hc i ah s O H E I hf st hg;subst hP hw hK;obtain⟨f0,f1,f2,f3,f4,f5⟩:=hf it ⋯;have W:=Walks.range (prog:=X.prog) (w:=X.w) (I.ok.hd hc) it lo 1 n;refine W.item i s _ _ hg st λv h' tk hv st' kk=>?_
  obtain⟨t,rfl⟩:=hv;have I1:Inv X ah O H { s with heap:=h',toks:=tk}:=I.turned (λb o hb e=>kk b o (by simpa using hb) e) f0 f1 f3 f4 f5
  refine⟨_,rfl,yH st' rfl rfl ⋯ ⟨.int (lo+i),H,I1,⟨t,?_⟩,⟨rfl,rfl⟩,st',λb hb=>(hf b hb).1⟩⟩
  rw[Int.mul_one]
 done:=by intro X hP hw hK hc i ah s O H E I hf st hg;obtain⟨f0,f1,f2,f3,f4,f5⟩:=hf it ⋯;exact wpAny_pyNext_range_end (I.ok.hd hc) st (by have:n<=i:=hg;lia) λh' eb=>⟨rfl,I.turned (λb o hb e=>eb b o hb e) f0 f1 f3 f4 f5⟩
 self:=λ_ _ _ _ _ st h=>wpAny_pyIter_rangeiter st h
section
variable{X:Cx}{tg:Expr}
def R4(K:Frag)(tl:TE):TI:=λO H R=>tl O H λx H1=>∃a,x=.ref a/\(∃xs,cF K H1 a xs)/\R (ZS K a) H1
def Xy(K:Frag)(tl:TE):TI:=λO H R=>tl O H λx H1=>∃a,x=.ref a/\(∃xs,ig K H1 a xs)/\R (ZT K a) H1
theorem n9{l:Expr}{tl:TE}(hl:PE X l tl):PI X tg l (R4 X.K tl):=by
 intro ah s O H R I h;refine bC (hl ah s O H _ I h) ?_;rintro v s1 ⟨x,H1,I1,r1,q1⟩;obtain⟨a,e,⟨xs,hq⟩,q⟩:=q1;subst e;cases r1;obtain⟨aB,rv,p,hz⟩:=I1.list hq;refine v6 p.isList ?_;refine⟨s1⁻¹,[s1⁻¹],_,_,H1,rfl,I1.kept λb o e=>a7 _ e,vL a _,⟨_,dC _ rfl,rfl,rfl⟩,λb hb=>?_,q⟩
 have e:b=s1⁻¹:=by simpa using hb
 subst e;exact I1.n8 (eA _) (I1.hok.fresh (eA _))
theorem Lj{l:Expr}{tl:TE}(hl:PE X l tl):PI X tg l (Xy X.K tl):=by
 intro ah s O H R I h;refine bC (hl ah s O H _ I h) ?_;rintro v s1 ⟨x,H1,I1,r1,q1⟩;obtain⟨a,e,⟨xs,hq⟩,q⟩:=q1;subst e;cases r1;obtain⟨aB,rv,p,hz⟩:=I1.tuple hq;refine t8 (show s1.heap.IsTuple a aB.toArray from p) ?_
 refine⟨s1⁻¹,[s1⁻¹],_,_,H1,rfl,I1.kept λb o e=>a7 _ e,sf a _,⟨_,dC _ rfl,rfl,rfl⟩,λb hb=>?_,q⟩
 have e:b=s1⁻¹:=by simpa using hb
 subst e;exact I1.n8 (eA _) (I1.hok.fresh (eA _))
theorem qe{ah: ~~~1}{O:St}{H:Hp}{s:Shared}{R:It->Hp->Prop}{E:Value->Shared->Prop}{lo hi:Int}{t u v:Tok}{tk:Nat}(I: ~~~7)(h1 : -(2 ^ 62)<=lo)(h2:lo<2 ^ 62)(h3 : -(2 ^ 62)<=hi)(h4:hi<2 ^ 62)
  (q:R (Li lo (hi - lo).toNat) H):wpAny (~~~2) X.A (pyIter (.ref s⁻¹)) (PIE X ah O tg R) E { s with heap:=s.heap.push { cls:=.type "range",data:=.fields #[.int lo t,.int hi u,.int 1 v]},toks:=tk}:=by
 refine wpAny_pyIter_range (IsRange.new ..) (small_one h1 h2 h3 h4) ?_;have I1:Inv X ah O H { s with heap:=s.heap.push { cls:=.type "range",data:=.fields #[.int lo t,.int hi u,.int 1 v]},toks:=tk}:=I.kept λb o e=>a7 _ e
 refine⟨(s.heap.push { cls:=.type "range",data:=.fields #[.int lo t,.int hi u,.int 1 v]}).objs.size,[(s.heap.push { cls:=.type "range",data:=.fields #[.int lo t,.int hi u,.int 1 v]}).objs.size],_,_,H,rfl,
  I1.kept λb o e=>a7 _ e,sr _ lo (hi - lo).toNat,?_,λb hb=>?_,q⟩
 .
  have e1:lo+((0:Nat):Int) * 1=lo:=by simp
  have e2:(((hi - lo).toNat:Nat):Int) - ((0:Nat):Int)=Builtin.Range.rangeSize lo hi 1:=by rw[rangeSize_one];split <;> lia
  rw[e1,e2];exact dC _ rfl
 .
  have e:b=(s.heap.push { cls:=.type "range",data:=.fields #[.int lo t,.int hi u,.int 1 v]}).objs.size:=by simpa using hb
  subst e;exact I1.n8 (eA _) (I1.hok.fresh (eA _))
def R5(ta:TA):TI:=λO H R=>ta O H λvs H1=>∃j:Int,vs=[.int j]/\-(2 ^ 62)<=j/\j<2 ^ 62/\R (Li 0 j.toNat) H1
def R8(ta:TA):TI:=λO H R=>ta O H λvs H1=>∃i j:Int,vs=[.int i,.int j]/\(-(2 ^ 62)<=i/\i<2 ^ 62/\-(2 ^ 62)<=j/\j<2 ^ 62)/\R (Li i (j - i).toNat) H1
theorem vM{a:Expr}{ta:TA}{p pos:Pos}(hg:Gl X "range")(hm:X.mg "range"=none)(ha:PA X [a] ta)(hs:starEach [a] X.env=[(false,eval a X.env)]:=by rfl):PI X tg (.Call (.Name "range" p) [a] [] pos) (R5 ta):=by
 intro ah s O H R I h;refine Call_ (fD I hg hm boot_range (n0 (bC (ha pos ah s O H _ I h) ?_) hs rfl));rintro us s1 ⟨vs,H1,I1,r1,q1⟩;obtain⟨j,e,q1,q2,q⟩:=q1;subst e;cases r1 with
 |cons r rr=>cases rr;obtain⟨t,rfl⟩:=r;exact call_range_1 (qe I1 ⋯ ⋯ q1 q2 (by simpa using q))
theorem vN{a b:Expr}{ta:TA}{p pos:Pos}(hg:Gl X "range")(hm:X.mg "range"=none)(ha:PA X [a,b] ta)(hs:starEach [a,b] X.env=[(false,eval a X.env),(false,eval b X.env)]:=by rfl)(hs2:starEach [b] X.env=[(false,eval b X.env)]:=by rfl) :
  PI X tg (.Call (.Name "range" p) [a,b] [] pos) (R8 ta):=by
 intro ah s O H R I h;refine Call_ (fD I hg hm boot_range (n0 (bC (ha pos ah s O H _ I h) λus s1 ⟨vs,H1,I1,r1,q1⟩=>?_) (by rw[hs,hs2]) (by rw[hs2];rfl)))
 obtain⟨i,j,e,⟨q1,q2,q3,q4⟩,q⟩:=q1;subst e;cases r1 with
 |cons r rr=>
  cases rr with
  |cons r' rr=>cases rr;obtain⟨t,rfl⟩:=r;obtain⟨t',rfl⟩:=r';exact call_range_2 (qe I1 q1 q2 q3 q4 q)
noncomputable def Xz(wi:TI)(g:TG)(tb:TS):TS:=λD O H=>wi O H λJ H1=>∃W:Nat->Nat->St->Hp->Prop,(∃m,W 0 m O H1)/\∀i m O H,W i m O H->
 (J.stop i H/\D.nx O H)\/(J.go i H/\∃N:St->Hp->Prop,(∀σ' H',N σ' H'->∃m',m'<m/\W (i+1) m' σ' H')/\∀x H',J.Wv i H x H'->g x O H' λσ2 H2=>tb { D with nx:=N,ct:=N,bk:=D.nx} σ2 H2)
noncomputable def jZ(fp:List Addr)(h:Heap): ~~~1:=fp.filterMap λb=>(h.get? b).map λo=>(b,o)
theorem eG{fp:List Addr}{h:Heap}{b:Addr}{o:Obj}(hb:b∈fp)(e:h.get? b=some o):(b,o)∈jZ fp h:=List.mem_filterMap.mpr ⟨b,hb,by rw[e];rfl⟩
theorem vO(hp:p∈jZ fp h):p.1∈fp/\h.get? p.1=some p.2:=by
 obtain⟨b,hb,e⟩:=List.mem_filterMap.mp hp;cases q:h.get? b with
 |none=>rw[q]at e;cases e
 |some o=>rw[q]at e;have e':=l6 e;subst e';exact⟨hb,q⟩
theorem Inv.pinned{ah: ~~~1}{O:St}{H:Hp}{s:Shared}{fp:List Addr}(I: ~~~7)(hf:∀b∈fp,je X ah H b)(ho:∀b∈fp,∃o,s.heap.get? b=some o/\∀v,o.data≠.cell v):Inv X (ah++jZ fp s.heap) O H s:=
 I.uv λp hp=>(yB.mp hp).elim (λz=>I.pin p (hU _ z)) λz=>by
  obtain⟨hb,e⟩:=vO z;obtain⟨f0,f1,f2,_⟩:=hf p.1 hb;obtain⟨o,e',d⟩:=ho p.1 hb;rw[e]at e';cases e';exact⟨e,f0,f1,f2,d⟩
theorem Inv.iC{ah pl: ~~~1}{O:St}{H:Hp}{s:Shared}(I:Inv X (ah++pl) O H s):Inv X ah O H s:=I.uv λp hp=>I.pin p (hU _ (AA _ hp))
theorem su{iter:Expr}{body:List Stmt}{wi:TI}{g:TG}{tb:TS}{pos:Pos}(hp:PassesOwn (~~~2) X.A X.env X.xe)(hc:X.calm=true)(hi:PI X tg iter wi)(hg:PG X tg g)(hb:n5 X body tb)
  (hs:∀x,foldedSetIterable iter X.env x=pure x:=by intro _;rfl):PS X (.For tg iter body [] pos) (Xz wi g tb):=by
 intro ah s O H D I h;refine wpAny_For (bC (hi ah s O H _ I h) λv s1 h1=>bC h1 λitv s2 h2=>?_) hs
 obtain⟨it,fp,tn,J,H2,e,I2,T,aJ,f2,W,⟨m0,w0⟩,turn⟩:=h2;subst e;have stat:∀{H':Hp},(∀b∈fp,H' b=none)->∀b∈fp,je X ah H' b:=λhn b hb=>⟨hn b hb,(f2 b hb).2⟩
 refine codeAny_forLoop_any (λn s'=>∃i σ' H',Inv X ah σ' H' s'/\tn i s'.heap/\(∀b∈fp,H' b=none)/\W i n σ' H') ?_ m0 ⟨0,O,H2,I2,aJ,λb hb=>(f2 b hb).1,w0⟩
 rintro n s3 ⟨i,σ3,H3,I3,fC,R9,w3⟩;rcases turn i n σ3 H3 w3 with ⟨stop,qn⟩ |⟨go,N,hN,step⟩
 . refine v0 hp (bC (T.done X rfl rfl rfl hc i ah s3 σ3 H3 X.xe I3 (stat R9) fC stop) ?_);rintro r s4 ⟨hr,I4⟩;subst hr;exact wpAny_execs_nil ⟨σ3,H3,I4,qn⟩
 .
  refine v0 hp (bC (T.item X rfl rfl rfl hc i ah s3 σ3 H3 X.xe I3 (stat R9) fC go) ?_);rintro r s4 ⟨u,hr,h4⟩;subst hr;refine v0 hp (bC h4 ?_);rintro _ s5 ⟨x,H5,I5,r5,y5,vP,XC⟩;have XD:=I5.pinned (stat XC) (T.obj _ _ vP);refine v0 hp (bC (hg _ s5 σ3 H5 x u _ XD r5 (step x H5 y5)) ?_);rintro _ s6 ⟨σ6,H6,I6,q6⟩;refine v0 hp (bC (hb _ s6 σ6 H6 _ I6 q6) λf s7 q7=>?_)
  have again:∀{σ7:St}{H7:Hp},Inv X (ah++jZ fp s5.heap) σ7 H7 s7->N σ7 H7->∃m,m<n/\∃i σ' H',Inv X ah σ' H' s7/\tn i s7.heap/\(∀b∈fp,H' b=none)/\W i m σ' H':=λ{σ7 H7} I7 n7=>by
   obtain⟨m',hm,w7⟩:=hN σ7 H7 n7;refine⟨m',hm,i+1,σ7,H7,I7.iC,T.keep _ _ _ vP λb hb o e=>(I7.pin (b,o) (hU _ (hU _ (eG hb e)))).1,λb hb=>?_,w7⟩
   obtain⟨o,e,d⟩:=T.obj _ _ vP b hb;exact (I7.pin (b,o) (hU _ (hU _ (eG hb e)))).2.1
  cases f with
  |next=>obtain⟨σ7,H7,I7,n7⟩:=q7;exact again I7 n7
  |cont=>obtain⟨σ7,H7,I7,n7⟩:=q7;exact again I7 n7
  |brk=>obtain⟨σ7,H7,I7,q7⟩:=q7;exact⟨σ7,H7,I7.iC,q7⟩
  |ret v=>obtain⟨x7,σ7,H7,I7,r7,q7⟩:=q7;exact⟨x7,σ7,H7,I7.iC,r7,q7⟩
end
abbrev R2:=V->V->Hp->VK->Prop
def jB(X:Cx)(f:Value->Value->Sem Value)(r:R2):Prop:=
 ∀(ah: ~~~1) (s:Shared) (O:St) (H:Hp) (x y:V) (v u:Value) (Q:VK),Inv X ah O H s->RelV x v->RelV y u->r x y H Q->
  wpAny (~~~2) X.A (f v u) (EP X ah O Q) X.xe s
def Ww(X:Cx)(f:Value->Sem Value)(r:V->Hp->VK->Prop):Prop:=
 ∀(ah: ~~~1) (s:Shared) (O:St) (H:Hp) (x:V) (v:Value) (Q:VK),Inv X ah O H s->RelV x v->r x H Q->
  wpAny (~~~2) X.A (f v) (EP X ah O Q) X.xe s
def dg(X:Cx)(f:Value)(r:List V->Hp->VK->Prop):Prop:=
 ∀(ah: ~~~1) (s:Shared) (O:St) (H:Hp) (xs:List V) (us:List Value) (Q:VK),Inv X ah O H s->Vals xs us->r xs H Q->
  wpAny (~~~2) X.A (call f us) (EP X ah O Q) X.xe s
def XF(X:Cx)(r:V->Hp->(Bool->Hp->Prop)->Prop):Prop:=
 ∀(ah: ~~~1) (s:Shared) (O:St) (H:Hp) (x:V) (v:Value) (Q:Bool->Hp->Prop),Inv X ah O H s->RelV x v->r x H Q->
  wpAny (~~~2) X.A (truthy v) (TP X ah O Q) X.xe s
noncomputable def Wx(r:R2)(ta tb:TE):TE:=λO H Q=>ta O H λx H1=>tb O H1 λy H2=>r x y H2 Q
def tUn(r:V->Hp->VK->Prop)(ta:TE):TE:=λO H Q=>ta O H λx H1=>r x H1 Q
noncomputable def rI(C:Int->Int->Prop)(g:Int->Int->V):R2:=λx y H Q=>∃i j,x=.int i/\y=.int j/\C i j/\Q (g i j) H
noncomputable def Dp(g:Int->Int->V):R2:=λx y H Q=>∃i j,x=.int i/\y=.int j/\Q (g i j) H
def rU(g:Int->V):V->Hp->VK->Prop:=λx H Q=>∃i,x=.int i/\Q (g i) H
section
variable{X:Cx}{a b c:Expr}{ta tb tc:TE}{pos:Pos}
theorem Lk(ha:PE X a ta)(hb:PE X b tb){ah: ~~~1}{s:Shared}{O:St}{H:Hp}{R:V->V->Hp->Prop}(I: ~~~7)
  (h:ta O H λx H1=>tb O H1 λy H2=>R x y H2) {Q:Value->Shared->Prop}{f:Value->Value->Sem Value}
  (hf:∀v u s2 x y H2,Inv X ah O H2 s2->RelV x v->RelV y u->R x y H2->wpAny (~~~2) X.A (f v u) Q X.xe s2) :
  wpAny (~~~2) X.A (eval a X.env) (λv s₁=>wpAny (~~~2) X.A (eval b X.env) (λu s₂=>wpAny (~~~2) X.A (f v u) Q X.xe s₂) X.xe s₁) X.xe s:=by
 refine bC (ha ah s O H _ I h) λv s1 ⟨x,H1,I1,r1,q1⟩=>?_
 refine bC (hb ah s1 O H1 _ I1 q1) λu s2 ⟨y,H2,I2,r2,q2⟩=>?_
 exact hf v u s2 x y H2 I2 r1 r2 q2
theorem yI{op:Operator}{r:R2}(ho:jB X (binaryOp op) r)(ha:PE X a ta)(hb:PE X b tb):PE X (.BinOp a op b pos) (Wx r ta tb):=by intro ah s O H Q I h;exact wpAny_BinOp (Lk ha hb I h λv u s2 x y H2 I2 rx ry q=>ho ah s2 O H2 x y v u Q I2 rx ry q)
theorem Se{op:UnaryOp}{r:V->Hp->VK->Prop}(ho:Ww X (unaryOp op) r)(ha:PE X a ta):PE X (.UnaryOp op a pos) (tUn r ta):=by intro ah s O H Q I h;exact UnaryOp_ (bC (ha ah s O H _ I h) (by rintro v s1 ⟨x,H1,I1,r1,q1⟩;exact ho ah s1 O H1 x v Q I1 r1 q1))
theorem Sf{f:Value->Value->Sem Value}{C:Int->Int->Prop}{g:Int->Int->Int}
  (rule:∀(i j:Int) (t u:Tok) (s:Shared) (Q:Value->Shared->Prop) (E:Value->Shared->Prop),C i j->Q (.int (g i j) s.toks) { s with toks:=s.toks+1}->wpAny (~~~2) X.A (f (.int i t) (.int j u)) Q E s) :
  jB X f (rI C λi j=>.int (g i j)):=by
 intro ah s O H x y v u Q I rx ry h;obtain⟨i,j,rfl,rfl,hc,q⟩:=h;obtain⟨t,rfl⟩:=rx;obtain⟨t',rfl⟩:=ry;exact rule i j t t' s _ _ hc ⟨.int (g i j),H,I.tok _,⟨_,rfl⟩,q⟩
theorem Sh{f:Value->Value->Sem Value}{g:Int->Int->Int}
  (rule:∀(i j:Int) (t u:Tok) (s:Shared) (Q:Value->Shared->Prop) (E:Value->Shared->Prop),Q (.int (g i j) s.toks) { s with toks:=s.toks+1}->wpAny (~~~2) X.A (f (.int i t) (.int j u)) Q E s) :
  jB X f (Dp λi j=>.int (g i j)):=by
 intro ah s O H x y v u Q I rx ry h;obtain⟨i,j,rfl,rfl,q⟩:=h;obtain⟨t,rfl⟩:=rx;obtain⟨t',rfl⟩:=ry;exact rule i j t t' s _ _ ⟨.int (g i j),H,I.tok _,⟨_,rfl⟩,q⟩
theorem Ec{f:Value->Value->Sem Value}{g:Int->Int->Bool}
  (rule:∀(i j:Int) (t u:Tok) (s:Shared) (Q:Value->Shared->Prop) (E:Value->Shared->Prop),Q (.bool (g i j)) s->wpAny (~~~2) X.A (f (.int i t) (.int j u)) Q E s) :
  jB X f (Dp λi j=>.bl (g i j)):=by
 intro ah s O H x y v u Q I rx ry h;obtain⟨i,j,rfl,rfl,q⟩:=h;obtain⟨t,rfl⟩:=rx;obtain⟨t',rfl⟩:=ry;exact rule i j t t' s _ _ ⟨.bl (g i j),H,I,rfl,q⟩
def XH(i j:Int):Prop:=0<=j/\j<=1000000/\i.natAbs<2 ^ 64
def Ln(i j:Int):Prop:=(-(2 ^ 64)<i/\i<2 ^ 64)\/(-(2 ^ 64)<j/\j<2 ^ 64)
theorem Ln.ok{i j:Int}(h:Ln i j):IntMulOk i j:=by
 rcases h with ⟨h1,h2⟩ |⟨h1,h2⟩
 . exact .of_left (intBits_le_64 h1 h2)
 . exact .of_right (intBits_le_64 h1 h2)
theorem Lp:jB X (binaryOp .Add) (Dp λi j=>.int (i+j)):=Sh λ_ _ _ _ _ _ _ q=>add_int q
theorem Lq:jB X (binaryOp .Sub) (Dp λi j=>.int (i - j)):=Sh λ_ _ _ _ _ _ _ q=>sub_int q
theorem Lr:jB X (binaryOp .Mult) (rI Ln λi j=>.int (i * j)):=Sf λ_ _ _ _ _ _ _ hc q=>mul_int q hc.ok
theorem Ls:jB X (binaryOp .Mod) (rI (λ_ j=>0<j) λi j=>.int (i % j)):=Sf λi j _ _ _ _ _ hc q=>by
 exact mod_int' ⋯ (by rw[Int.fmod_eq_emod_of_nonneg i ⋯];exact q)
theorem oh:jB X (binaryOp .Pow) (rI XH λi j=>.int (i ^ j.toNat)):=Sf λ_ _ _ _ _ _ _ hc q=>pow_int_small hc.1 hc.2.1 hc.2.2 q
theorem unI{f:Value->Sem Value}{g:Int->Int}
  (rule:∀(i:Int) (t:Tok) (s:Shared) (Q:Value->Shared->Prop) (E:Value->Shared->Prop),Q (.int (g i) s.toks) { s with toks:=s.toks+1}->wpAny (~~~2) X.A (f (.int i t)) Q E s) :
  Ww X f (rU λi=>.int (g i)):=by
 intro ah s O H x v Q I rx h;obtain⟨i,rfl,q⟩:=h;obtain⟨t,rfl⟩:=rx;exact rule i t s _ _ ⟨.int (g i),H,I.tok _,⟨_,rfl⟩,q⟩
theorem Lv:Ww X (unaryOp .USub) (rU λi=>.int (-i)):=unI λ_ _ _ _ _ q=>neg_int q
end
section
variable{X:Cx}{a b c:Expr}{ta tb tc:TE}{pos:Pos}
theorem Si:jB X (compareOp .Lt) (Dp λi j=>.bl (decide (i<j))):=Ec λ_ _ _ _ _ _ _ q=>lt_int q
theorem Sj:jB X (compareOp .LtE) (Dp λi j=>.bl (decide (i<=j))):=Ec λ_ _ _ _ _ _ _ q=>le_int q
theorem Sl:jB X (compareOp .Gt) (Dp λi j=>.bl (decide (j<i))):=Ec λ_ _ _ _ _ _ _ q=>gt_int q
theorem Sq:jB X (compareOp .GtE) (Dp λi j=>.bl (decide (j<=i))):=Ec λ_ _ _ _ _ _ _ q=>ge_int q
theorem Ed{op:CmpOp}{r:R2}(ho:jB X (compareOp op) r)(ha:PE X a ta)(hb:PE X b tb)(hm:behindInMarks op b=false):PE X (.Compare a [op] [b] pos) (Wx r ta tb):=by intro ah s O H Q I h;exact wpAny_Compare1 (Lk ha hb I h λv u s2 x y H2 I2 rx ry q=>ho ah s2 O H2 x y v u Q I2 rx ry q) hm
def Ss(t:TE):TT:=λO H Q=>t O H λx H'=>∃k,x=.bl k/\Q k H'
theorem Ef{op:CmpOp}{r:R2}(ho:jB X (compareOp op) r)(ha:PE X a ta)(hb:PE X b tb)(hm:behindInMarks op b=false):PT X (.Compare a [op] [b] pos) (Ss (Wx r ta tb)):=by
 intro ah s O H Q I h;refine wpAny_isTrue_Compare1 (bC (ha ah s O H _ I h) λv s1 ⟨x,H1,I1,r1,q1⟩=>bC (hb ah s1 O H1 _ I1 q1) λu s2 ⟨y,H2,I2,r2,q2⟩=>
  bC (ho ah s2 O H2 x y v u _ I2 r1 r2 q2) λc s3 ⟨z,H3,I3,r3,k,e,q3⟩=>?_) hm
 subst e;cases r3;exact l7 ⟨H3,I3,q3⟩
def Sv(K:Frag)(x:V)(H:Hp)(k:Bool):Prop:=
 match x with
 |.non=>k=false
 |.bl b=>k=b
 |.int i=>k=(i != 0)
 |.str y=>y.length<=sizeLine/\k=((y.length:Int) != 0)
 |.KY y=>y.size<=sizeLine/\k=((y.size:Int) != 0)
 |.ref p=>(∃xs,cF K H p xs/\k=!xs.isEmpty)\/(∃xs,ig K H p xs/\k=!xs.isEmpty)\/∃eu,H p=some (.dK eu)/\k=!eu.isEmpty
 |_=>False
theorem sy{κ:Type}{eu:List (κ×V)}{vs:List (κ×Value)}(r:KV eu vs):(!vs.isEmpty)=!eu.isEmpty:=by cases r <;> rfl
theorem j3{xs:List V}{aB:List Value}(r:Vals xs aB):(!aB.toArray.isEmpty)=!xs.isEmpty:=by cases r <;> simp
theorem sC:(sizeLine:Nat)<2 ^ 63:=by rw[yY];decide
theorem Lw:XF X (λx H Q=>∃k,Sv X.K x H k/\Q k H):=by
 intro ah s O H x v Q I rx h;obtain⟨k,e,q⟩:=h;have hs:=yY;cases x with
 |non=>cases rx;have e':=e;subst e';exact truthy_none ⟨H,I,q⟩
 |bl b=>cases rx;have e':=e;subst e';exact l7 ⟨H,I,q⟩
 |int i=>obtain⟨t,rfl⟩:=rx;have e':=e;subst e';exact PySem.P.truthy_int ⟨H,I,q⟩
 |str y=>obtain⟨t,rfl⟩:=rx;obtain⟨hy,e'⟩:y.length<=sizeLine/\k=((y.length:Int) != 0):=e;subst e';exact PySem.P.truthy_str ⋯ ⟨H,I.tok _,q⟩
 |KY y=>obtain⟨t,rfl⟩:=rx;obtain⟨hy,e'⟩:y.size<=sizeLine/\k=((y.size:Int) != 0):=e;subst e';exact PySem.W.truthy_bytes ⋯ ⟨H,I.tok _,q⟩
 |ref p=>
  cases rx;have e':=e;rcases e' with ⟨xs,hx,e'⟩ |⟨xs,hx,e'⟩ |⟨eu,hx,e'⟩
  . subst e';obtain⟨aB,r,pl,hz⟩:=I.list hx;have aQ:=r.length;exact wpAny_truthy_list pl.isList (by simp only[bP];lia) ⟨H,I.tok _,by rw[j3 r];exact q⟩
  . subst e';obtain⟨aB,r,pl,hz⟩:=I.tuple hx;have aQ:=r.length;exact truthy_tuple pl (by simp only[bP];lia) ⟨H,I.tok _,by rw[j3 r];exact q⟩
  . subst e';obtain⟨hz,hS,vs,r,m⟩:eu.length<=sizeLine/\(p==sysModules)=false/\∃vs,KV eu vs/\s.heap.DictOf (ez X.prog X.w) p vs:=I.hok p _ hx;have aQ:=Paired.length r;exact wpAny_truthy_dict hS m ⋯ ⟨H,I.tok _,by rw[sy r];exact q⟩
 |_=>exact (show False from e).elim
theorem yJ(ha:PE X a ta)(he:∀whole,isTrue a X.env whole=(do let v <- whole;standAt a.pos;holding [v] (truthy v))) :
  PT X a (λO H Q=>ta O H λx H'=>∃k,Sv X.K x H' k/\Q k H'):=by
 intro ah s O H Q I h;exact isTrue_plain (bC (ha ah s O H _ I h) (by rintro v s1 ⟨x,H1,I1,r1,q1⟩;exact Lw ah s1 O H1 x v Q I1 r1 q1)) (he _)
theorem vals1(r:Vals [x] us):∃u,us=[u]/\RelV x u:=by
 cases r with
 |cons r1 r2=>cases r2;exact⟨_,rfl,r1⟩
theorem vals2(r:Vals [x,y] us):∃u w',us=[u,w']/\RelV x u/\RelV y w':=by
 cases r with
 |cons r1 r2=>
  cases r2 with
  |cons r3 r4=>cases r4;exact⟨_,_,rfl,r1,r3⟩
theorem vQ(hc:X.calm=true):dg X (.builtin "max") (λxs H Q=>∃i j,xs=[.int i,.int j]/\Q (.int (if j > i then j else i)) H):=by
 intro ah s O H xs us Q I r h;obtain⟨i,j,rfl,q⟩:=h;obtain⟨u,w',rfl,⟨t,rfl⟩,⟨t',rfl⟩⟩:=vals2 r;refine max_two_ints (I.ok.hd hc) λh' tk k=>⟨_,H,I.kept k,?_,q⟩
 by_cases hj:j > i
 . rw[lL hj,lL hj];exact⟨_,rfl⟩
 . rw[i8 hj,i8 hj];exact⟨_,rfl⟩
theorem vR(hc:X.calm=true):dg X (.builtin "min") (λxs H Q=>∃i j,xs=[.int i,.int j]/\Q (.int (if j<i then j else i)) H):=by
 intro ah s O H xs us Q I r h;obtain⟨i,j,rfl,q⟩:=h;obtain⟨u,w',rfl,⟨t,rfl⟩,⟨t',rfl⟩⟩:=vals2 r;refine min_two_ints (I.ok.hd hc) λh' tk k=>⟨_,H,I.kept k,?_,q⟩
 by_cases hj:j<i
 . rw[lL hj,lL hj];exact⟨_,rfl⟩
 . rw[i8 hj,i8 hj];exact⟨_,rfl⟩
def XJ(K:Frag)(x:V)(H:Hp)(n:Nat):Prop:=
 match x with
 |.str y=>y.length<=sizeLine/\n=y.length
 |.KY y=>y.size<=sizeLine/\n=y.size
 |.ref p=>(∃xs,cF K H p xs/\n=xs.length)\/∃xs,ig K H p xs/\n=xs.length
 |_=>False
theorem yK:dg X (.builtin "len") (λxs H Q=>∃x n,xs=[x]/\XJ X.K x H n/\Q (.int n) H):=by
 intro ah s O H xs us Q I r h;obtain⟨x,n,rfl,e,q⟩:=h;obtain⟨u,rfl,rx⟩:=vals1 r;have hs:=yY;cases x with
 |str y=>obtain⟨t,rfl⟩:=rx;obtain⟨hy,e'⟩:y.length<=sizeLine/\n=y.length:=e;subst e';exact len_str ⋯ ⟨.int _,H,I.tok _,⟨_,rfl⟩,q⟩
 |KY y=>obtain⟨t,rfl⟩:=rx;obtain⟨hy,e'⟩:y.size<=sizeLine/\n=y.size:=e;subst e';exact PySem.W.len_bytes ⋯ ⟨.int _,H,I.tok _,⟨_,rfl⟩,q⟩
 |ref p=>
  cases rx;have e':=e;rcases e' with ⟨xs,hx,e'⟩ |⟨xs,hx,e'⟩
  . subst e';obtain⟨aB,r',pl,hz⟩:=I.list hx;have aQ:=r'.length;exact Calls.call_len_list pl.isList (by simp only[bP];lia) ⟨.int xs.length,H,I.tok _,⟨_,by simp only[bP];rw[aQ]⟩,q⟩
  . subst e';obtain⟨aB,r',pl,hz⟩:=I.tuple hx;have aQ:=r'.length;exact len_tuple pl (by simp only[bP];lia) ⟨.int xs.length,H,I.tok _,⟨_,by simp only[bP];rw[aQ]⟩,q⟩
 |_=>exact (show False from e).elim
end
structure bK(k:Nat)(A:Around):Prop where
 hd:A.handled=none
 dp:A.depth+3 * k+5<recursionLimit
 un:A.units+16 * k+200<cLine
theorem bK.mono(r:bK k A)(h:j<=k):bK j A:=⟨r.hd,by have:=r.dp;lia,by have:=r.un;lia⟩
theorem bK.deeper(r:bK (k+1) A)(env:Env):bK k (A.deeper env):=
 ⟨r.hd,by have:=r.dp;show A.depth+1+3 * k+5<_;lia,by have:=r.un;show A.units+3+16 * k+200<_;lia⟩
theorem bK.depth(r:bK k A):A.depth<recursionLimit:=by have:=r.dp;lia
theorem bK.units(r:bK k A):A.units+64<cLine:=by have:=r.un;lia
def XM:TA:=λ_ H Q=>Q [] H
noncomputable def Sw(ta:TE)(tr:TA):TA:=λO H Q=>ta O H λx H1=>tr O H1 λxs H2=>Q (x::xs) H2
section
variable{X:Cx}{e:Expr}{es:List Expr}{te:TE}{t:TA}{pos:Pos}
theorem jf:PA X [] XM:=λ_ _ _ _ H Q I h=>Calls.spliced_nil ⟨[],H,I,.nil,h⟩
theorem bQ(ha:PE X e te)(hr:PA X es t)(hs:starEach (e::es) X.env=(false,eval e X.env)::starEach es X.env:=by rfl):PA X (e::es) (Sw te t):=by intro pos ah s O H Q I h;rw[hs];refine Calls.spliced_cons (bC (ha ah s O H _ I h) ?_);rintro u s1 ⟨x,H1,I1,r1,q1⟩;exact bC (hr pos ah s1 O H1 _ I1 q1) (by rintro us s2 ⟨xs,H2,I2,r2,q2⟩;exact⟨x::xs,H2,I2,.cons r1 r2,q2⟩)
def XQ(t:TA):TE:=λO H Q=>t O H λxs H1=>xs.length<=sizeLine/\∀p,H1 p=none->Q (.ref p) (upd H1 p (.tup xs))
def XR(t:TA):TE:=λO H Q=>t O H λxs H1=>xs.length<=sizeLine/\∀p,H1 p=none->Q (.ref p) (upd H1 p (.lst xs))
theorem yL{x1}(h:PA X es t):PE X (.Tuple es x1 pos) (XQ t):=by
 intro ah s O H Q I hq;refine wpAny_Tuple_spliced (bC (h pos ah s O H _ I hq) λus s1 ⟨xs,H1,I1,r,z,q⟩=>⟨by rw[<- r.length];exact z,?_⟩)
 have hf:=I1.hok.fresh (eA _);refine⟨.ref s1⁻¹,upd H1 s1⁻¹ (.tup xs),I1.laid (λb u e=>a7 _ e) (eA _) ?_,rfl,q _ hf⟩
 exact⟨z,us,r,⟨_,dC _ rfl,⟨rfl,_,rfl⟩,rfl⟩⟩
theorem Lx(h:PA X es t):PE X (.List es pos) (XR t):=by
 intro ah s O H Q I hq;refine wpAny_List_spliced (bC (h pos ah s O H _ I hq) λus s1 ⟨xs,H1,I1,r,z,q⟩=>⟨by rw[<- r.length];exact z,?_⟩)
 have hf:=I1.hok.fresh (eA _);refine⟨.ref s1⁻¹,upd H1 s1⁻¹ (.lst xs),I1.laid (λb u e=>a7 _ e) (eA _) ?_,rfl,q _ hf⟩
 exact⟨z,us,0,r,dC _ rfl⟩
end
abbrev Sp:=List V->Hp->VK->XK->Prop
abbrev vU:=List Env->Hp->Shared->XK->Value->Shared->Prop
structure yM(P:Program)(w:World)(K:Frag)(mg:Str->Option Value)(base:Heap)(A:Around)(outer:List Env)(s:Shared)(H:Hp):Prop where
 frames:A.frames=some outer
 mod:Mod K mg base
 bs:∀b o,base.get? b=some o->s.heap.get? b=some o/\H b=none
 yw:base.objs.size<=s⁻¹
 iB:s.heap.FunFrames base outer
 DR:∀b∈frs outer,H b=none
 hok:jc P w H s.heap
 bare:AllBare s.gens
def CE(outer:List Env)(P:Program)(w:World)(H:Hp)(s:Shared)(Q:VK)(u:Value)(s':Shared):Prop:=
 ∃v H',s'.os=s.os/\AllBare s'.gens/\Un (frs outer) [] H H' s.heap s'.heap/\jc P w H' s'.heap/\RelV v u/\Q v H'
def CR(CX:vU)(outer:List Env)(P:Program)(w:World)(H:Hp)(s:Shared)(Q:VK)(E:XK)(r:Result)(s':Shared):Prop:=
 match r with
 |.ok (.ret u)=>CE outer P w H s Q u s'
 |.ok _=>False
 |.error e=>CX outer H s E e s'
structure gJ(P:Program)(w:World)(K:Frag)(mg:Str->Option Value)(base:Heap)(CX:vU)(k:Nat)(f:Addr)(fd:FuncData)(ps:List Str)(sp:Sp):Prop where
 len:∀vs H Q E,sp vs H Q E->vs.length=ps.length
 run:∀(A:Around) (outer:List Env) (s:Shared) (H:Hp) (args:Args) (us:List Value) (vs:List V) (Q:VK) (E:XK),bK k A->yM P w K mg base A outer s H->BindsTo s fd args (ps.zip us)->Vals vs us->sp vs H Q E->
  codeAny (model P w) A (.call (.ref f) args) (CR CX outer P w H s Q E) s
section
variable{X:Cx}{ah: ~~~1}{O:St}{H:Hp}{s s':Shared}
theorem Inv.Eg(I: ~~~7):yM X.prog X.w X.K X.mg X.base X.A X.stack s H:=
 ⟨I.ok.frames,I.ok.mod,I.bs,eM I.ok.yw I.sz,I.stack,I.nZ,I.hok,I.bare⟩
theorem Inv.after(I: ~~~7)(h:CE X.stack X.prog X.w H s Q u s'):EP X ah O Q u s':=by obtain⟨v,H',os,bare,un,hok,r,q⟩:=h;obtain⟨hh,g,d,t,os'⟩:=s';obtain rfl:os'=s.os:=os;exact⟨v,H',I.call un hok bare (λb z=>absurd z ⋯),r,q⟩
end
noncomputable def Sx(sp:Sp)(Ly:List V)(E:XK)(t:TA):TE:=λO H Q=>t O H λvs H1=>sp (vs++Ly) H1 Q E
def Binds(K:Frag)(fd:FuncData)(ps:List Str)(ds:List Value):Prop:=
 ∀(s:Shared) (us:List Value),K.In s.heap->(us++ds).length=ps.length->BindsTo s fd ⟨us,[]⟩ (ps.zip (us++ds))
theorem Binds.all{K:Frag}{fd:FuncData}{ps:List Str}(h:∀us:List Value,us.length=ps.length->bindArgs fd ⟨us,[]⟩=pure (ps.zip us)):Binds K fd ps []:=λs us _ hl=>by
 rw[nK]at hl ⊢
 exact .of_eq (h us hl)
def Passes(CX:vU)(X:Cx)(E:XK):Prop:=∀(ah: ~~~1) (O:St) (H:Hp) (s:Shared) (e:Value) (s':Shared),Inv X ah O H s->CX X.stack H s E e s'->X.xe e s'
section
variable{X:Cx}{CX:vU}{k:Nat}{f C:Addr}{fd:FuncData}{ps:List Str}{sp:Sp}{Ly:List V}{ds:List Value}{E:XK}{x m:Str}{p pos d8:Pos}{e o:Expr}{es:List Expr}{ta:TE}{t:TA}
theorem Lz{ah: ~~~1}{O:St}{H:Hp}{s:Shared}{Q:VK}{us:List Value}{vs:List V}(F:gJ X.prog X.w X.K X.mg X.base CX k f fd ps sp)(hr:bK k X.A)(hb:Binds X.K fd ps ds)(hd:Vals Ly ds)(hx:Passes CX X E)
  (I: ~~~7) (r:Vals vs us) (h:sp (vs++Ly) H Q E):wpAny (~~~2) X.A (call (.ref f) us) (EP X ah O Q) X.xe s:=by
 have r2:=r.append hd;have hl:(us++ds).length=ps.length:=by rw[<- r2.length];exact F.len _ _ _ _ h
 refine BH (y0 (F.run X.A X.stack s H ⟨us,[]⟩ (us++ds) (vs++Ly) Q E hr I.Eg (hb s us I.jL hl) r2 h) λr s' hq=>?_)
 cases r with
 |error e=>exact hx ah O H s e s' I hq
 |ok fl=>
  cases fl with
  |ret u=>exact I.after hq
  |next=>exact False.elim hq
  |brk=>exact False.elim hq
  |cont=>exact False.elim hq
theorem uz(F:gJ X.prog X.w X.K X.mg X.base CX k f fd ps sp)(hr:bK k X.A)(hg:Gl X x)(hm:X.mg x=some (.ref f))(hk:PySem.W.keepIn X.K (.ref f)=true)(hb:Binds X.K fd ps ds)(hd:Vals Ly ds)(hx:Passes CX X E)
  (ha:PA X (e::es) t) (fY:(x==(~~~3))=false:=by decide) (he:starEach (e::es) X.env=(false,eval e X.env)::starEach es X.env:=by rfl) (cW:(backTo pos (starEach es X.env)).any (·.1)=false:=by rfl) :
  PE X (.Call (.Name x p) (e::es) [] pos) (Sx sp Ly E t):=by
 intro ah s O H Q I h;refine oC (eF I hg hm ?_ fY);refine AH I.ok.mod.yu hk (bC (ha pos ah s O H _ I h) λus s1 ⟨vs,H1,I1,r,q⟩=>⟨I1.jL,?_⟩) he cW
 exact Lz F hr hb hd hx I1 r q
end
structure bE(N P:List Str)(sc:Scope):Prop where
 kind:sc.kind=.function
 co:sc.isCoroutine=false
 gen:sc.isGenerator=false
 nd:N.Nodup
 pre:N.take P.length=P
 par:∀x∈P,sc.names.lookup x=some .local\/sc.names.lookup x=some .cell
 LC:∀y∈sc.names,y.2≠.free
theorem mQ{kindOf:Str->Option NameKind}{x:Str}:∀{binds:List (Str×Value)}{m:Str->Option Value},(∀v,(x,v)∉binds)->bindL kindOf binds m x=m x
 | [],_,_=>rfl
 | (n,v)::r,m,h=>by
  unfold bindL;rw[mQ λw hw=>h w (a8 _ hw)]
  split
  .
   have:x≠n:=by rintro rfl;exact h v dA
   simp[this]
  . rfl
theorem mR{kindOf:Str->Option NameKind}{x:Str}:∀{binds:List (Str×Value)}{m:Str->Option Value},(∀v,(x,v)∉binds)->bindC kindOf binds m x=m x
 | [],_,_=>rfl
 | (n,v)::r,m,h=>by
  unfold bindC;rw[mR λw hw=>h w (a8 _ hw)]
  split
  . rfl
  .
   have:x≠n:=by rintro rfl;exact h v dA
   simp[this]
theorem mS{kindOf:Str->Option NameKind}{x:Str}{v:Value}:∀{P:List Str}{vs:List Value}{i:Nat}{m:Str->Option Value},P.Nodup->P[i]?=some x->vs[i]?=some v->kindOf x=some .local->
  bindL kindOf (P.zip vs) m x=some v
 | [],_,_,_,_,h,_,_=>by simp at h
 |_::_,[],_,_,_,_,h,_=>by simp at h
 |p::P,w::vs,0,m,nd,h1,h2,hk=>by
  simp at h1 h2;subst h1;subst h2;show bindL kindOf ((p,w)::P.zip vs) m p=_;unfold bindL;rw[mQ λv hv=>(eR.mp nd).1 (BM hv).1,lL hk]
  simp
 |p::P,w::vs,i+1,m,nd,h1,h2,hk=>by
  unfold bindL;exact mS (eR.mp nd).2 (by simpa using h1) (by simpa using h2) hk
theorem mU{kindOf:Str->Option NameKind}{x:Str}{v:Value}:∀{P:List Str}{vs:List Value}{i:Nat}{m:Str->Option Value},P.Nodup->P[i]?=some x->vs[i]?=some v->kindOf x≠some .local->
  bindC kindOf (P.zip vs) m x=some v
 | [],_,_,_,_,h,_,_=>by simp at h
 |_::_,[],_,_,_,_,h,_=>by simp at h
 |p::P,w::vs,0,m,nd,h1,h2,hk=>by
  simp at h1 h2;subst h1;subst h2;show bindC kindOf ((p,w)::P.zip vs) m p=_;unfold bindC;rw[mR λv hv=>(eR.mp nd).1 (BM hv).1,i8 hk]
  simp
 |p::P,w::vs,i+1,m,nd,h1,h2,hk=>by
  unfold bindC;exact mU (eR.mp nd).2 (by simpa using h1) (by simpa using h2) hk
noncomputable def start(N:List Str)(vs:List V):St:=vs.map some++List.replicate (N.length - vs.length) none
noncomputable def eH(CX:vU)(P:Program)(w:World)(K:Frag)(mg:Str->Option Value)(base:Heap)(N:List Str)(qual:Str)(scope:Scope)(f:Addr)(cd:Value)(A:Around)(outer:List Env)(s:Shared)(H:Hp)(E:XK):Cx where
 prog:=P
 w:=w
 K:=K
 mg:=mg
 base:=base
 A:=A.deeper (envOfC qual scope s⁻¹ f cd)
 N:=N
 s₀:=s
 H₀:=H
 env:=envOfC qual scope s⁻¹ f cd
 outer:=outer
 stack:=envOfC qual scope s⁻¹ f cd::outer
 ex:=[]
 calm:=true
 fn:=λ_=>true
 pn:=[]
 xe:=λe s'=>wpAny (model P w) (A.deeper (envOfC qual scope s⁻¹ f cd)) (leaving (envOfC qual scope s⁻¹ f cd) e) (λ_ s''=>CX outer H s E e s'') (λe' s''=>CX outer H s E e' s'') s'
theorem qg{sc:Scope}{n:Nat}{x:Str}(h:sc.names.lookup x=some .cell):∃c,(cellsFrom n sc.names []).lookup x=some c:=by have q:=AM sc.names n [] (.inl h);exact Option.isSome_iff_exists.mp q
theorem mV{CX:vU}{P:Program}{w:World}{K:Frag}{mg:Str->Option Value}{base:Heap}{N ps:List Str}{qual:Str}{scope:Scope}{f:Addr}{cd:Value}{A:Around}{outer:List Env}{s s1:Shared}{H:Hp}{E:XK}{us:List Value}{vs:List V}
  (S:bE N ps scope) (hd:A.handled=none) (e0:yM P w K mg base A outer s H) (hl:vs.length=ps.length) (r:Vals vs us)
  (x:InCallC s s⁻¹ (bindL (envOfC qual scope s⁻¹ f cd).kindOf (ps.zip us) λ_=>none) (cellsFrom (s⁻¹+1) scope.names []) (bindC (envOfC qual scope s⁻¹ f cd).kindOf (ps.zip us) λ_=>none) s1) :
  Inv (eH CX P w K mg base N qual scope f cd A outer s H E) [] (start N vs) H s1:=by
 have cW:ps.length<=N.length:=by have:=congrArg List.length S.pre;rw[xI]at this;lia
 obtain⟨h1,tk,rfl,hk⟩:=x.done;have Sy:∀b:Addr,b∉(eH CX P w K mg base N qual scope f cd A outer s H E).ex:=λb z=>absurd (show b∈([]:List Addr)from z) ⋯
 refine⟨⟨e0.mod,S.kind,rfl,rfl,eA _,λy z c h1 h2=>?_,λy hy=>?_,λy c _ h=>?_,λ_=>hd,Around.frames_deeper e0.frames,.inr ⟨rfl,rfl⟩,λb z=>absurd z (Sy b),e0.bs,e0.yw,λb _ _=>Sy b,λb z=>absurd z (Sy b),e0.iB,e0.DR⟩,
  rfl,e0.bare,Un.kept hk,⟨_,x.toInCall.ns,λi y v h1 h2 h3=>?_⟩,λy c h=>⟨_,x.cell y c h⟩,e0.hok.fresh (eA _),λy c h=>?_,λp hp=>absurd (show p∈([]: ~~~1)from hp) ⋯,e0.hok.kept hk,?_⟩
 . exact name_of_addr x.apart (w9 h1) (w9 h2)
 .
  have hy:=hy;rcases hy with hy |hy
  . exact qg hy
  . exact absurd rfl (S.LC _ (w9 hy))
 . exact Nat.le_of_lt (x.above y c (w9 h))
 .
  have hi:i<vs.length:=by
   unfold start at h2;by_cases hi:i<vs.length
   . exact hi
   .
    rw[dE (by simpa using hi)]at h2
    rw[List.getElem?_replicate]at h2;split at h2 <;> cases h2
  have ha:vs[i]?=some v:=by
   unfold start at h2;rw[d5 (by simpa using hi),nE]at h2
   cases e:vs[i]? with
   |none=>rw[e]at h2;cases h2
   |some a=>rw[e]at h2;cases h2;rfl
  obtain⟨u,hu,rv⟩:=r.get ha;have hp:ps[i]?=some y:=by rw[<- S.pre,wE ⋯];exact h1
  have ZV:ps.Nodup:=by rw[<- S.pre];exact S.nd.sublist (List.take_sublist _ _)
  refine⟨u,rv,?_⟩;rcases S.par y (fA hp)with k |k
  . exact .inl ⟨k,mS ZV hp hu k⟩
  .
   obtain⟨c,e⟩:=qg k;refine .inr ⟨.inl k,c,e,?_⟩;have q:=x.cell y c e;rw[mU ZV hp hu (by show scope.names.lookup y≠_;rw[k];decide)]at q
   exact q
 . exact e0.hok.fresh (Nat.le_of_lt (x.above y c (w9 h)))
 . unfold start;show _=N.length;rw[i4,eC,i7];lia
theorem Kd{CX:vU}{P:Program}{w:World}{K:Frag}{mg:Str->Option Value}{base:Heap}{k:Nat}{f:Addr}{name qual:Str}{params:Arguments}{body:List Stmt}{scope:Scope}{dV kV doc pm bh ct oc:Value}{an od:Option Addr}
  {osl:Array (Option Value)}{N ps:List Str}{sp:Sp} (lk:K.lookup f=some ⟨oc,od,.func (PySem.W.fnOf name qual params body scope dV kV doc pm an bh ct),osl⟩) (cB:PySem.W.codeIn K bh qual=true) (S:bE N ps scope)
  (len:∀vs H Q E,sp vs H Q E->vs.length=ps.length)
  (hbody:∀(A:Around) (outer:List Env) (s:Shared) (H:Hp) (vs:List V) (Q:VK) (E:XK),bK k (A.deeper (envOfC qual scope s⁻¹ f bh))->sp vs H Q E->
   ∃t,n5 (eH CX P w K mg base N qual scope f bh A outer s H E) body t/\t { nx:=λ_ H'=>Q .non H',rt:=Q} (start N vs) H) :
  gJ P w K mg base CX (k+1) f (PySem.W.fnOf name qual params body scope dV kV doc pm an bh ct) ps sp:=by
 refine⟨len,λA outer s H args us vs Q E hr e0 hb r Q8=>?_⟩
 have hl:=len _ _ _ _ Q8;have KX:=e0.mod.yu.keeps λb o e=>(e0.bs b o e).1
 have lim:=e0.mod.nolimit.keeps λb o e=>(e0.bs b o e).1
 have hkind:∀y∈ps.zip us,scope.names.lookup y.1=some .local\/(scope.names.lookup y.1=some .cell/\((cellsFrom (s⁻¹+1) scope.names []).lookup y.1).isSome=true):=by
  rintro⟨n,v⟩ hy;rcases S.par n (BM hy).1 with q |q
  . exact .inl q
  . exact .inr ⟨q,AM _ _ _ (.inl q)⟩
 refine codeAny_call_function hr.depth (KX _ _ lk) rfl S.co S.gen rfl (PySem.W.codeRec_of KX cB) (hb _ _ _ _ ?_);refine wpAny_newFunctionEnv_cells S.kind hkind λenv he s1 x=>?_
 subst he;refine⟨lim.keeps x.toInCall.keep,codeAny_func ?_⟩;obtain⟨t,ht,hq⟩:=hbody A outer s H vs Q E (hr.deeper _) Q8;have I:Inv (eH CX P w K mg base N qual scope f bh A outer s H E) [] (start N vs) H s1:=mV S hr.hd e0 hl r x;refine hZ (ht [] s1 (start N vs) H _ I hq) (λfl s' hs=>?_) λe s' hs=>hs
 have fin:∀{σ':St}{H':Hp}{v:V}{u:Value},Inv (eH CX P w K mg base N qual scope f bh A outer s H E) [] σ' H' s'->RelV v u->Q v H'->CE outer P w H s Q u s':=
  λ{σ' H' v u} J rv q=>⟨v,H',J.os,J.bare,J.base,J.hok,rv,q⟩
 cases fl with
 |ret u=>obtain⟨v,σ',H',J,rv,q⟩:=hs;exact fin J rv q
 |next=>obtain⟨σ',H',J,q⟩:=hs;exact fin (v:=V.non) J rfl q
 |brk=>obtain⟨_,_,_,q⟩:=hs;exact False.elim q
 |cont=>obtain⟨_,_,_,q⟩:=hs;exact False.elim q
section
variable{X:Cx}{x:Str}{p pos:Pos}{e:Expr}{es:List Expr}{t:TA}{id T:String}{r:List V->Hp->VK->Prop}
noncomputable def ZW(r:List V->Hp->VK->Prop)(t:TA):TE:=λO H Q=>t O H λvs H1=>r vs H1 Q
theorem fE(hc:dg X (.builtin id) r)(hg:Gl X x)(hm:X.mg x=none)(hv:bootBuiltins x=some (.builtin id))(ha:PA X (e::es) t)(hn:x≠ "__name__" :=by decide)(fY:(x==(~~~3))=false:=by decide)
  (he:starEach (e::es) X.env=(false,eval e X.env)::starEach es X.env:=by rfl) (cW:(backTo pos (starEach es X.env)).any (·.1)=false:=by rfl):PE X (.Call (.Name x p) (e::es) [] pos) (ZW r t):=by
 intro ah s O H Q I h;refine oC (fD I hg hm hv ?_ hn fY);exact PyProof.Rows.callWith_builtin1 (bC (ha pos ah s O H _ I h) (by rintro us s1 ⟨vs,H1,I1,r1,q1⟩;exact hc ah s1 O H1 vs us Q I1 r1 q1)) he cW
theorem mW(hc:dg X (.type T) r)(hg:Gl X x)(hm:X.mg x=none)(hv:bootBuiltins x=some (.type T))(ha:PA X (e::es) t)(hn:x≠ "__name__" :=by decide)(fY:(x==(~~~3))=false:=by decide)
  (he:starEach (e::es) X.env=(false,eval e X.env)::starEach es X.env:=by rfl) (cW:(backTo pos (starEach es X.env)).any (·.1)=false:=by rfl):PE X (.Call (.Name x p) (e::es) [] pos) (ZW r t):=by
 intro ah s O H Q I h;refine oC (fD I hg hm hv ?_ hn fY);exact n0 (bC (ha pos ah s O H _ I h) λus s1 ⟨vs,H1,I1,r1,q1⟩=>hc ah s1 O H1 vs us Q I1 r1 q1) he cW
end
end L2
namespace HT
open PySem PyProof.Rows
section
open PySem.SeqAt
open PySem.AutoSeq1 (wpAny_loadPart')
open PySem.MeetsSeq PySem.MeetsSeq2 PySem.MeetsSeq3
end
section
variable{prog:Program}{w:World}{A:Around}{E:Value->Shared->Prop}{s:Shared}
theorem Eh(ht:IsTup s.heap t vs.toArray)(hb:IsTup s.heap b ws.toArray)(hv:vs≠[])
  (h1:ws=[]->Q (.ref t) s) (h2:ws≠[]->Q (.ref s⁻¹) { s with heap:=s.heap.push { cls:=.type "tuple",data:=.seq (vs++ws).toArray}})
  (iu:vs.length+ws.length<=sizeLine):wpAny (model prog w) A (binaryOp .Add (.ref t) (.ref b)) Q E s:=by
 obtain⟨⟨cls,dd,data,sl⟩,ho,hc,n,hd⟩:=id ht;obtain⟨⟨XS,dd2,data2,sl2⟩,ho2,hc2,n2,hd2⟩:=id hb;subst hc hd hc2 hd2;have e:vs.toArray++ws.toArray=(vs++ws).toArray:=by simp
 by_cases hw:ws=[]
 .
  exact concat_meets ⟨_,ho,rfl⟩ ⟨_,ho2,rfl⟩ noFill_tuple_add seq_tuple_add AO AI (AG _ _)
   (tuple_addW1 t b vs.toArray ws.toArray n n2 dd dd2 sl sl2 (by simpa using hv) (by simp[hw])) ⟨ho,ho2,h1 hw⟩
 .
  refine concat_meets ⟨_,ho,rfl⟩ ⟨_,ho2,rfl⟩ noFill_tuple_add seq_tuple_add AO AI (AG _ _)
   (tuple_addW2 t b vs.toArray ws.toArray n n2 dd dd2 sl sl2 (by simpa using hv) (by simpa using hw) (by rw[bP];exact iu)) ⟨ho,ho2,?_⟩
  rw[e];exact h2 hw
noncomputable def bB(n d:Nat):Option Int->Nat
 |none=>d
 |some v=>if v<0 then (v+(n:Int)).toNat else min v.toNat n
theorem uA(v:Int)(n d:Nat):(if v<0 then max (v+(n:Int)) 0 else min v (n:Int))=((bB n d (some v):Nat):Int):=by
 show (if v<0 then max (v+(n:Int)) 0 else min v (n:Int))=(((if v<0 then (v+(n:Int)).toNat else min v.toNat n):Nat):Int)
 by_cases hv:v<0
 . simp only[lL hv];lia
 . simp only[i8 hv];lia
theorem sD(lo hi:Option Int)(n:Nat):Builtin.Slice.sliceAdjust lo hi 1 (n:Int)=(((bB n 0 lo:Nat):Int),((bB n n hi:Nat):Int)):=by
 have h1 : ¬ ((1:Int)<0):=by lia
 unfold Builtin.Slice.sliceAdjust;refine Prod.ext ?_ ?_
 .
  cases lo with
  |none=>rfl
  |some v=>exact uA v n 0
 .
  cases hi with
  |none=>rfl
  |some v=>exact uA v n n
theorem sE(i j:Nat):Builtin.Slice.slicePlaces (i:Int) (j:Int) 1=j - i:=by
 unfold Builtin.Slice.slicePlaces;have h1:(1:Int) > 0:=by lia
 split <;> lia
theorem j4(p:IsPart v o)(h:Q o s):wpAny (model prog w) A (Builtin.Slice.slicePartIndex v) Q E s:=by
 cases p with
 |none=>exact slicePart_none h
 |int i t=>exact slicePart_int h
theorem dF{sl:Addr}{vl vu:Value}{lo hi:Option Int}{n:Nat}{Q:Int×Int×Nat->Shared->Prop}(hs:s.heap.IsSliceOf sl vl vu .none)(pl:IsPart vl lo)(pu:IsPart vu hi)
  (h:Q (((bB n 0 lo:Nat):Int),1,bB n n hi - bB n 0 lo) s):wpAny (model prog w) A (Builtin.Slice.sliceApplied (.ref sl) (pure (n:Int))) Q E s:=by
 obtain⟨os,hos,hcs,hds⟩:=id hs;refine aS (aS (l8 hos hds rfl (aS (l8 hos hds rfl (aS (l8 hos hds rfl (dS ?_)))))));refine aS (slicePart_none ?_);refine aS (j4 pl (aS (j4 pu (aS (dS ?_)))));show wpAny _ _ (match Builtin.Slice.sliceAdjust lo hi 1 (n:Int)with | (lo,hi)=>pure (lo,(1:Int),Builtin.Slice.slicePlaces lo hi 1)) _ _ s
 rw[sD lo hi n];show wpAny _ _ (pure (((bB n 0 lo:Nat):Int),(1:Int),Builtin.Slice.slicePlaces ((bB n 0 lo:Nat):Int) ((bB n n hi:Nat):Int) 1)) _ _ s;rw[sE];exact dS h
theorem yO(xs:Array Value)(i k:Nat):((List.range k).filterMap λ(m:Nat)=>xs[((i:Int)+(m:Int) * 1).toNat]?).toArray=((xs.toList.drop i).take k).toArray:=by
 have e:(λ(m:Nat)=>xs[((i:Int)+(m:Int) * 1).toNat]?)=λm=>xs[i+m]?:=by
  funext m
  have:((i:Int)+(m:Int) * 1).toNat=i+m:=by lia
  rw[this]
 rw[e];have:=pick_run xs i k;rw[List.filterMap_map]at this;have e2:((λx=>xs[x]?) ∘ λx=>i+x)=λm=>xs[i+m]?:=rfl
 rw[e2]at this;rw[this]
theorem iD{t sl:Addr}{aj:Array Value}{vl vu:Value}{lo hi:Option Int}{Q:Value->Shared->Prop}(ht:IsTup s.heap t aj)(hs:s.heap.IsSliceOf sl vl vu .none)(pl:IsPart vl lo)(pu:IsPart vu hi)
  (hw : ¬ (bB aj.size 0 lo=0/\bB aj.size aj.size hi=aj.size))
  (h:Q (.ref s⁻¹) { s with heap:=s.heap.push { cls:=.type "tuple",data:=.seq ((aj.toList.drop (bB aj.size 0 lo)).take (bB aj.size aj.size hi - bB aj.size 0 lo)).toArray}})
  (iu:aj.size<=sizeLine):wpAny (model prog w) A (getItem (.ref t) (.ref sl)) Q E s:=by
 have uB:sizeOk (.seq ((aj.toList.drop (bB aj.size 0 lo)).take (bB aj.size aj.size hi - bB aj.size 0 lo)).toArray):=by show ((aj.toList.drop (bB aj.size 0 lo)).take (bB aj.size aj.size hi - bB aj.size 0 lo)).toArray.size<=sizeLine;rw[bP,xI,List.length_drop,w8];lia
 obtain⟨os,hos,hcs,hds⟩:=id hs;have Wy:s.TypeIs (.ref sl) "slice" :=⟨os,hos,hcs⟩;unfold getItem
 try with_reducible refine mB ?_
 first |refine aS (dS ?_) |skip
 refine aS (wpAny_sequenceKey ht.typeIs ⋯ ?_);refine aS (oD ht.typeIs oS
  (tP oS ht.typeIs entry_tuple_getitem ?_ (args_tuple_getitem _ _)))
 show wpAny _ _ (Builtin.Tuple.tupleItemsOf (.ref t) >>= _) _ _ s;refine aS (tupleItemsOf_ ht ?_);refine aS (wpAny_typeOf Wy ?_);refine aS (dF hs pl pu ?_);have hno : ¬ ((((bB aj.size 0 lo:Nat):Int)==0&&(1:Int)==1&&(bB aj.size aj.size hi - bB aj.size 0 lo)==aj.size)=true):=by intro q;rw[eQ,eQ]at q;exact hw ⟨by lia,by lia⟩
 show wpAny _ _ (if (((bB aj.size 0 lo:Nat):Int)==0&&(1:Int)==1&&(bB aj.size aj.size hi - bB aj.size 0 lo)==aj.size)=true then _ else _) _ _ s
 rw[i8 hno,yO]
 first
  |exact aS (o6 (dS ⟨_,rfl,dS h⟩) uB)
  |exact aS (o6 (aS (dS (dS ⟨_,rfl,dS h⟩))) uB)
  |exact aS (aS (o6 (dS (dS ⟨_,rfl,dS h⟩)) uB))
  |exact aS (aS (o6 (dS ⟨_,rfl,dS h⟩) uB))
end
end HT
namespace L2
abbrev TO:=St->Hp->(Option Int->Hp->Prop)->Prop
def PO(X:Cx)(e:Option Expr)(t:TO):Prop:=
 ∀(ah: ~~~1) (s:Shared) (O:St) (H:Hp) (Q:Option Int->Hp->Prop),Inv X ah O H s->t O H Q->
  wpAny (~~~2) X.A (evalPart e X.env) (λu s'=>∃o H',Inv X ah O H' s'/\IsPart u o/\Q o H') X.xe s
def Ei:TO:=λ_ H Q=>Q none H
def Sz(t:TE):TO:=λO H Q=>t O H λx H1=>∃i,x=.int i/\Q (some i) H1
theorem intsAre_of:∀{us:List Value},Vals (ns.map V.int) us->IntsAre us ns:=by
 induction ns with
 |nil=>intro us r;rw[List.map_nil]at r;cases r;exact .nil
 |cons n ns ih=>
  intro us r;cases r with
  |cons r1 r2=>obtain⟨t,e⟩:=r1;subst e;exact .cons n t (ih r2)
section
variable{X:Cx}{e:Expr}{te:TE}{lo hi:Option Expr}{tl th:TO}{pos p2:Pos}
theorem Ej:PO X none Ei:=by intro ah s O H Q I h;exact dS ⟨none,H,I,.none,h⟩
theorem Ek(h:PE X e te):PO X (some e) (Sz te):=by intro ah s O H Q I hw;refine bC (h ah s O H _ I hw) ?_;rintro u s1 ⟨x,H1,I1,r1,q1⟩;obtain⟨i,rfl,q⟩:=q1;obtain⟨t,rfl⟩:=r1;exact⟨some i,H1,I1,.int i t,q⟩
def Wz(X:Cx)(r:V->Option Int->Option Int->Hp->VK->Prop):Prop:=
 ∀(ah: ~~~1) (s:Shared) (O:St) (H:Hp) (x:V) (v vl vu:Value) (lo hi:Option Int) (sl:Addr) (Q:VK),Inv X ah O H s->RelV x v->s.heap.IsSliceOf sl vl vu .none->IsPart vl lo->IsPart vu hi->r x lo hi H Q->
  ∃T id,typeLookup (.type T) "__getitem__"=pure (some (.builtin id))/\s.TypeIs v T/\wpAny (~~~2) X.A (getItem v (.ref sl)) (EP X ah O Q) X.xe s
noncomputable def tSl(r:V->Option Int->Option Int->Hp->VK->Prop)(te:TE)(tl th:TO):TE:=λO H Q=>te O H λx H1=>tl O H1 λl H2=>th O H2 λu H3=>r x l u H3 Q
theorem j5{r:V->Option Int->Option Int->Hp->VK->Prop}(hr:Wz X r)(he:PE X e te)(hl:PO X lo tl)(hu:PO X hi th):PE X (.Subscript e (.Slice lo hi none p2) pos) (tSl r te tl th):=by
 intro ah s O H Q I h;refine Subscript_ (bC (he ah s O H _ I h) ?_);rintro v s1 ⟨x,H1,I1,r1,q1⟩;refine wpAny_Slice (bC (hl ah s1 O H1 _ I1 q1) λvl s2 ⟨l,H2,I2,pl,q2⟩=>bC (hu ah s2 O H2 _ I2 q2) ?_)
 rintro vu s3 ⟨u,H3,I3,pu,q3⟩;refine dS ?_;have I4:Inv X ah O H3 { s3 with heap:=s3.heap.push { cls:=.type "slice",data:=.fields #[vl,vu,.none]}}:=I3.kept λb ob q=>a7 _ q
 obtain⟨T,id,hT,ht,hg⟩:=hr ah { s3 with heap:=s3.heap.push { cls:=.type "slice",data:=.fields #[vl,vu,.none]}} O H3 x v vl vu l u s3⁻¹ Q I4 r1 (Heap.IsSliceOf.new ..) pl pu q3;exact tail_any ht hT hg (by with_unfolding_all rfl)
def sF(xs:List V)(lo hi:Option Int):List V:=(xs.drop (HT.bB xs.length 0 lo)).take (HT.bB xs.length xs.length hi - HT.bB xs.length 0 lo)
theorem jx(xs:List V)(lo hi:Option Int):(sF xs lo hi).length<=xs.length:=by unfold sF;rw[xI,List.length_drop];lia
def XT(K:Frag):V->Option Int->Option Int->Hp->VK->Prop:=λx lo hi H Q=>∃a xs,x=.ref a/\ig K H a xs/\
 ¬ (HT.bB xs.length 0 lo=0/\HT.bB xs.length xs.length hi=xs.length)/\∀p,H p=none->Q (.ref p) (upd H p (.tup (sF xs lo hi)))
theorem LK:Wz X (XT X.K):=by
 intro ah s O H x v vl vu lo hi sl Q I rx hs pl pu h;obtain⟨a,xs,rfl,hx,hw,q⟩:=h;cases rx;obtain⟨aB,r,ht,hz⟩:=I.tuple hx;have aQ:aB.toArray.size=xs.length:=by rw[bP];exact r.length.symm
 refine⟨"tuple",_,PyProof.Rows.slot_tuple_getitem.lookup,ht.typeIs,?_⟩;refine HT.iD ht hs pl pu (by rw[aQ];exact hw) ?_ (by rw[aQ];exact hz)
 rw[aQ];refine⟨.ref s⁻¹,_,I.laid (λb ob q=>a7 _ q) (eA _) ?_,rfl,q _ (I.hok.fresh (eA _))⟩
 exact⟨eM (jx xs lo hi) hz,_,(r.drop (HT.bB xs.length 0 lo)).take (HT.bB xs.length xs.length hi - HT.bB xs.length 0 lo),eE.new _ _⟩
def SJ(K:Frag):R2:=λx y H Q=>∃a b xs ys,x=.ref a/\y=.ref b/\ig K H a xs/\ig K H b ys/\xs≠[]/\xs.length+ys.length<=sizeLine/\
 (ys=[]->Q (.ref a) H)/\(ys≠[]->∀p,H p=none->Q (.ref p) (upd H p (.tup (xs++ys))))
theorem Vals.oq(r:Vals xs us):us=[] ↔ xs=[]:=by
 cases r with
 |nil=>simp
 |cons _ _=>simp
theorem El:jB X (binaryOp .Add) (SJ X.K):=by
 intro ah s O H x y v u Q I rx ry h;obtain⟨a,b,xs,ys,rfl,rfl,ha,hb,hx,hz,q1,q2⟩:=h;cases rx;cases ry;obtain⟨aB,r1,p1,_⟩:=I.tuple ha;obtain⟨Dn,r2,p2,_⟩:=I.tuple hb;refine HT.Eh p1 p2 (λz=>hx (r1.oq.mp z)) (λz=>⟨.ref a,H,I,rfl,q1 (r2.oq.mp z)⟩) (λz=>?_) (by rw[<- r1.length,<- r2.length];exact hz)
 refine⟨.ref s⁻¹,_,I.laid (λb ob q=>a7 _ q) (eA _) ?_,rfl,q2 (λw=>z (r2.oq.mpr w)) _ (I.hok.fresh (eA _))⟩
 exact⟨by rw[i4];exact hz,_,r1.append r2,eE.new _ _⟩
end
noncomputable def rY(n:Nat)(i:Int):Option Nat:=if 0<=i then (if i<n then some i.toNat else none)else if -(n:Int)<=i then some (i+n).toNat else none
def fj{α:Type}(xs:List α)(i:Int):Option α:=(rY xs.length i).bind λj=>xs[j]?
theorem uC(h:rY n i=some j):seqIndex? i n=some j/\j<n/\-(n:Int)<=i/\i<n:=by
 unfold rY at h;by_cases h0:0<=i
 .
  rw[lL h0]at h;by_cases h1:i<n
  . rw[lL h1]at h;have e:=l6 h;exact⟨by rw[seqIndex_of h0 h1,e],by lia,by lia,h1⟩
  . rw[i8 h1]at h;symm
 .
  rw[i8 h0]at h;by_cases h1 : -(n:Int)<=i
  . rw[lL h1]at h;have e:=l6 h;exact⟨by rw[seqIndex_neg ⋯ h1,e],by lia,h1,by lia⟩
  . rw[i8 h1]at h;symm
theorem uD{α:Type}{xs:List α}{i:Int}{v:α}(h:fj xs i=some v):∃j,seqIndex? i xs.length=some j/\xs[j]?=some v/\j<xs.length/\-(xs.length:Int)<=i/\i<xs.length:=by
 unfold fj at h;cases e:rY xs.length i with
 |none=>rw[e]at h;symm
 |some j=>rw[e]at h;obtain⟨h1,h2,h3,h4⟩:=uC e;exact⟨j,h1,h,h2,h3,h4⟩
def jN(b:Expr):Prop:=∀o i,subscripted b false o i=operate [o,i] (getItem o i)
def SM(X:Cx)(r:R2):Prop:=
 ∀(value slice:Expr) (ah: ~~~1) (s:Shared) (O:St) (H:Hp) (x y:V) (v u:Value) (Q:VK),Inv X ah O H s->RelV x v->RelV y u->r x y H Q->
  subscripted slice false v u=operate [v,u] (getItem v u)->wpAny (~~~2) X.A (subscriptTail value slice v u) (EP X ah O Q) X.xe s
def ZX(X:Cx)(id:String)(r:V->List V->Hp->VK->Prop):Prop:=
 ∀(ah: ~~~1) (s:Shared) (O:St) (H:Hp) (x:V) (xs:List V) (v:Value) (us:List Value) (Q:VK),Inv X ah O H s->RelV x v->Vals xs us->r x xs H Q->
  wpAny (~~~2) X.A (call (.builtin id) (v::us)) (EP X ah O Q) X.xe s
section
variable{X:Cx}{a b:Expr}{ta tb:TE}{pos:Pos}
theorem Ke{r:R2}(hr:SM X r)(ha:PE X a ta)(hb:PE X b tb)(hs:jN b):PE X (.Subscript a b pos) (Wx r ta tb):=by intro ah s O H Q I h;exact Subscript_ (Lk ha hb I h λv u s2 x y H2 I2 rx ry q=>hr a b ah s2 O H2 x y v u Q I2 rx ry q (hs _ _))
def XX(K:Frag):R2:=λx y H Q=>∃p xs i v,x=.ref p/\y=.int i/\cF K H p xs/\fj xs i=some v/\Q v H
def XZ(K:Frag):R2:=λx y H Q=>∃p xs i v,x=.ref p/\y=.int i/\ig K H p xs/\fj xs i=some v/\Q v H
theorem uE:SM X (XX X.K):=by
 intro value slice ah s O H x y v u Q I rx ry h hs;obtain⟨p,xs,i,z,rfl,rfl,hq,he,q⟩:=h;cases rx;obtain⟨t,rfl⟩:=ry;obtain⟨aB,r,pl,hz⟩:=I.list hq;obtain⟨j,h1,h2,h3,h4,h5⟩:=uD he;obtain⟨w,ew,rw'⟩:=r.get h2;have hl:=r.length;have hn:=sC;have fin:EP X ah O Q w s:=⟨z,H,I,rw',q⟩;by_cases h0:0<=i
 .
  have hj:i.toNat=j:=by rw[seqIndex_of h0 h5]at h1;exact l6 h1
  exact item_listR pl.isList h0 ⋯ (by rw[hj];simpa using ew) fin hs
 .
  have hj:(i+(aB.toArray.size:Int)).toNat=j:=by rw[seqIndex_neg ⋯ h4]at h1;rw[bP,<- hl];exact l6 h1
  exact subscriptTail_builtinR pl.isList.typeIs slot_list_getitem.lookup
   (wpAny_getItem_list_neg pl.isList ⋯ (by rw[bP] <;> lia) ⋯ (by rw[hj];simpa using ew) ⟨rfl,fin⟩) hs
theorem LQ:SM X (XZ X.K):=by
 intro value slice ah s O H x y v u Q I rx ry h hs;obtain⟨p,xs,i,z,rfl,rfl,hq,he,q⟩:=h;cases rx;obtain⟨t,rfl⟩:=ry;obtain⟨aB,r,pl,hz⟩:=I.tuple hq;obtain⟨j,h1,h2,h3,h4,h5⟩:=uD he;obtain⟨w,ew,rw'⟩:=r.get h2;have hl:=r.length;have hn:=sC;have fin:EP X ah O Q w s:=⟨z,H,I,rw',q⟩;exact subscriptTail_builtinR pl.typeIs slot_tuple_getitem.lookup
  (getItem_tuple pl ⋯ ⋯ (by rw[bP,<- hl];exact h1) (by simpa using ew) ⟨rfl,fin⟩) hs
theorem sG(aB:List Value)(n j:Nat)(u:Value):Obj.mapSeq (·.setIfInBounds j u) { cls:=.type "list",data:=.seq aB.toArray n}={ cls:=.type "list",data:=.seq (aB.set j u).toArray n}:=by simp[Obj.mapSeq]
theorem Inv.lst{ah: ~~~1}{O:St}{H:Hp}{s:Shared}{p:Addr}{xs:List V}(I: ~~~7)(h:H p=some (.lst xs)) :
  ∃(aB:List Value) (n:Nat),Vals xs aB/\s.heap.get? p=some { cls:=.type "list",data:=.seq aB.toArray n}/\xs.length<=sizeLine:=by
 obtain⟨z,aB,n,r,e⟩:=I.hok p _ h;exact⟨aB,n,r,e,z⟩
theorem Inv.LR{ah: ~~~1}{O:St}{H:Hp}{s:Shared}{p:Addr}{xs ys:List V}{aB its':List Value}{n n':Nat}{f:Obj->Obj}(I: ~~~7)(h:H p=some (.lst xs))
  (ho:s.heap.get? p=some { cls:=.type "list",data:=.seq aB.toArray n}) (hf:f { cls:=.type "list",data:=.seq aB.toArray n}={ cls:=.type "list",data:=.seq its'.toArray n'}) (r:Vals ys its') (hz:ys.length<=sizeLine) (t:Nat) :
  Inv X ah O (upd H p (.lst ys)) { s with heap:=s.heap.update p f,toks:=t}:=by
 have e:(s.heap.update p f).get? p=some { cls:=.type "list",data:=.seq its'.toArray n'}:=by rw[mI f ho (by rw[hf] <;> rfl),hf]
 refine I.write (by rw[h];trivial) (.inl rfl) (λb u hb q=>(fI _ _ (lS hb)).trans q) ⟨_,e⟩ ?_
 exact⟨hz,its',n',r,e⟩
def SN:V->V->V->Hp->(Hp->Prop)->Prop:=λo i v H Q=>∃p xs k j,o=.ref p/\i=.int k/\H p=some (.lst xs)/\rY xs.length k=some j/\Q (upd H p (.lst (xs.set j v)))
theorem set_list:Lb X SN:=by
 intro ah s O H o i v ov iv u Q I ro ri rv h;obtain⟨p,xs,k,j,rfl,rfl,hp,hj,q⟩:=h;cases ro;obtain⟨t,rfl⟩:=ri;obtain⟨aB,n,r,ho,hz⟩:=I.lst hp;obtain⟨h1,h2,h3,h4⟩:=uC hj;have hl:=r.length;have hn:=sC;have I':=
  I.LR hp ho (sG aB n j u) (r.set rv j) (by rw[wP];exact hz) s.toks
 by_cases h0:0<=k
 .
  have hk:k.toNat=j:=by rw[seqIndex_of h0 h4]at h1;exact l6 h1
  exact PySem.W.ki_setAt ho h0 ⋯ (by rw[bP,<- hl];exact h4) (by rw[hk];exact⟨_,I',q⟩)
 .
  have hk:(k+(aB.toArray.size:Int)).toNat=j:=by rw[seqIndex_neg ⋯ h3]at h1;rw[bP,<- hl];exact l6 h1
  exact PySem.W.ki_setBack ho ⋯ (by rw[bP,<- hl];exact h3) ⋯ (by rw[hk];exact⟨_,I',q⟩)
theorem ou(lo hi:Option Int)(n:Nat):(sliceBounds lo hi none n).1=((HT.bB n 0 lo:Nat):Int)/\(sliceBounds lo hi none n).2.1=((HT.bB n n hi:Nat):Int)/\(sliceBounds lo hi none n).2.2=1:=by
 refine⟨?_,?_,rfl⟩
 .
  cases lo with
  |none=>simp[sliceBounds,HT.bB]
  |some i=>
   simp only[sliceBounds,HT.bB,Option.getD_none];by_cases h:i<0
   . simp only[h] <;> lia
   . simp only[h] <;> lia
 .
  cases hi with
  |none=>simp[sliceBounds,HT.bB]
  |some i=>
   simp only[sliceBounds,HT.bB,Option.getD_none];by_cases h:i<0
   . simp only[h] <;> lia
   . simp only[h] <;> lia
theorem lT(aB:List Value)(lo hi:Option Int):slicePick aB.toArray lo hi none=((aB.drop (HT.bB aB.length 0 lo)).take (HT.bB aB.length aB.length hi - HT.bB aB.length 0 lo)).toArray:=by obtain⟨h1,h2,h3⟩:=ou lo hi aB.toArray.size;unfold slicePick;rw[h1,h2,h3];simp only[sliceRange_one,pick_run] <;> rfl
def X3(K:Frag):V->Option Int->Option Int->Hp->VK->Prop:=λx lo hi H Q=>∃a xs,x=.ref a/\cF K H a xs/\∀p,H p=none->Q (.ref p) (upd H p (.lst (sF xs lo hi)))
theorem uF:Wz X (X3 X.K):=by
 intro ah s O H x v vl vu lo hi sl Q I rx hs pl pu h;obtain⟨a,xs,rfl,hx,q⟩:=h;cases rx;obtain⟨aB,r,ht,hz⟩:=I.list hx;have aQ:=r.length;refine⟨"list",_,slot_list_getitem.lookup,ht.isList.typeIs,?_⟩;refine wpAny_getItem_list_slice ht.isList hs pl pu .none ⋯ ?_ (by rw[bP] <;> lia)
 rw[lT,<- aQ];refine⟨.ref s⁻¹,_,I.laid (λb ob q=>a7 _ q) (eA _) ?_,rfl,q _ (I.hok.fresh (eA _))⟩
 exact⟨eM (jx xs lo hi) hz,_,0,(r.drop (HT.bB xs.length 0 lo)).take (HT.bB xs.length xs.length hi - HT.bB xs.length 0 lo),dC _ rfl⟩
theorem oz:dg X (.type "list") (λxs H Q=>∃p ys,xs=[.ref p]/\(cF X.K H p ys\/ig X.K H p ys)/\∀l,H l=none->Q (.ref l) (upd H l (.lst ys))):=by
 intro ah s O H xs us Q I r h;obtain⟨p,ys,rfl,hq,q⟩:=h;obtain⟨u,rfl,rx⟩:=vals1 r;cases rx;have fin:∀(aB:List Value),Vals ys aB->ys.length<=sizeLine->∀(h':Heap) (c':Nat),(∀b o',s.heap.get? b=some o'->h'.get? b=some o')->
   h'.get? s⁻¹=some { cls:=.type "list",dict:=none,data:=.seq aB.toArray c',slots:=#[]}->EP X ah O Q (.ref s⁻¹) { s with heap:=h'}:=λaB r' hz h' c' kp e=>
  ⟨.ref s⁻¹,_,I.laid kp (eA _) (show cg X.prog X.w _ h' _ (.lst ys)from⟨hz,aB,c',r',e⟩),rfl,q _ (I.hok.fresh (eA _))⟩
 rcases hq with hq |hq
 . obtain⟨aB,r',pl,hz⟩:=I.list hq;have aQ:=r'.length;obtain⟨o,ho,hc,n,hd⟩:=pl.isList;exact call_list_seq p (.inl rfl) ho hc hd (λh' c' kp e=>fin aB r' hz h' c' kp e) (by simp only[bP] <;> lia)
 . obtain⟨aB,r',pl,hz⟩:=I.tuple hq;have aQ:=r'.length;obtain⟨o,ho,hc,n,hd⟩:=pl;exact call_list_seq p (.inr rfl) ho hc hd (λh' c' kp e=>fin aB r' hz h' c' kp e) (by simp only[bP] <;> lia)
theorem lU:dg X (.type "tuple") (λxs H Q=>∃p ys,xs=[.ref p]/\((cF X.K H p ys/\∀l,H l=none->Q (.ref l) (upd H l (.tup ys)))\/(ig X.K H p ys/\Q (.ref p) H))):=by
 intro ah s O H xs us Q I r h;obtain⟨p,ys,rfl,h⟩:=h;obtain⟨u,rfl,rx⟩:=vals1 r;cases rx;rcases h with ⟨hq,q⟩ |⟨hq,q⟩
 .
  obtain⟨aB,r',pl,hz⟩:=I.list hq;have aQ:=r'.length;refine call_tuple_list pl.isList (λh' kp=>?_) (by simp only[bP] <;> lia)
  have I1:=I.kept (t':=s.toks) kp;have I2:=
   I1.laid (t':=s.toks) (λb o e=>a7 _ e) (eA _) (show cg X.prog X.w _ _ _ (.tup ys)from⟨hz,aB,r',eE.new _ _⟩)
  exact⟨.ref h'.objs.size,_,I2,rfl,q _ (I1.hok.fresh (eA _))⟩
 . obtain⟨aB,r',pl,hz⟩:=I.tuple hq;exact call_tuple_same pl ⟨.ref p,H,I,rfl,q⟩
def ZZ(K:Frag)(T:String)(x:V)(H:Hp):Prop:=match x with
 |.str _=>T = "str"
 |.int _=>T = "int"
 |.ref p=>(T = "list" /\∃xs,cF K H p xs)\/(T = "tuple" /\∃o,K.lookup p=some o/\o.cls=.type "tuple" /\o.dict=none)\/
   (T = "dict" /\((∃eu,H p=some (.dK eu))\/∃eu,H p=some (.dT eu)))\/(T = "set" /\∃S n,H p=some (.set S n))
 |_=>False
theorem LW{ah: ~~~1}{O:St}{H:Hp}{s:Shared}{T:String}{x:V}{v:Value}(I: ~~~7)(r:RelV x v)(ty:ZZ X.K T x H) :
  s.TypeIs v T/\∀a,v=.ref a->∃ob,s.heap.get? a=some ob/\ob.dict=none:=by
 cases x with
 |str z=>
  obtain⟨t,rfl⟩:=r;cases (show T = "str" from ty)
  exact⟨typeIs_str s z t,λ_ e=>nomatch e⟩
 |int i=>
  obtain⟨t,rfl⟩:=r;cases (show T = "int" from ty)
  exact⟨typeIs_int s i t,λ_ e=>nomatch e⟩
 |ref p=>
  cases r;rcases ty with ⟨rfl,xs,hq⟩ |⟨rfl,o,hk,hc,hd⟩ |⟨rfl,hk⟩ |⟨rfl,S,n,hk⟩
  .
   obtain⟨aB,_,pl,_⟩:=I.list hq;refine⟨pl.isList.typeIs,λa e=>?_⟩
   cases e;obtain⟨o,n,e,c,hd,_⟩:=pl;exact⟨o,e,hd⟩
  .
   refine⟨⟨o,I.jL p o hk,hc⟩,λa e=>?_⟩
   cases e;exact⟨o,I.jL _ o hk,hd⟩
  .
   have z:∃o,s.heap.get? p=some o/\o.ExactDict:=by
    rcases hk with ⟨eu,hk⟩ |⟨eu,hk⟩
    . obtain⟨_,_,_,_,o,_,_,e,ex,_⟩:=I.hok p _ hk;exact⟨o,e,ex⟩
    . obtain⟨_,_,_,_,o,_,_,e,ex,_⟩:=I.hok p _ hk;exact⟨o,e,ex⟩
   obtain⟨o,e,ex⟩:=z;refine⟨⟨o,e,ex.1⟩,λa e2=>?_⟩
   cases e2;exact⟨o,e,ex.2.1⟩
  .
   obtain⟨o,_,_,_,e,ex,_⟩:=I.hok p _ hk;refine⟨⟨o,e,ex.1⟩,λa e2=>?_⟩
   cases e2;exact⟨o,e,ex.2.1⟩
 |_=>exact False.elim ty
def tBM(K:Frag)(T:String)(r:V->List V->Hp->VK->Prop)(to:TE)(t:TA):TE:=λO H Q=>to O H λx H1=>ZZ K T x H1/\t O H1 λxs H2=>r x xs H2 Q
variable{o e:Expr}{es:List Expr}{to:TE}{t:TA}{name:Str}{d8 cC:Pos}{T id:String}{r:V->List V->Hp->VK->Prop}
theorem SQ(pa:PlainAttrs T)(slot:Slot T name id)(hty:typeOf (.builtin id)=pure (.type "method_descriptor"))(hm:ZX X id r)(ho:PE X o to)(ha:PA X (e::es) t)
  (hbase:attributeBase o name X.env (eval o X.env)=eval o X.env:=by rfl)
  (hfew:((backTo cC (starEach (e::es) X.env)).all (λx=>!x.1)&&(backToKw cC (keywordEach [] X.env)).all (λx=>x.1.isSome)
   && decide ((e::es).length+([]:List Keyword).length+(if ([]:List Keyword).isEmpty then 0 else 1)<30))=true:=by rfl)
  (hline:(d8.endLine==cC.line)=true:=by rfl) (hs:starEach (e::es) X.env=(false,eval e X.env)::starEach es X.env:=by rfl) (hplain:(backTo cC (starEach es X.env)).any (·.1)=false:=by rfl) :
  PE X (.Call (.Attribute o name d8) (e::es) [] cC) (tBM X.K T r to t):=by
 intro ah s O H Q I h;refine wpAny_Call_method_late hbase hfew hline rfl (bC (ho ah s O H _ I h) ?_);rintro v s1 ⟨x,H1,I1,r1,ty,q1⟩;obtain⟨h1,h2⟩:=LW I1 r1 ty;refine⟨T,id,pa,slot,hty,h1,h2,?_⟩;have hA:=ha cC ah s1 O H1 _ I1 q1;rw[hs]at hA ⊢
 refine Calls.callWith_builtin (by show (false||(backTo cC (starEach es X.env)).any (·.1))=false;rw[hplain] <;> rfl) (Calls.evalArgs_plain ?_)
 exact bC hA (by rintro us s2 ⟨vs,H2,I2,r2,q2⟩;exact hm ah s2 O H2 x vs v us Q I2 r1 r2 q2)
/- xs.append(e),list.index on a module's tuple .. are ZX facts of 06m -/
end
def MtM(X:Cx)(id:String)(r:V->List V->Hp->VK->Prop):Prop:=
 ∀(ah: ~~~1) (s:Shared) (O:St) (H:Hp) (x:V) (xs:List V) (v:Value) (us:List Value) (Q:VK),Inv X ah O H s->RelV x v->Vals xs us->r x xs H Q->
  wpAny (~~~2) X.A (call (.builtin id) (v::us)) (EP X ah O Q) X.xe s
theorem Vals.one:∀{x:V}{us:List Value},Vals [x] us->∃u,us=[u]/\RelV x u:=by intro x us h;cases h with |cons r t=>cases t;exact⟨_,rfl,r⟩
theorem Vals.rep(h:Vals xs us):∀k:Nat,Vals (List.replicate k xs).flatten (List.replicate k us).flatten
 | 0=>.nil
 |k+1=>by
  exact Vals.append h (Vals.rep h k)
theorem foldl_rep(aB:List Value):∀(k:Nat) (acc:List Value),
  List.foldl (λx1 x2=>x1++x2) acc.toArray (List.replicate k aB.toArray)=(acc++(List.replicate k aB).flatten).toArray
 | 0,acc=>by simp
 |k+1,acc=>by
  have e:acc.toArray++aB.toArray=(acc++aB).toArray:=by simp
  have e2:(acc++aB)++(List.replicate k aB).flatten=acc++(List.replicate (k+1) aB).flatten:=by rw[sT,List.flatten_cons,List.append_assoc]
  rw[<- e2,<- foldl_rep aB k (acc++aB),<- e,sT,List.foldl_cons]
section
variable{X:Cx}{ah: ~~~1}{O:St}{H:Hp}{s:Shared}{l b:Addr}{xs ys zs:List V}
theorem Inv.X4{aB its':List Value}{n:Nat}{f:Array Value->Array Value}{t':Nat}(I: ~~~7)(hH:H l=some (.lst xs))
  (e:s.heap.get? l=some { cls:=.type "list",data:=.seq aB.toArray n}) (hf:f aB.toArray=its'.toArray) (hv:Vals ys its') (hz:ys.length<=sizeLine) :
  Inv X ah O (upd H l (.lst ys)) { s with heap:=s.heap.update l (Obj.mapSeq f),toks:=t'}:=by
 have q:=PySem.IsL.update e f;rw[hf]at q;refine I.write (by rw[hH];exact trivial) (.inl rfl) (λb' u hb hu=>(fI s.heap (Obj.mapSeq f) (lS hb)).trans hu) ⟨_,q⟩ ?_
 exact⟨hz,its',_,hv,q⟩
theorem Inv.SX(I: ~~~7)(hv:Vals ys aB)(hz:ys.length<=sizeLine) :
  Inv X ah O (upd H s⁻¹ (.lst ys)) { s with heap:=s.heap.push { cls:=.type "list",data:=.seq aB.toArray},toks:=t'}:=
 I.laid (λ_ _ q=>a7 _ q) (eA _) ⟨hz,aB,0,hv,dC _ rfl⟩
theorem Inv.fresh(I: ~~~7):H s⁻¹=none:=I.hok.fresh (eA _)
theorem Inv.Em(I: ~~~7)(hH:H l=some (.lst xs)):xs.length<=sizeLine/\∃(aB:List Value) (n:Nat),Vals xs aB/\xs.length=aB.length/\s.heap.get? l=some { cls:=.type "list",data:=.seq aB.toArray n}:=by obtain⟨z,aB,n,r,e⟩:=I.hok l _ hH;exact⟨z,aB,n,r,r.length,e⟩
theorem yP(h:n<=sizeLine):Builtin.List.listTooLong n=false:=by exact pE ⋯
end
section
variable{X:Cx}
def En:V->List V->Hp->VK->Prop:=λx vs H Q=>∃l xs y,x=.ref l/\vs=[y]/\H l=some (.lst xs)/\xs.length<sizeLine/\Q .non (upd H l (.lst (xs++[y])))
theorem mX:MtM X "list.append" En:=by
 intro ah s O H x vs v us Q I rx rv h;obtain⟨l,xs,y,rfl,rfl,hH,hz,q⟩:=h;cases rx;obtain⟨u,rfl,ru⟩:=rv.one;obtain⟨z,aB,n,r,hl,e⟩:=I.Em hH;refine call_meets F.slot_list_append ⟨_,e,rfl⟩ F.entry_list_append (F.args_list_append_2 _ _) (PySem.list_append l aB.toArray n u (by rw[bP];lia)) ⟨e,?_⟩
 refine⟨.non,_,I.X4 hH e ⋯ (r.append (.cons ru .nil)) ?_,rfl,q⟩;rw[i4,y6];lia
def X5:R2:=λx y H Q=>∃l b xs zs,x=.ref l/\y=.ref b/\H l=some (.lst xs)/\H b=some (.lst zs)/\xs.length+zs.length<=sizeLine/\∀p,H p=none->Q (.ref p) (upd H p (.lst (xs++zs)))
theorem L0:jB X (binaryOp .Add) X5:=by
 intro ah s O H x y v u Q I rx ry h;obtain⟨l,b,xs,zs,rfl,rfl,hH,hB,hz,q⟩:=h;cases rx;cases ry;obtain⟨z,aB,n,r,hl,e⟩:=I.Em hH;obtain⟨z2,Dn,n2,r2,hl2,e2⟩:=I.Em hB;refine PySem.P.add_list e e2 ?_ (by rw[bP,bP];lia)
 have ea:aB.toArray++Dn.toArray=(aB++Dn).toArray:=by simp
 rw[ea];exact⟨.ref _,_,I.SX (r.append r2) (by rw[i4];lia),rfl,q _ I.fresh⟩
def X6:R2:=λx y H Q=>∃l k xs,x=.ref l/\y=.int k/\H l=some (.lst xs)/\-(2 ^ 63)<=k/\k<2 ^ 63/\xs.length * k.toNat<=sizeLine/\
 ∀p,H p=none->Q (.ref p) (upd H p (.lst (List.replicate k.toNat xs).flatten))
theorem len_rep{α:Type}(xs:List α)(k:Nat):(List.replicate k xs).flatten.length=k * xs.length:=by
 induction k with
 |zero=>simp
 |succ k ih=>rw[sT,List.flatten_cons,i4,ih,Nat.succ_mul,B0]
theorem L1:jB X (binaryOp .Mult) X6:=by
 intro ah s O H x y v u Q I rx ry h;obtain⟨l,k,xs,rfl,rfl,hH,h1,h2,hz,q⟩:=h;cases rx;obtain⟨t,rfl⟩:=ry;obtain⟨z,aB,n,r,hl,e⟩:=I.Em hH;have aQ:aB.toArray.size * k.toNat<=sizeLine:=by rw[bP,<- hl];exact hz
 have hcap : ¬ aB.toArray.size * k.toNat > (2 ^ 63 - 1) / 8:=by
  have:(sizeLine:Nat)<=(2 ^ 63 - 1) / 8:=by decide
  lia
 have hfit : ¬ (!Builtin.List.listFitsIndex k)=true:=by rw[fitsIndex_both h1 h2];exact oP
 have S0 : ¬ Builtin.List.listTooLong (aB.toArray.size * k.toNat)=true:=by rw[yP aQ];exact oP
 have hnew:List.foldl (λx1 x2=>x1++x2) #[] (List.replicate (if aB.toArray.isEmpty=true then 0 else k.toNat) aB.toArray)=(List.replicate k.toNat aB).flatten.toArray:=by
  have f0:∀m:Nat,List.foldl (λx1 x2=>x1++x2) #[] (List.replicate m aB.toArray)=(List.replicate m aB).flatten.toArray:=λm=>by
   have:=foldl_rep aB m [];exact this
  rw[f0];cases aB with
  |nil=>simp
  |cons a r'=>rw[i8 ⋯]
 refine wpAny_binaryOp_repeat_ref ⋯ ⟨_,e,rfl⟩ (λs'=>typeIs_int s' k t) noFill_list_mul F.fills_int_mul F.slot_int_rmul repeat_list F.slot_int_index.lookup
  (call_meets F.slot_int_rmul (typeIs_int s k t) F.entry_int_rmul (F.args_int_rmul_2 _ _) (int___rmul___int_list k t l aB.toArray n)
   ⟨e,rfl,⟨_,e,rfl⟩,call_meets F.slot_list_mul ⟨_,e,rfl⟩ F.entry_list_mul (F.args_list_mul_2 _ _) (AutoListH.list___mul___list_int_3 l aB.toArray n k t hfit hcap S0) ⟨e,?_⟩⟩)
 rw[hnew];exact⟨.ref _,_,I.SX (r.rep k.toNat) (by rw[len_rep,AY];exact hz),rfl,q _ I.fresh⟩
end
end L2
namespace Z0
open PySem PySem.W PySem.Calls PyProof.Rows
theorem jC:∀(ns: ~~~0) (vs:List Value),WellAll P h vs (ns.map WData.int)->IntsAre vs ns:=by
 intro ns
 induction ns with
 |nil=>intro vs w;cases w;exact .nil
 |cons n ns ih=>
  intro vs w;cases w with
  |cons a b=>cases a;exact .cons _ _ (ih _ b)
theorem vV{l:OpenLaw}{n:Nat}(hn:l.most=some n){P:Params}{h:Heap}{args:List WData}{vals:List Value}
  (hpre:l.row.toRowW.claim.pre args=true) (hwl:WellAll P h vals args) :
  ∃a vs ns,vals=[Value.ref a]/\args=[WData.list (ns.map WData.int)]/\h.get? a=some { cls:=.type "list",data:=.seq vs.toArray}/\IntsAre vs ns/\ns.length<=n:=by
 have hsh:=(pre_splitW hpre).1;have hc:l.pre.holds [] { args:=args}=true:=(pre_splitW hpre).2;obtain⟨d,r,rfl,h1,h2⟩:=hasAllW_cons hsh;obtain rfl:=hasAllW_nil h2;obtain⟨xs,rfl,h3⟩:=hasW_list h1;obtain⟨ns,rfl⟩:=items_int h3;have aQ:ns.length<=n:=by
  have h4:(WTm.not (.lt (.lit (.int (n:Int))) (.len (.arg 0)))).holds [] { args:=[.list (ns.map .int)]}=true:=by have h4:=(holds_andW hc).1;rw[hn]at h4;exact h4
  have h5:=condW_of h4 (w_not (w_lt w_lit (w_len_list (w_arg rfl))));refine Nat.le_of_not_lt λq=>?_
  first
   | (rw[nN q']at h5;exact absurd h5 ⋯)
   | (simp at h5;lia)
 cases hwl with
 |cons w1 w2=>
  cases w2;cases w1 with
  |list ho hall=>exact⟨_,_,ns,rfl,rfl,ho,jC ns _ hall,aQ⟩
theorem vW(l:OpenLaw)(args:List WData):l.row.toRowW.claim.post args (.bool true) args=true:=
 postW_of
  (show WShape.has [] (.bool true) .bool=true by first |rfl |decide |simp[WShape.arms])
  (show (WTm.eq .res (.lit (.bool true))).value [] { args:=args,res:=some (.bool true),after:=args}=some (.bool (true==true))from w_eq_bool (w_res rfl) w_lit) rfl
theorem qh{l:OpenLaw}{n:Nat}{q:Program}{loose:List Str}{XP:(Str->Option Value)->Heap->Prop}{YP:World->Heap->Prop}{d:DefRec}
  (hn:l.most=some n) (fS:d.params.defaults=[])
  (call:∀(w:World) (s₀ s₁:Shared) (mg mb:Str->Option Value) (fa:Addr) (o:Obj) (pm cd doc:Value) (a:Addr) (vs:List Value) (ns: ~~~0),
   Ground q loose [] XP w s₀ mg mb s₁.heap->YP w s₁.heap->
   s₁.heap.get? fa=some o->o.data=.func (docDef d.name d.params d.body d.scope pm cd doc)->s₁.heap.CodeRec cd d.name->mg d.name=some (.ref fa)->
   s₁.heap.get? a=some { cls:=.type "list",data:=.seq vs.toArray}->IntsAre vs ns->ns.length<=n->s₁.gens = #[]->
   codeAny (model l.prog w) callerA (.call (.ref fa) ⟨[.ref a],[]⟩) (λr s'=>r=.ok (.ret (.bool true))/\OldK s₁.heap s'.heap/\s'.os=s₁.os/\AllBare s'.gens) s₁) :
  WalkO q loose XP YP l.row.toRowW d [] (λf vs=>PySem.call f vs):=by
 intro w s₀ s₁ mg mb G qqz fa o pm cd doc dV kV ho hd cB hD hmg hg args vals as hpre hlay hrd hwl hlo;obtain rfl:dV=.none:=Dflts.none hD fS;obtain rfl:kV=.none:=Dflts.noKw hD;obtain⟨a,vs,ns,rfl,rfl,hobj,hints,aQ⟩:=vV hn hpre hwl;refine enter_call (y0 (call w s₀ s₁ mg mb fa o pm cd doc a vs ns G qqz ho (fd_plain hd) cB hmg hobj hints aQ hg) λr s' hq=>?_)
 obtain⟨rfl,h2,h3,h4⟩:=hq;exact⟨.inl ⟨.bool true,.bool true,[],rfl,λ_=>rfl,.bool true,vW l _,λ_=>⟨List.Pairwise.nil,λ_ hm=>(nomatch hm)⟩⟩,h2,h3,h4⟩
end Z0
namespace L2
theorem mY:∀{vs:List Value}{ns: ~~~0},IntsAre vs ns->Vals (ns.map V.int) vs:=by
 intro vs ns h
 induction h with
 |nil=>exact .nil
 |cons n t h ih=>exact .cons ⟨t,rfl⟩ ih
abbrev KOf{K:Frag}{h:Heap}(_:K.In h):Frag:=K
abbrev sH:vU:=λ_ _ _ _ _ _=>False
abbrev E0:XK:=λ_ _ _=>False
theorem Kf:Passes sH X E0:=λ_ _ _ _ _ _ _ h=>h.elim
structure Eo(K:Frag)(x qual:Str)(st:Stmt)(f:Addr)(fd:FuncData):Prop where
 ex:∃(oc:Value) (od:Option Addr) (kV doc pm:Value) (an:Option Addr) (bh ct:Value) (osl:Array (Option Value)),
  fd=PySem.W.fnOf x qual (fT st) (aU st) (aD st) .none kV doc pm an bh ct/\K.lookup f=some ⟨oc,od,.func fd,osl⟩/\PySem.W.codeIn K bh qual=true
 kp:PySem.W.keepIn K (.ref f)=true
section
variable{P:Program}{w:World}{K:Frag}{mg:Str->Option Value}{base:Heap}
theorem L5{x qual:Str}{st:Stmt}{f:Addr}{oc:Value}{od an:Option Addr}{osl:Array (Option Value)}{kV doc pm bh ct:Value}(l:K.lookup f=some ⟨oc,od,.func (PySem.W.fnOf x qual (fT st) (aU st) (aD st) .none kV doc pm an bh ct),osl⟩)
  (c:PySem.W.codeIn K bh qual=true) (k:PySem.W.keepIn K (.ref f)=true):Eo K x qual st f (PySem.W.fnOf x qual (fT st) (aU st) (aD st) .none kV doc pm an bh ct):=⟨⟨oc,od,kV,doc,pm,an,bh,ct,osl,rfl,l,c⟩,k⟩
end
theorem oA{A B:Prop}(h:B):if false=true then A else B:=by exact h
theorem jD{A B:Prop}(h:A):if true=true then A else B:=by exact h
noncomputable def Cx.block(X:Cx)(N:List Str)(scope:Scope)(cl:List (Str×Addr))(C:Addr)(s₀:Shared)(H₀:Hp)(fp:List Addr):Cx:=
 { X with N:=N,s₀:=s₀,H₀:=H₀,env:=compEnvC scope cl C X.env,outer:=X.stack,ex:=fp,fn:=λx=>scope.names.lookup x==some .local,pn:=[],xe:=λ_ _=>False}
structure Bk where
 cl:List (Str×Addr)
 C:Addr
 s₀:Shared
 H₀:Hp
 fp:List Addr
abbrev Cx.blk (X:Cx) (N:List Str) (scope:Scope) (b:Bk):Cx:=X.block N scope b.cl b.C b.s₀ b.H₀ b.fp
structure bR(sc scope:Scope):Prop where
 kind:scope.kind=.function
 oB:∀y∈scope.names,y.2≠.cell
 uniq:∀y∈scope.names,y.2=.local->scope.names.lookup y.1=some .local
 S8:∀y∈scope.names,y.2=.free->scope.names.lookup y.1=some .free
 free:∀y∈scope.names,y.2=.free->sc.names.lookup y.1=some .cell\/sc.names.lookup y.1=some .free
theorem mem_of_lookup{α:Type}{x:Str}{v:α}:∀{l:List (Str×α)},l.lookup x=some v->(x,v)∈l
 | [],h=>by simp at h
 | (n,k)::r,h=>by
  cases hx:x==n with
  |true=>
   simp only[mP,hx]at h;symm;have e:x=n:=by simpa using hx
   subst e;exact dA
  |false=>simp only[mP,hx]at h;exact a8 _ (mem_of_lookup h)
theorem fF{env:Env}{x:Str}:∀{names:List (Str×NameKind)},
  (names.map λ(n,k)=>if (k==NameKind.free&&env.scope.kind==.function&&env.kindOf n==some .cell)then (n,NameKind.cell)else (n,k)).lookup x
   = (names.lookup x).map λk=>if (k==NameKind.free&&env.scope.kind==.function&&env.kindOf x==some .cell)then NameKind.cell else k
 | []=>rfl
 | (n,k)::r=>by
  have ih:=@fF env x r;show List.lookup x ((if (k==NameKind.free&&env.scope.kind==.function&&env.kindOf n==some .cell)=true then (n,NameKind.cell)else (n,k))::_)=_
  cases hx:x==n with
  |true=>
   have e:x=n:=by simpa using hx
   subst e;by_cases hc:(k==NameKind.free&&env.scope.kind==.function&&env.kindOf x==some .cell)=true
   . rw[lL hc];simp only[mP,hx,BN,lL hc]
   . rw[i8 hc];simp only[mP,hx,BN,i8 hc]
  |false=>
   by_cases hc:(k==NameKind.free&&env.scope.kind==.function&&env.kindOf n==some .cell)=true
   . rw[lL hc];simp only[mP,hx];exact ih
   . rw[i8 hc];simp only[mP,hx];exact ih
theorem j6(h:∀y∈scope.names,y.2=.free->∃c,env.cells.lookup y.1=some c) :
  ∃cl,closureFor scope env=pure cl/\(∀x c,cl.lookup x=some c->env.cells.lookup x=some c/\(x,NameKind.free)∈scope.names)/\∀y∈scope.names,y.2=.free->∃c,cl.lookup y.1=some c:=by
 have key:∀(names:List (Str×NameKind)) (acc:List (Str×Addr)),(∀y∈names,y.2=.free->∃c,env.cells.lookup y.1=some c)->
   ∃cl,(forIn names acc λx (cs:List (Str×Addr))=>(match x with | (name,kind)=>if (kind==.free)=true then (do let c <- cellOf env name;pure (ForInStep.yield ((name,c)::cs)))else pure (ForInStep.yield cs):Sem (ForInStep (List (Str×Addr)))))=pure cl/\
    (∀x c,cl.lookup x=some c->acc.lookup x=some c\/(env.cells.lookup x=some c/\(x,NameKind.free)∈names))/\(∀y∈names,y.2=.free->∃c,cl.lookup y.1=some c)/\∀x c,acc.lookup x=some c->∃c',cl.lookup x=some c':=by
  intro names
  induction names with
  |nil=>intro acc _;exact⟨acc,rfl,λx c e=>.inl e,(λy hy=>nomatch hy),λx c e=>⟨c,e⟩⟩
  |cons y r ih=>
   intro acc hf;obtain⟨n,k⟩:=y;rw[List.forIn_cons];by_cases hk:(k==NameKind.free)=true
   .
    obtain⟨c,hc⟩:=hf (n,k) dA (by simpa using hk)
    have hc':=hc;obtain⟨cl,e,h1,h2,h3⟩:=ih ((n,c)::acc) λy hy=>hf y (a8 _ hy)
    refine⟨cl,?_,λx c' q=>?_,λy hy WD=>?_,λx c' q=>?_⟩
    .
     have ec:cellOf env n=pure c:=by unfold cellOf;rw[hc']
     show ((if (k==NameKind.free)=true then (do let c <- cellOf env n;pure (ForInStep.yield ((n,c)::acc)))else pure (ForInStep.yield acc)) >>= _)=_
     rw[lL hk,ec];exact e
    .
     rcases h1 x c' q with z |⟨z1,z2⟩
     .
      cases hx:x==n with
      |true=>
       simp only[mP,hx]at z;cases z;have e:x=n:=by simpa using hx
       subst e;have ek:k=NameKind.free:=by simpa using hk
       subst ek;exact .inr ⟨hc',dA⟩
      |false=>simp only[mP,hx]at z;exact .inl z
     . exact .inr ⟨z1,a8 _ z2⟩
    .
     rcases b0.mp hy with rfl |hy
     . exact h3 n c ⋯
     . exact h2 y hy WD
    .
     cases hx:x==n with
     |true=>
      have e:x=n:=by simpa using hx
      subst e;exact h3 x c ⋯
     |false=>exact h3 x c' (by simp only[mP,hx];exact q)
   .
    obtain⟨cl,e,h1,h2,h3⟩:=ih acc λy hy=>hf y (a8 _ hy)
    refine⟨cl,?_,λx c' q=>?_,λy hy WD=>?_,h3⟩
    .
     show ((if (k==NameKind.free)=true then (do let c <- cellOf env n;pure (ForInStep.yield ((n,c)::acc)))else pure (ForInStep.yield acc)) >>= _)=_
     rw[i8 hk];exact e
    .
     rcases h1 x c' q with z |⟨z1,z2⟩
     . exact .inl z
     . exact .inr ⟨z1,a8 _ z2⟩
    .
     rcases b0.mp hy with rfl |hy
     . exact absurd WD (by simpa using hk)
     . exact h2 y hy WD
 obtain⟨cl,e,h1,h2,_⟩:=key scope.names [] h;refine⟨cl,?_,λx c q=>?_,h2⟩
 . exact (congrArg (λm=>m >>= λcs=>pure cs) e:_)
 .
  rcases h1 x c q with z |z
  . simp at z
  . exact z
def qi(X:Cx)(ifs:List Expr)(t:TT):Prop:=
 ∀(ah: ~~~1) (s:Shared) (O:St) (H:Hp) (Q:Bool->Hp->Prop),Inv X ah O H s->t O H Q->
  wpAny (~~~2) X.A (forIn ifs true λc r=>if r=true then do let ok <- isTrue c X.env (eval c X.env);pure (ForInStep.yield ok)else pure (ForInStep.yield r)) (TP X ah O Q) X.xe s
def S9:TT:=λ_ H Q=>Q true H
theorem yQ:qi X [] S9:=λ_ _ _ H _ I h=>wpAny_tests_nil ⟨H,I,h⟩
theorem yR(h:PT X c t):qi X [c] t:=λah s O H Q I hw=>wpAny_tests_one (h ah s O H Q I hw)
noncomputable def sJ(e target iter:Expr)(ifs:List Expr)(d:Nat)(it acc:Value)(env:Env)(em:Sem Unit):Sem Fin:=do
 standAt iter.pos
 match <- pyNext it with
 |none=>pure (.done .next)
 |some v=>
  letOwnedTupleGo target it v
  assign target env v
  let mut ok:=true
  for c in ifs do
   if ok then ok <- isTrue c env (eval c env)
  if ok then em
  again (.compLoop e d it acc env)
def Cu(ce:Expr):Prop:=∀(prog:Program) (w:World) (A:Around) (d:Nat) (it acc:Value) (env:Env),A.under (.compLoop ce d it acc env)=A/\(model prog w).den (.compLoop ce d it acc env)=(compTurn ce d it acc env).onRaise (λx=>do noteFrame x env;theTreesLotGoes x)
theorem oE(hu:Cu ce)(ht:compTurn ce d it acc env=sJ ce target iter ifs d it acc env em)(I:Nat->Shared->Prop)
  (turn:∀n s,I n s->wpAny (model prog w) A (pyNext it) (λr s₁=>match r with
   |none=>R (.ok .next) s₁
   |some v=>wpAny (model prog w) A (letOwnedTupleGo target it v) (λ_ s₁'=>wpAny (model prog w) A (assign target env v) (λ_ s₂=>
     wpAny (model prog w) A (forIn ifs true λc r=>if r=true then do let ok <- isTrue c env (eval c env);pure (ForInStep.yield ok)else pure (ForInStep.yield r)) (λok s₃=>
      if ok=true then wpAny (model prog w) A em (λ_ s₅=>∃m,m<n/\I m s₅) (λ_ _=>False) s₃
      else ∃m,m<n/\I m s₃) (λ_ _=>False) s₂) (λ_ _=>False) s₁') (λ_ _=>False) s₁) (λ_ _=>False) s)
  (n:Nat) (h:I n s) :
  codeAny (model prog w) A (.compLoop ce d it acc env) R s:=by
 refine codeAny_loop rfl I (λn s hI=>?_) n h
 rw[(hu prog w A d it acc env).1,(hu prog w A d it acc env).2];refine wpAny_noted ?_;rw[ht];refine aS (BD (aS (hZ (turn n s hI) (λr s₁ h₁=>?_) λ_ _ h'=>h'.elim)))
 cases r with
 |none=>exact dS h₁
 |some v=>
  refine aS (hZ h₁ (λ_ s₁' h₁'=>?_) λ_ _ h'=>h'.elim)
  refine aS (hZ h₁' (λ_ s₂ h₂=>aS (hZ h₂ (λok s₃ h₃=>?_) λ_ _ h'=>h'.elim)) λ_ _ h'=>h'.elim)
  cases ok with
  |false=>exact dS ⟨rfl,h₃⟩
  |true=>exact aS (hZ h₃ (λ_ s₅ h₅=>dS ⟨rfl,h₅⟩) λ_ _ h'=>h'.elim)
abbrev TU:=St->Hp->(St->Hp->Prop)->Prop
def PU(X:Cx)(m:Sem Unit)(t:TU):Prop:=
 ∀(ah: ~~~1) (s:Shared) (O:St) (H:Hp) (Q:St->Hp->Prop),Inv X ah O H s->t O H Q->wpAny (~~~2) X.A m (λ_ s'=>∃σ' H',Inv X ah σ' H' s'/\Q σ' H') (λ_ _=>False) s
def Ep(D:Addr)(te:TE):TU:=λO H Q=>te O H λv H5=>∃ys,H5 D=some (.lst ys)/\ys.length<sizeLine/\Q O (upd H5 D (.lst (ys++[v])))
theorem yS(he:PE X jV te)(hx:X.xe=λ_ _=>False):PU X (do let _ <- call (.builtin "list.append") [.ref D,<- eval jV X.env]) (Ep D te):=by
 intro ah s O H Q I h;have he:=he ah s O H _ I h;rw[hx]at he;refine aS (hZ he (?_) λ_ _ z=>z)
 rintro y s8 ⟨v,H8,I8,r8,ys,hD8,hz8,q8⟩;have ma:=mX ah s8 O H8 (.ref D) [v] (.ref D) [y] (λ_ H9=>Q O H9) I8 rfl (.cons r8 .nil) ⟨_,ys,v,rfl,rfl,hD8,hz8,q8⟩
 rw[hx]at ma;exact aS (hZ ma (by rintro _ s9 ⟨_,H9,I9,_,q9⟩;exact dS ⟨O,H9,I9,q9⟩) λ_ _ z=>z)
noncomputable def σC(k:Nat)(D:Addr)(O:St):St:=O++(List.replicate k none++[some (.ref D)])
def X7(X:Cx)(O:St)(b:Bk):Prop:=∃ah,Inv X ah O b.H₀ b.s₀/\∀a∈b.fp,je X ah b.H₀ a
def Er(u0:HO)(X:Cx)(k:Nat)(g:Bk->TG)(tt:Bk->TT)(te:Addr->Bk->TU)(J:It)(D:Addr)(O:St)(H1:Hp)(Q:VK):Prop:=
 ∃W:Nat->Nat->St->Hp->Prop,(∃m,W 0 m (σC k D O) (upd H1 D u0))/\∀i m σ' H',W i m σ' H'->
  (J.stop i H'/\Q (.ref D) H')\/(J.go i H'/\∃Nn:St->Hp->Prop,(∀X8 Yb,Nn X8 Yb->∃m',m'<m/\W (i+1) m' X8 Yb)/\∀x H2,J.Wv i H' x H2->∀bk:Bk,X7 X O bk->g bk x σ' H2 λσ2 H3=>tt bk σ2 H3 λb H4=>
   if b=true then te D bk σ2 H4 Nn else Nn σ2 H4)
noncomputable def yT(u0:HO)(X:Cx)(k:Nat)(wi:TI)(g:Bk->TG)(tt:Bk->TT)(te:Addr->Bk->TU):TE:=λO H Q=>wi O H λJ H1=>∀D,H1 D=none->Er u0 X k g tt te J D O H1 Q
abbrev yU:=yT (.lst [])
structure Ck(X:Cx)(ce tg iter:Expr)(ifs:List Expr)(rest:List Comprehension)(new:Sem Value)(u0:HO)(em:Value->Env->Sem Unit):Prop where
 cls:clausesOf ce=⟨tg,iter,ifs,0⟩::rest
 Z1:Cu ce
 turn:∀it D env,compTurn ce 0 it (.ref D) env=sJ ce tg iter ifs 0 it (.ref D) env (em (.ref D) env)
 new:∃o0:Obj,o0.isFreed=false/\(∀{A:Around}{E Q:Value->Shared->Prop}{s:Shared},Q (.ref s⁻¹) { s with heap:=s.heap.push o0}->wpAny (~~~2) A new Q E s)/\
  ∀(H:Hp) (h:Heap) (a:Addr),h.get? a=some o0->(a==sysModules)=false->cg X.prog X.w H h a u0
 start:∀{A:Around}{R:Result->Shared->Prop}{s:Shared}{it acc:Value}{env:Env},codeAny (~~~2) A (.compLoop ce 0 it acc env) R s->
  wpAny (~~~2) A (pyIter it) (λit' s'=>codeAny (~~~2) A (.compLoop ce 0 it' acc env) R s') (notedBy (~~~2) A env λx s'=>R (.error x) s') s->codeAny (~~~2) A (.compStart ce 0 it acc env) R s
theorem uG{X:Cx}{jV tg iter:Expr}{ifs:List Expr}{rest:List Comprehension}{scope:Scope}{pos:Pos}{em:Value->Env->Sem Unit}(h:∀it acc env,compTurn (.ListComp jV (⟨tg,iter,ifs,0⟩::rest) scope pos) 0 it acc env=sJ (.ListComp jV (⟨tg,iter,ifs,0⟩::rest) scope pos) tg iter ifs 0 it acc env (em acc env)) :
  Ck X (.ListComp jV (⟨tg,iter,ifs,0⟩::rest) scope pos) tg iter ifs rest (newList []) (.lst []) em where
 cls:=rfl
 Z1:=λ_ _ _ _ _ _ _=>⟨rfl,rfl⟩
 turn:=λit D env=>h it (.ref D) env
 new:=⟨_,rfl,λh=>o6 h,λ_ _ _ e _=>⟨Nat.zero_le _,[],_,.nil,e⟩⟩
 start:=codeAny_compStart_list
structure Names(N N':List Str)(scope:Scope)(k:Nat):Prop where
 len:N'.length=N.length+(k+1)
 last:∀x,N'[N.length+k]?=some x->scope.names.lookup x=none
 old:∀i x,N'[i]?=some x->i<N.length->scope.names.lookup x=none\/(N[i]?=some x/\scope.names.lookup x≠some .local)
theorem cL:(relabel scope env).names.lookup x=(scope.names.lookup x).map λk=>if (k==NameKind.free&&env.scope.kind==.function&&env.kindOf x==some .cell)then NameKind.cell else k:=fF
section
variable{X:Cx}
theorem j7(B:bR X.env.scope scope)(h:(compEnvC scope cl C X.env).kindOf x=some .cell\/(compEnvC scope cl C X.env).kindOf x=some .free) :
  (x,NameKind.free)∈scope.names:=by
 have e:(compEnvC scope cl C X.env).kindOf x=(scope.names.lookup x).map λk=>if (k==NameKind.free&&X.env.scope.kind==.function&&X.env.kindOf x==some .cell)then NameKind.cell else k:=cL
 rw[e]at h;cases q:scope.names.lookup x with
 |none=>rw[q]at h;rcases h with h |h <;> symm
 |some k=>
  have hm:=mem_of_lookup q;cases k with
  |free=>exact hm
  |cell=>exact absurd rfl (B.oB _ hm)
  |_=>rw[q]at h;rcases h with h |h <;> (simp at h)
theorem yV(B:bR X.env.scope scope)(I: ~~~7)(hC:s⁻¹<=C)
  (hf:∀b∈fp,je X ah H b) (hfs:∀b∈fp,b<s⁻¹)
  (hcl:∀x c,cl.lookup x=some c->X.env.cells.lookup x=some c/\(x,NameKind.free)∈scope.names) (Es:∀y∈scope.names,y.2=.free->∃c,cl.lookup y.1=some c):(X.block N' scope cl C s H fp).Ok where
 mod:=I.ok.mod
 kind:=B.kind
 glob:=I.ok.glob
 blt:=I.ok.blt
 above:=hC
 inj:=λx y c h1 h2=>I.ok.inj x y c (hcl x c h1).1 (hcl y c h2).1
 has:=λx h=>Es _ (j7 B h) rfl
 K1:=λx c h1 h2=>by
  have e:scope.names.lookup x=some .local:=by have:(scope.names.lookup x==some NameKind.local)=true:=h1;simpa using this
  have h3:=(hcl x c h2).2;have q:=B.S8 _ h3 rfl;rw[e]at q;cases q
 hd:=I.ok.hd
 frames:=I.ok.frames
 stk:=.inl rfl
 Q6:=λb hb=>⟨fN (eJ (hfs b hb) hC),λx c e=>(hf b hb).2.2.2.2.1 x c (hcl x c e).1⟩
 bs:=I.bs
 yw:=eM I.ok.yw I.sz
 p7:=λb o e hb=>by
  obtain⟨_,_,_,h3,_⟩:=hf b hb;rcases h3 with h3 |h3
  . exact I.ok.p7 b o e h3
  . exact absurd (eJ (dL e) (eM I.ok.yw h3)) (nS _)
 r9:=λb hb hm=>by
  rcases b0.mp (I.se b hm)with e |e
  . exact (hf b hb).2.1 e
  . exact (hf b hb).2.2.1 e
 iB:=I.stack
 DR:=I.nZ
theorem mZ{ah: ~~~1}{O:St}{H:Hp}{s:Shared}{N':List Str}{k:Nat}{wi:TI}{g:Bk->TG}{tt:Bk->TT}{tu:Addr->Bk->TU}{ce:Expr}{rest:List Comprehension}{new:Sem Value}{u0:HO}{cp:Pos}{em:Value->Env->Sem Unit}{use:Option (Value->Sem Unit)}{Q:Value->Shared->Prop}{Q0:VK}
  (B:bR X.env.scope scope) (hc:X.calm=true) (hN:Names X.N N' scope k) (hi:PI X tg iter wi) (ck:Ck X ce tg iter ifs rest new u0 em)
  (hin:∀(b:Bk) (D:Addr),PG (X.blk N' scope b) tg (g b)/\qi (X.blk N' scope b) ifs (tt b)/\PU (X.blk N' scope b) (em (.ref D) (X.blk N' scope b).env) (tu D b))
  (hs:∀x,foldedSetIterable iter X.env x=pure x) (I: ~~~7) (h:yT u0 X k wi g tt tu O H Q0)
  (fin:∀s' H' D C m,Inv X ah O H' s'->je X ah H' C->s'.heap.Ns C m->Q0 (.ref D) H'->compPost (~~~2) X.A X.xe use Q (.ref D) C (.ok .next) s') :
  wpAny (~~~2) X.A (comprehension ce scope X.env cp new false (eval iter X.env) use) Q X.xe s:=by
 obtain⟨cl,hclos,hcl,Es⟩:=j6 λy hy hf=>I.ok.has y.1 (B.free y hy hf)
 refine wpAny_comprehension_free ck.cls hs hclos B.kind B.uniq (bC (hi ah s O H _ I h) λxv s₁ h₁=>bC h₁ λitv s₂ h₂=>?_)
 obtain⟨it,fp,tn,J,H2,rfl,I2,T,aJ,f2,hW⟩:=h₂;obtain⟨o0,fr0,Yc,ok0⟩:=ck.new;refine Yc (wpAny_newFunctionEnv B.oB (by intro y hy;simp at hy) (λh₁ Tc L7=>?_) B.kind)
 generalize Yd:s₂.heap.push o0=P2 at Tc L7 ⊢
 have hC:P2.objs.size=s₂⁻¹+1:=by rw[<- Yd,l9]
 have hDC:s₂⁻¹≠P2.objs.size:=by rw[hC];exact fN (xL _)
 have L8:s₂⁻¹<=P2.objs.size:=by rw[hC];exact AE _
 have old:∀b o,s₂.heap.get? b=some o->h₁.get? b=some o:=λb o e=>L7.extBut b o (fN (by rw[hC];exact Nat.lt_succ_of_lt (dL e))) (a7 _ (Yd▸a7 _ e))
 have Z2:=I2.hok.fresh (eA _);have hC0:=I2.hok.fresh L8;have Ye:(s₂⁻¹==sysModules)=false:=by
  have h1:=(I2.ok.mod.glob.keeps I2.bk).lt;refine Bool.eq_false_iff.mpr λq=>?_
  have q:=eq_of_beq q;rw[q]at h1;exact absurd h1 ⋯
 have Z3:∀b∈fp,b<s₂⁻¹:=λb hb=>by
  obtain⟨o,e,_⟩:=T.obj _ _ aJ b hb;exact dL e
 have ok':=yV (N':=N') B I2 L8 f2 Z3 hcl Es;obtain⟨W,⟨m0,w0⟩,turn⟩:=hW s₂⁻¹ Z2;have Yg:∀b∈fp,b∉frs X.stack:=λb hb=>ok'.r9 b hb
 obtain⟨hg,ht,he⟩:=hin ⟨cl,P2.objs.size,s₂,H2,fp⟩ s₂⁻¹;have I0:Inv (X.block N' scope cl P2.objs.size s₂ H2 fp) [] (σC k s₂⁻¹ O) (upd H2 s₂⁻¹ u0) { s₂ with heap:=h₁,toks:=s₂.toks+([]:List (Str×Value)).length}:=by
  refine⟨ok',rfl,I2.bare,Un.laid old (eA _) Z2,⟨_,Tc,λi x v e1 e2 e3=>?_⟩,λx c e=>?_,?_,λx c e=>?_,λp hp=>?_,I2.hok.laid old (eA _) ?_,?_⟩
  .
   have Td:(compEnvC scope cl P2.objs.size X.env).kindOf x=some .local\/(compEnvC scope cl P2.objs.size X.env).kindOf x=some .cell\/(compEnvC scope cl P2.objs.size X.env).kindOf x=some .free:=e3;have ek:(compEnvC scope cl P2.objs.size X.env).kindOf x=(scope.names.lookup x).map λk=>if (k==NameKind.free&&X.env.scope.kind==.function&&X.env.kindOf x==some .cell)then NameKind.cell else k:=cL
   have RN:i<O.length:=by
    rcases pV i O.length with z |z
    . exact z
    .
     exfalso;unfold σC at e2;rw[dE z]at e2;rcases pV (i - O.length) k with z2 |z2
     .
      rw[d5 (by rw[i7];exact z2)]at e2
      have:=fA e2;rw[t9]at this;exact absurd this.2 ⋯
     .
      rw[dE (by rw[i7];exact z2),i7]at e2
      have z3:i - O.length - k=0:=by
       rcases Nat.eq_zero_or_pos (i - O.length - k)with q |q
       . exact q
       . rw[y7 (Nat.succ_le_of_lt q)]at e2;cases e2
      have z4:i=X.N.length+k:=by rw[<- I2.len];lia
      have hn:=hN.last x (by rw[<- z4];exact e1)
      rw[ek,hn]at Td;rcases Td with q |q |q <;> cases q
   have Yh:O[i]?=some (some v):=by unfold σC at e2;rw[d5 RN]at e2;exact e2
   have hiN:i<X.N.length:=by rw[<- I2.len];exact RN
   rcases hN.old i x e1 hiN with z |⟨z,z2⟩
   . rw[ek,z]at Td;rcases Td with q |q |q <;> cases q
   .
    have hfree:(compEnvC scope cl P2.objs.size X.env).kindOf x=some .cell\/(compEnvC scope cl P2.objs.size X.env).kindOf x=some .free:=by
     rcases Td with q |q
     .
      exfalso;rw[ek]at q;cases hq:scope.names.lookup x with
      |none=>rw[hq]at q;cases q
      |some kk=>
       rw[hq]at q;cases kk with
       | «local»=>exact z2 hq
       |free=>simp only[BN]at q;split at q <;> cases q
       |_=>simp at q
     . exact q
    have hm:=j7 B hfree;obtain⟨c,hc1⟩:=Es _ hm rfl;have Te:=hc1;have hc2:=(hcl x c Te).1;obtain⟨m2,hn2,hl2⟩:=I2.loc;have Yi:rZ X.env.scope x:=(B.free _ hm rfl).elim (λa=>.inr (.inl a)) λa=>.inr (.inr a)
    obtain⟨u,ru,lk⟩:=hl2 i x v z Yh Yi;refine⟨u,ru,.inr ⟨hfree,c,Te,?_⟩⟩;rcases lk with ⟨q1,_⟩ |⟨_,c',q1,q2⟩
    .
     exfalso;have Tf:X.env.scope.names.lookup x=some .local:=q1;rcases B.free _ hm rfl with y |y
     . have y':=y;rw[Tf]at y';cases y'
     . have y':=y;rw[Tf]at y';cases y'
    . rw[hc2]at q1;cases q1;obtain⟨o,ho,hd⟩:=q2;exact⟨o,old _ _ ho,hd⟩
  . obtain⟨v,o,ho,hd⟩:=I2.cell x c (hcl x c e).1;exact⟨v,o,old _ _ ho,hd⟩
  . show upd H2 s₂⁻¹ u0 P2.objs.size=none;rw[au (lS hDC)];exact hC0
  . have q:=I2.cG x c (hcl x c e).1;obtain⟨v,z⟩:=I2.cell x c (hcl x c e).1;rw[au (fN z.lt)];exact q
  . exact absurd (show p∈([]: ~~~1)from hp) ⋯
  . exact ok0 _ _ _ (L7.extBut _ _ hDC (a7 _ (Yd▸dC _ fr0))) Ye
  . show (σC k s₂⁻¹ O).length=N'.length;unfold σC;rw[i4,i4,i7,hN.len,I2.len];rfl
 have stat:∀{H':Hp},(∀b∈fp,H' b=none)->∀b∈fp,je (X.block N' scope cl P2.objs.size s₂ H2 fp) [] H' b:=λhn b hb=>
  ⟨hn b hb,(ok'.Q6 b hb).1,Yg b hb,.inl hb,λx c e=>(ok'.Q6 b hb).2 x c e,λp hp=>absurd (show p∈([]: ~~~1)from hp) ⋯⟩
 have loop:∀s₃:Shared,s₃={ s₂ with heap:=h₁,toks:=s₂.toks+([]:List (Str×Value)).length}->
   codeAny (~~~2) X.A (.compLoop ce 0 (.ref it) (.ref s₂⁻¹) (compEnvC scope cl P2.objs.size X.env))
    (compPost (~~~2) X.A X.xe use Q (.ref s₂⁻¹) P2.objs.size) s₃:=by
  rintro s₃ rfl;refine oE ck.Z1 (ck.turn _ _ _) (λn s'=>∃i σ' H',Inv (X.block N' scope cl P2.objs.size s₂ H2 fp) [] σ' H' s'/\tn i s'.heap/\(∀b∈fp,H' b=none)/\W i n σ' H') ?_ m0
   ⟨0,_,_,I0,T.keep _ _ _ aJ λb hb o e=>old b o e,λb hb=>?_,w0⟩
  .
   rintro n s3 ⟨i,σ3,H3,I3,fC,R9,w3⟩;rcases turn i n σ3 H3 w3 with ⟨stop,qn⟩ |⟨go,Nn,hNn,step⟩
   .
    refine bC (T.done (X.block N' scope cl P2.objs.size s₂ H2 fp) rfl rfl rfl hc i [] s3 σ3 H3 (λ_ _=>False) I3 (stat R9) fC stop) λr s4 ⟨hr,I4⟩=>?_
    subst hr;obtain⟨m,hm,_⟩:=id I4.loc;have I5:=I2.call' I4.os I4.base I4.hok I4.bare λb hb=>⟨(f2 b hb).2.2.2.1,(f2 b hb).2.1,(f2 b hb).2.2.2.2.1,(f2 b hb).2.2.2.2.2⟩
    exact fin s4 H3 _ _ m I5 (I2.n8 L8 I4.free) hm qn
   .
    refine bC (T.item (X.block N' scope cl P2.objs.size s₂ H2 fp) rfl rfl rfl hc i [] s3 σ3 H3 (λ_ _=>False) I3 (stat R9) fC go) λr s4 ⟨u,hr,h4⟩=>?_
    subst hr;refine bC h4 ?_;rintro _ s5 ⟨x,H5,I5,r5,y5,vP,XC⟩;have XD:=I5.pinned (stat XC) (T.obj _ _ vP);have again:∀{σ7:St}{H7:Hp}{s7:Shared},Inv (X.block N' scope cl P2.objs.size s₂ H2 fp) ([]++jZ fp s5.heap) σ7 H7 s7->Nn σ7 H7->∃m,m<n/\∃i σ' H',Inv (X.block N' scope cl P2.objs.size s₂ H2 fp) [] σ' H' s7/\tn i s7.heap/\(∀b∈fp,H' b=none)/\W i m σ' H':=λ{σ7 H7 s7} I7 n7=>by
     obtain⟨m',hm,w7⟩:=hNn σ7 H7 n7;refine⟨m',hm,i+1,σ7,H7,I7.iC,T.keep _ _ _ vP λb hb o e=>(I7.pin (b,o) (hU _ (hU _ (eG hb e)))).1,λb hb=>?_,w7⟩
     obtain⟨o,e,d⟩:=T.obj _ _ vP b hb;exact (I7.pin (b,o) (hU _ (hU _ (eG hb e)))).2.1
    refine bC (hg _ s5 σ3 H5 x u _ XD r5 (step x H5 y5 ⟨cl,P2.objs.size,s₂,H2,fp⟩ ⟨ah,I2,f2⟩)) ?_;rintro _ s6 ⟨σ6,H6,I6,q6⟩;refine bC (ht _ s6 σ6 H6 _ I6 q6) ?_;rintro b s7 ⟨H7,I7,q7⟩;cases b with
    |false=>exact again I7 q7
    |true=>exact hZ (he _ s7 σ6 H7 _ I7 q7) (by rintro _ s9 ⟨σ9,H9,I9,q9⟩;exact again I9 q9) λ_ _ z=>z
  . show upd H2 s₂⁻¹ u0 b=none;rw[au (fN (Z3 b hb))];exact (f2 b hb).1
 refine ck.start (loop _ rfl) (T.self _ 0 _ _ _ ?_ (loop _ rfl));exact T.keep _ _ _ aJ λb hb o e=>old b o e
theorem Et{N':List Str}{k:Nat}{wi:TI}{g:Bk->TG}{tt:Bk->TT}{te:Bk->TE}(B:bR X.env.scope scope)(hc:X.calm=true)(hN:Names X.N N' scope k)(hi:PI X tg iter wi)
  (hin:∀b:Bk,PG (X.blk N' scope b) tg (g b)/\qi (X.blk N' scope b) ifs (tt b)/\PE (X.blk N' scope b) jV (te b))
  (hs:∀x,foldedSetIterable iter X.env x=pure x:=by intro _;rfl):PE X (.ListComp jV [⟨tg,iter,ifs,0⟩] scope pos) (yU X k wi g tt λD b=>Ep D (te b)):=by
 intro ah s O H Q I h;refine mZ B hc hN hi (uG λ_ _ _=>rfl) (λb D=>⟨(hin b).1,(hin b).2.1,yS (hin b).2.2 rfl⟩) hs I h λs' H' D C m I' f' hn q=>?_
 refine⟨m,hn,λh' sb=>⟨.ref D,H',?_,rfl,q⟩⟩
 obtain⟨f0,f1,f2,f3,f4,f5⟩:=f';exact I'.turned (λb o hb e=>(sb.2 b hb).trans e) f0 f1 f3 f4 f5
theorem Eu{N':List Str}{k:Nat}{wi:TI}{g:Bk->TG}{tt:Bk->TT}{te:Bk->TE}{i:Nat}{y:Str}{py fQ:Pos}(B:bR X.env.scope scope)(hc:X.calm=true)(hN:Names X.N N' scope k)(hi:PI X tg iter wi)
  (hin:∀b:Bk,PG (X.blk N' scope b) tg (g b)/\qi (X.blk N' scope b) ifs (tt b)/\PE (X.blk N' scope b) jV (te b))
  (Ti:X.N.Nodup) (hy:X.N[i]?=some y) (hl:X.env.scope.names.lookup y=some .local)
  (hsw:swapsWith (.ListComp jV [⟨tg,iter,ifs,0⟩] scope pos) (some (.Name y py)) fQ.line X.env=pure true)
  (hs:∀x,foldedSetIterable iter X.env x=pure x:=by intro _;rfl):PS X (.Assign [.Name y py] (.ListComp jV [⟨tg,iter,ifs,0⟩] scope pos) fQ) (Le (yU X k wi g tt λD b=>Ep D (te b)) (yE i)):=by
 intro ah s O H D0 I h;rw[exec_Assign_Name_used _ _ _ _ hsw];refine aS (BD (aS ?_));refine aS (hZ (mZ B hc hN hi (uG λ_ _ _=>rfl) (λb D=>⟨(hin b).1,(hin b).2.1,yS (hin b).2.2 rfl⟩) hs I h λs' H' D C m I' f' hn q=>?_) (λ_ s' hq=>dS (dS hq)) λ_ _ e=>e)
 refine wpAny_assign_Name (mL I' Ti hy (.inl hl) (v:=.ref D) rfl (λs2 I2 hsb=>?_) (.inr hl))
 obtain⟨f0,f1,f2,f3,f4,f5⟩:=f';obtain⟨a,sb,ha⟩:=hsb;have nC:C≠a:=by
  rcases ha with e |e
  . rw[e];exact f1
  . exact lS (f4 _ _ e)
 refine⟨m,hn.sameBut sb nC,λh' sb'=>⟨_,H',?_,q⟩⟩
 exact I2.turned (λb o hb e=>(sb'.2 b hb).trans e) f0 f1 f3 f4 f5
end
section
variable{X:Cx}{ah: ~~~1}{O:St}{H:Hp}{s:Shared}
abbrev Yj (X:Cx):=tupleKind (ez X.prog X.w)
theorem vX:∀{ks:List Key}{aB:List Value},Vals (ks.map kV) aB->PySem.ItemsAre (ez X.prog X.w) ks aB:=by
 intro ks
 induction ks with
 |nil=>intro aB h;symm;exact .nil
 |cons k ks ih=>
  intro aB h;cases h with
  |cons h r=>
   cases k with
   |inl i=>obtain⟨t,rfl⟩:=h;exact .cons (pY _ _ _ _) (ih r)
   |inr x=>obtain⟨t,rfl⟩:=h;exact .cons (pZ _ _ _ _) (ih r)
theorem Inv.yW(I: ~~~7)(h:ig X.K H a (ks.map kV)):(Yj X).is s.heap ks a:=by obtain⟨aB,r,⟨o,e,c,n,d⟩,_⟩:=I.tuple h;exact⟨o,aB.toArray,n,e,c,d,by simpa using vX r⟩
theorem sL{α β:Type}{F:α->β->Prop}:∀{l:List α}{m:List β},Paired F l m->∀b∈m,∃a∈l,F a b:=by
 intro l m hp b hb
 induction hp with
 |nil=>cases hb
 |cons h r ih=>
  rcases b0.mp hb with rfl |e
  . exact⟨_,dA,h⟩
  . obtain⟨a,h1,h2⟩:=ih e;exact⟨a,a8 _ h1,h2⟩
noncomputable def atK{α:Type}(l:List (List Key×α))(ks:List Key):Option α:=(l.find? λp=>decide (p.1=ks)).map (·.2)
theorem qj{F:List Key×V->List Key×Addr×Value->Prop}(hF:∀p q,F p q->p.1=q.1/\RelV p.2 q.2.2){ks:List Key}{v:V}:∀{l:List (List Key×V)}{m:List (List Key×Addr×Value)},Paired F l m->atK l ks=some v->∃p,atKey m ks=some p/\RelV v p.2:=by
 intro l m hp e
 induction hp with
 |nil=>cases e
 |@cons p q l m h r ih=>
  obtain⟨k,x⟩:=p;obtain⟨k',a,u⟩:=q;obtain⟨e1,e2⟩:=hF _ _ h;subst e1;unfold atK at e;unfold atKey;rw[List.find?_cons]at e ⊢
  by_cases hk:k=ks
  .
   rw[show decide (k=ks)=true from nN hk]at e ⊢
   cases e;exact⟨(a,u),rfl,e2⟩
  .
   rw[show decide (k=ks)=false from pE hk]at e ⊢
   exact ih e
theorem Inv.Tj{d:Addr}{eu:List (List Key×V)}(I: ~~~7)(h:H d=some (.dT eu)):∃xs,s.heap.DictOfH (Yj X) d xs/\Paired (λ(p:List Key×V) (q:List Key×Addr×Value)=>p.1=q.1/\H q.2.1=some (.tup (p.1.map kV))/\RelV p.2 q.2.2) eu xs/\eu.length<=sizeLine/\(d==sysModules)=false:=by
 obtain⟨hz,hs,xs,pr,o,es,ep,e1,e2,e3,e4,e5⟩:=(show cg X.prog X.w H s.heap d (.dT eu)from I.hok d _ h);refine⟨xs,⟨o,es,ep,e1,e2,e3,e4,λx hx=>?_,e5⟩,pr,hz,hs⟩
 obtain⟨p,_,q1,q2,_⟩:=sL pr x hx;rw[<- q1];exact I.yW (.inl (.inl q2))
def Yk(K:Frag):R2:=λx y H Q=>∃p a eu ks v,x=.ref p/\y=.ref a/\H p=some (.dT eu)/\ig K H a (ks.map kV)/\atK eu ks=some v/\Q v H
theorem Ew(hu:X.A.units+1<cLine):SM X (Yk X.K):=by
 intro value slice ah s O H x y v u Q I rx ry h hs;obtain⟨p,a,eu,ks,z,rfl,rfl,hp,ha,he,q⟩:=h;cases rx;cases ry;obtain⟨xs,dh,pr,hz,hy⟩:=I.Tj hp;obtain⟨w,w1,w2⟩:=qj (λ_ _ h=>⟨h.1,h.2.2⟩) pr he
 have fin:EP X ah O Q w.2 { s with toks:=s.toks+(Yj X).draws ks}:=⟨z,H,I.tok _,w2,q⟩;exact subscriptTail_builtinR dh.typeIs slot_dict_getitem.lookup (wpAny_getItem_heap (tupleKind_room_in1 hu) (I.yW ha) dh w1 ⟨rfl,fin⟩) hs
end
end L2
namespace Ev
open L2
inductive D where
 |non |bl (b:Bool) |int (i:Int) |str (x:Str) |tup (l:List D) |lst (l:List D) |fix (l:List D) |emp |jE (C:Addr) |vY (ks: ~~~5) (ds:List D)
 deriving Inhabited
inductive Slot where
 |no |dat (d:D) |own (l:List D)
 deriving Inhabited
inductive R where
 |dat (d:D) |new (l:List D) |var (i:Nat)
 deriving Inhabited
abbrev G:=List Slot
abbrev Sg:=L2.St
abbrev K0:Hp:=λ_=>none
def LstAt(M:List Addr)(H:Hp)(a:Addr)(xs:List V):Prop:=a∉M/\H a=some (.lst xs)
def iE(K:Frag)(M:List Addr)(H:Hp)(a:Addr)(xs:List V):Prop:=(a∉M/\∃o,H a=some (.g9 o (.lst xs)))\/cF K K0 a xs
def TupAt(K:Frag)(M:List Addr)(H:Hp)(a:Addr)(xs:List V):Prop:=(a∉M/\Rd H a (.tup xs))\/(ig K K0 a xs/\∃o,K.lookup a=some o/\o.dict=none)
theorem Z4(h:Rd K0 a u):False:=by rcases h with h |⟨o,h⟩ <;> symm
theorem iE.sq{K:Frag}{M:List Addr}{H:Hp}{a:Addr}{xs:List V}(h:iE K M H a xs):cF K H a xs:=by
 rcases h with ⟨_,o,h⟩ |h |h
 . exact .inl (.inr ⟨o,h⟩)
 . exact (Z4 h).elim
 . exact .inr h
theorem TupAt.sq{K:Frag}{M:List Addr}{H:Hp}{a:Addr}{xs:List V}(h:TupAt K M H a xs):ig K H a xs:=by
 rcases h with ⟨_,h⟩ |⟨h |h,_⟩
 . exact .inl h
 . exact (Z4 h).elim
 . exact .inr h
noncomputable abbrev sM(C a:Addr):HO:=.ext λh=>∃o,h.get? a=some o/\o.cls=.ref C/\PySem.W.notCls o=true/\o.dict=none
structure Dq(K:Frag)(C:Addr):Prop where
 gga:PySem.W.findIn K (.ref C) "__getattribute__"=some (some (.builtin "BaseException.__getattribute__"))
 cO:PySem.W.findIn K (.ref C) "__getattr__"=some none
 bas:PySem.W.mroIn K C (.type "BaseException")=some true
 dct:PySem.W.hasDictIn K C=true
 cls:PySem.W.findIn K (.ref C) "__class__"=some (some (.builtin "object.__class__"))
 spc:PySem.W.specialIn K (.builtin "object.__class__") "__get__"=some (some (.builtin "getset_descriptor.__get__"))
 tks:PySem.W.takesIn K (.builtin "object.__class__")=some true
 mro:PySem.W.mroIn K C (.type "object")=some true
 kit:∀n∈["int", "bool", "str", "tuple", "list", "dict"],PySem.W.kitOne K (.ref C) (.type n)=some false
noncomputable abbrev Yl(ks: ~~~5)(vs:List V):HO:=.dT ((ks.map (List.map Sum.inl)).zip vs)
def Ym:HO->Prop
 |.lst _ |.dT _=>True
 |_=>False
mutual
inductive Rep(K:Frag)(M:List Addr)(H:Hp):D->V->Prop
 |non:Rep K M H .non .non
 |bl (b:Bool):Rep K M H (.bl b) (.bl b)
 |int (i:Int):Rep K M H (.int i) (.int i)
 |str (x:Str):Rep K M H (.str x) (.str x)
 |tup {l:List D}{a:Addr}{xs:List V}:TupAt K M H a xs->aH K M H l xs->Rep K M H (.tup l) (.ref a)
 |lst {l:List D}{a:Addr}{xs:List V}:LstAt M H a xs->aH K M H l xs->Rep K M H (.lst l) (.ref a)
 |fix {l:List D}{a:Addr}{xs:List V}:iE K M H a xs->aH K M H l xs->Rep K M H (.fix l) (.ref a)
 |emp:a∉M->H a=some (.dK [])->Rep K M H .emp (.ref a)
 |jE:Dq K C->a∉M->H a=some (sM C a)->Rep K M H (.jE C) (.ref a)
 |vY:a∉M->H a=some (Yl ks vs)->ks.length=vs.length->aH K M H ds vs->Rep K M H (.vY ks ds) (.ref a)
inductive aH(K:Frag)(M:List Addr)(H:Hp):List D->List V->Prop
 |nil:aH K M H [] []
 |cons {d:D}{ds:List D}{x:V}{xs:List V}:Rep K M H d x->aH K M H ds xs->aH K M H (d::ds) (x::xs)
end
def ao(M:List Addr)(H:Hp)(M':List Addr)(H':Hp):Prop:=∀b o,H b=some o->b∉M->H' b=some o/\b∉M'
theorem ao.rd(h:ao M H M' H')(n:a∉M)(r:Rd H a u):a∉M'/\Rd H' a u:=by
 rcases r with r |⟨o,r⟩
 . exact⟨(h _ _ r n).2,.inl (h _ _ r n).1⟩
 . exact⟨(h _ _ r n).2,.inr ⟨o,(h _ _ r n).1⟩⟩
theorem Rep.stay{K:Frag}{M M':List Addr}{H H':Hp}(h:ao M H M' H'){d:D}{v:V}(r:Rep K M H d v):Rep K M' H' d v:=by
 refine Rep.rec .non .bl .int .str (λt _ q=>?_) (λt _ q=>?_) (λt _ q=>?_) (λn r=>.emp (h _ _ r n).2 (h _ _ r n).1) (λx n r=>.jE x (h _ _ r n).2 (h _ _ r n).1) (λn r l _ q=>.vY (h _ _ r n).2 (h _ _ r n).1 l q) .nil (λ_ _ a b=>.cons a b) r
 .
  rcases t with t |t
  . exact .tup (.inl (h.rd t.1 t.2)) q
  . exact .tup (.inr t) q
 . exact .lst ⟨(h _ _ t.2 t.1).2,(h _ _ t.2 t.1).1⟩ q
 .
  rcases t with ⟨n,o,r⟩ |t
  . exact .fix (.inl ⟨(h _ _ r n).2,o,(h _ _ r n).1⟩) q
  . exact .fix (.inr t) q
theorem aH.stay{K:Frag}{M M':List Addr}{H H':Hp}(h:ao M H M' H'):∀{ds:List D}{vs:List V},aH K M H ds vs->aH K M' H' ds vs:=by
 intro ds
 induction ds with
 |nil=>intro vs q;cases q;exact .nil
 |cons d ds ih=>intro vs q;cases q with |cons a b=>exact .cons (a.stay h) (ih b)
theorem ao.refl(M:List Addr)(H:Hp):ao M H M H:=λ_ _ e n=>⟨e,n⟩
theorem ao.trans(a:ao M H M1 H1)(b:ao M1 H1 M2 H2):ao M H M2 H2:=λc o e n=>b c o (a c o e n).1 (a c o e n).2
theorem ao.less(h:∀m∈M',m∈M):ao M H M' H:=λ_ _ e n=>⟨e,λz=>n (h _ z)⟩
theorem ao.laid(hp:H p=none):ao M H M (upd H p o):=λb u e n=>⟨by rw[au (aG e hp)];exact e,n⟩
theorem ao.bA(hp:H p=none):ao M H (p::M) (upd H p o):=λb u e n=>
 ⟨by rw[au (aG e hp)];exact e,λz=>(b0.mp z).elim (λq=>aG e hp q) n⟩
theorem ao.write(hp:p∈M):ao M H M (upd H p o):=λb u e n=>⟨by rw[au (λq=>n (by rw[q];exact hp))];exact e,n⟩
theorem aH.length{K:Frag}{M:List Addr}{H:Hp}{ds:List D}{vs:List V}(r:aH K M H ds vs):ds.length=vs.length:=by
 induction ds generalizing vs with
 |nil=>cases r;rfl
 |cons d ds ih=>cases r with |cons a b=>exact congrArg (· + 1) (ih b)
theorem aH.append{K:Frag}{M:List Addr}{H:Hp}{ds es:List D}{vs ws:List V}(r:aH K M H ds vs)(s:aH K M H es ws):aH K M H (ds++es) (vs++ws):=by
 induction ds generalizing vs with
 |nil=>cases r;exact s
 |cons d ds ih=>cases r with |cons a b=>exact .cons a (ih b)
theorem aH.get{K:Frag}{M:List Addr}{H:Hp}{ds:List D}{vs:List V}{i:Nat}{d:D}(r:aH K M H ds vs)(e:ds[i]?=some d):∃v,vs[i]?=some v/\Rep K M H d v:=by
 induction ds generalizing vs i with
 |nil=>exact nomatch (show none=some d from e)
 |cons d' ds ih=>cases r with |cons a b=>cases i with
  |zero=>cases (show some d'=some d from e);exact⟨_,rfl,a⟩
  |succ i=>obtain⟨v,h⟩:=ih b e;exact⟨v,h⟩
theorem aH.set{K:Frag}{M:List Addr}{H:Hp}{d:D}{v:V}(r:Rep K M H d v){ds:List D}{vs:List V}(i:Nat)(q:aH K M H ds vs):aH K M H (ds.set i d) (vs.set i v):=by
 induction ds generalizing vs i with
 |nil=>cases q;exact .nil
 |cons d' ds ih=>cases q with |cons a b=>cases i with
  |zero=>exact .cons r b
  |succ i=>exact .cons a (ih i b)
theorem aH.take{K:Frag}{M:List Addr}{H:Hp}{ds:List D}{vs:List V}(n:Nat)(q:aH K M H ds vs):aH K M H (ds.take n) (vs.take n):=by
 induction ds generalizing vs n with
 |nil=>cases q;rw[List.take_nil,List.take_nil];exact .nil
 |cons d' ds ih=>cases q with |cons a b=>cases n with
  |zero=>exact .nil
  |succ n=>exact .cons a (ih n b)
theorem aH.drop{K:Frag}{M:List Addr}{H:Hp}{ds:List D}{vs:List V}(n:Nat)(q:aH K M H ds vs):aH K M H (ds.drop n) (vs.drop n):=by
 induction ds generalizing vs n with
 |nil=>cases q;rw[List.drop_nil,List.drop_nil];exact .nil
 |cons d' ds ih=>cases q with |cons a b=>cases n with
  |zero=>exact .cons a b
  |succ n=>exact ih n b
inductive Slots(K:Frag)(M:List Addr)(H:Hp):G->Sg->List Addr->Prop
 |nil:Slots K M H [] [] []
 |no:Slots K M H g O Y->Slots K M H (.no::g) (v::O) Y
 |dat {g:G}{O:Sg}{Y:List Addr}{v:V}{d:D}:Rep K M H d v->Slots K M H g O Y->Slots K M H (.dat d::g) (some v::O) Y
 |own {g:G}{O:Sg}{Y:List Addr}{a:Addr}{xs:List V}{ds:List D}:H a=some (.lst xs)->aH K M H ds xs->Slots K M H g O Y->Slots K M H (.own ds::g) (some (.ref a)::O) (a::Y)
theorem Slots.stay{K:Frag}{M M':List Addr}{H H':Hp}(h:ao M H M' H'){g:G}{O:Sg}{Y:List Addr}(k:∀a∈Y,∀o,H a=some o->H' a=some o)(q:Slots K M H g O Y):Slots K M' H' g O Y:=by
 induction q with
 |nil=>exact .nil
 |no q ih=>exact .no (ih k)
 |dat r q ih=>exact .dat (r.stay h) (ih k)
 |own e r q ih=>exact .own (k _ dA _ e) (r.stay h) (ih λa ha=>k a (a8 _ ha))
def gG:List Str:=["law", "_law_right"]
def j8(n:Str):Str:=n ++ ".<locals>." ++ "<lambda>"
noncomputable def bS(K:Frag):List (Addr×Str):=K.filterMap λp=>match p.2.data with
 |.fields vs=>(match vs.toList with
  |_::.str n _::_=>if gG.contains n=true then (match vs.toList[11]? with
   |some (Value.ref q)=>if (K.lookup q).isNone=true then some (q,j8 n)else none
   |_=>none)else none
  |_=>none)
 |_=>none
structure Z where
 K:Frag
 H0:Hp
 M0:List Addr
 lent:List (Nat×Addr)
 T:List (Addr×Str)
abbrev fy(q:Str)(c:Addr):HO:=.ext λh=>h.CodeRec (.ref c) q
def TabOk(H:Hp)(p:Addr×Str):Prop:=∃ps:Array Value,H p.1=some (.jA ps)/\TriplesOk ps.toList/\∀pos cv,codeAmong pos ps.toList=some cv->∃c,cv=.ref c/\H c=some (fy p.2 c)
noncomputable abbrev Z.TA(z:Z):List Addr:=z.T.map (·.1)
theorem TabOk.keep(t:TabOk H p)(k:∀b o,H b=some o->¬ Ym o->H' b=some o):TabOk H' p:=by obtain⟨ps,h1,h2,h3⟩:=t;exact⟨ps,k _ _ h1 id,h2,λpos cv e=>let ⟨c,e1,e2⟩:=h3 pos cv e;⟨c,e1,k _ _ e2 id⟩⟩
noncomputable abbrev Z.B(z:Z):List Addr:=z.lent.map (·.2)
noncomputable abbrev Z.bor(z:Z):List Nat:=z.lent.map (·.1)
structure S(z:Z)(g:G)(O:Sg)(Y M:List Addr)(H:Hp):Prop where
 sl:Slots z.K M H g O Y
 nd:Y.Nodup
 sub:∀a∈Y,a∈M
 own:∀(i:Nat) (a:Addr) (l:List D),g[i]?=some (.own l)->O[i]?=some (some (.ref a))->(i∈z.bor/\a∈z.B)\/z.H0 a=none
 live:∀m∈M,(∃o,H m=some o/\Ym o)\/m∈z.TA
 keep:∀b o,z.H0 b=some o->b∉z.B->b∉z.TA->H b=some o
 gK:∀m∈z.M0,m∈M
 m0:∀m∈z.M0,z.H0 m≠none
 bm:∀b∈z.B,b∈z.M0
 jg:∀p∈z.lent,O[p.1]?=some (some (.ref p.2))/\∃l,g[p.1]?=some (.own l)
 tab:∀p∈z.T,TabOk H p
 tm:∀p∈z.T,p.1∈z.M0
 tt:z.T=bS z.K
section
variable{g:G}
theorem S.fresh(s:S z g O Y M H)(hp:H p=none):p∉M:=λhm=>by
 rcases s.live p hm with ⟨o,e,_⟩ |e
 . rw[hp]at e;cases e
 . obtain⟨q,hq,rfl⟩:=gL.mp e;obtain⟨ps,h1,_⟩:=s.tab q hq;rw[hp]at h1;cases h1
theorem S.Kg(s:S z g O Y M H)(hp:H p=some (.lst xs)):p∉z.TA:=λe=>by
 obtain⟨q,hq,rfl⟩:=gL.mp e;obtain⟨ps,h1,_⟩:=s.tab q hq;rw[hp]at h1;cases h1
theorem S.eK(s:S z g O Y M H)(hp:H p=none):z.H0 p=none:=by
 cases e:z.H0 p with
 |none=>rfl
 |some o=>
  by_cases hb:p∈z.B
  . exact absurd (s.gK _ (s.bm _ hb)) (s.fresh hp)
  .
   by_cases ht:p∈z.TA
   . obtain⟨q,hq,rfl⟩:=gL.mp ht;exact absurd (s.gK _ (s.tm q hq)) (s.fresh hp)
   . rw[s.keep p o e hb ht]at hp;cases hp
theorem S.laid(s:S z g O Y M H){p:Addr}{o:HO}(hp:H p=none):S z g O Y M (upd H p o) where
 sl:=s.sl.stay (ao.laid hp) λa _ u e=>by rw[au (aG e hp)];exact e
 nd:=s.nd
 sub:=s.sub
 own:=s.own
 live:=λm hm=>by
  rcases s.live m hm with ⟨o,e,gr⟩ |e
  . exact .inl ⟨o,by rw[au (aG e hp)];exact e,gr⟩
  . exact .inr e
 keep:=λb u e hb ht=>by rw[au (aG (s.keep b u e hb ht) hp)];exact s.keep b u e hb ht
 gK:=s.gK
 m0:=s.m0
 bm:=s.bm
 jg:=s.jg
 tab:=λp h=>(s.tab p h).keep λb u e _=>by rw[au (aG e hp)];exact e
 tm:=s.tm
 tt:=s.tt
theorem S.Tn(s:S z g O Y M H){p:Addr}{u0:HO}(gu:Ym u0)(hp:H p=none):S z g O Y (p::M) (upd H p u0) where
 sl:=s.sl.stay (ao.bA hp) λa _ u e=>by rw[au (aG e hp)];exact e
 nd:=s.nd
 sub:=λa ha=>a8 _ (s.sub a ha)
 own:=s.own
 live:=λm hm=>by
  rcases b0.mp hm with rfl |hm
  . exact .inl ⟨_,aE,gu⟩
  .
   rcases s.live m hm with ⟨o,e,gr⟩ |e
   . exact .inl ⟨o,by rw[au (aG e hp)];exact e,gr⟩
   . exact .inr e
 keep:=λb u e hb ht=>by rw[au (aG (s.keep b u e hb ht) hp)];exact s.keep b u e hb ht
 gK:=λm hm=>a8 _ (s.gK m hm)
 m0:=s.m0
 bm:=s.bm
 jg:=s.jg
 tab:=λp h=>(s.tab p h).keep λb u e _=>by rw[au (aG e hp)];exact e
 tm:=s.tm
 tt:=s.tt
theorem S.bA(s:S z g O Y M H)(hp:H p=none):S z g O Y (p::M) (upd H p (.lst xs)):=s.Tn trivial hp
theorem S.drop(s:S z g O Y M H)(h0:z.H0 p=none)(hA:p∉Y):S z g O Y (M.filter λm=>decide (m≠p)) H where
 sl:=s.sl.stay (ao.less λm hm=>(hV.mp hm).1) λ_ _ _ e=>e
 nd:=s.nd
 sub:=λa ha=>hV.mpr ⟨s.sub a ha,by have:a≠p:=λe=>hA (e▸ha);simpa using this⟩
 own:=s.own
 live:=λm hm=>s.live m (hV.mp hm).1
 keep:=s.keep
 gK:=λm hm=>hV.mpr ⟨s.gK m hm,by have:m≠p:=λe=>s.m0 m hm (e▸h0);simpa using this⟩
 m0:=s.m0
 bm:=s.bm
 jg:=s.jg
 tab:=s.tab
 tm:=s.tm
 tt:=s.tt
end
def cH(z:Z)(g:G)(O:Sg)(Y M:List Addr)(H:Hp):R->V->Prop
 |.dat d,v=>Rep z.K M H d v
 |.new l,v=>∃a xs,v=.ref a/\a∈M/\a∉Y/\z.H0 a=none/\H a=some (.lst xs)/\aH z.K M H l xs
 |.var i,v=>∃l,g[i]?=some (.own l)/\O[i]?=some (some v)
inductive Pk(K:Frag)(M:List Addr)(H:Hp):D->V->Prop
 |of:Rep K M H d v->Pk K M H d v
 |lst {l:List D}{a:Addr}{xs:List V}:H a=some (.lst xs)->aH K M H l xs->Pk K M H (.lst l) (.ref a)
theorem Pk.list{K:Frag}{M:List Addr}{H:Hp}{l:List D}{v:V}(h:Pk K M H (.lst l) v):∃a xs,v=.ref a/\H a=some (.lst xs)/\aH K M H l xs:=by
 cases h with
 |of r=>cases r with |lst h1 h2=>exact⟨_,_,rfl,h1.2,h2⟩
 |lst h1 h2=>exact⟨_,_,rfl,h1,h2⟩
theorem Slots.at{K:Frag}{M:List Addr}{H:Hp}{g:G}{O:Sg}{Y:List Addr}{i:Nat}{l:List D}(q:Slots K M H g O Y)(e:g[i]?=some (.own l)):∃a xs,O[i]?=some (some (.ref a))/\a∈Y/\H a=some (.lst xs)/\aH K M H l xs:=by
 induction q generalizing i with
 |nil=>exact nomatch (show none=some (Slot.own l)from e)
 |no q ih=>cases i with
  |zero=>exact nomatch (show some Slot.no=some (Slot.own l)from e)
  |succ i=>exact ih e
 |dat r q ih=>cases i with
  |zero=>exact nomatch (show some (Slot.dat _)=some (Slot.own l)from e)
  |succ i=>exact ih e
 |own h r q ih=>cases i with
  |zero=>cases (show some (Slot.own _)=some (Slot.own l)from e);exact⟨_,_,rfl,dA,h,r⟩
  |succ i=>obtain⟨a,xs,h1,h2,h3⟩:=ih e;exact⟨a,xs,h1,a8 _ h2,h3⟩
theorem Slots.uH{K:Frag}{M:List Addr}{H:Hp}{g:G}{O:Sg}{Y:List Addr}{i:Nat}{d:D}(q:Slots K M H g O Y)(e:g[i]?=some (.dat d)):∃v,O[i]?=some (some v)/\Rep K M H d v:=by
 induction q generalizing i with
 |nil=>exact nomatch (show none=some (Slot.dat d)from e)
 |no q ih=>cases i with
  |zero=>exact nomatch (show some Slot.no=some (Slot.dat d)from e)
  |succ i=>exact ih e
 |dat r q ih=>cases i with
  |zero=>cases (show some (Slot.dat _)=some (Slot.dat d)from e);exact⟨_,rfl,r⟩
  |succ i=>exact ih e
 |own h r q ih=>cases i with
  |zero=>exact nomatch (show some (Slot.own _)=some (Slot.dat d)from e)
  |succ i=>exact ih e
theorem Slots.length{K:Frag}{M:List Addr}{H:Hp}{g:G}{O:Sg}{Y:List Addr}(q:Slots K M H g O Y):g.length=O.length:=by
 induction q with
 |nil=>rfl
 |no q ih=>exact congrArg (· + 1) ih
 |dat r q ih=>exact congrArg (· + 1) ih
 |own h r q ih=>exact congrArg (· + 1) ih
theorem Slots.gP{K:Frag}{M:List Addr}{H:Hp}{d:D}{v:V}(r:Rep K M H d v){g:G}{O:Sg}{Y:List Addr}(i:Nat)(q:Slots K M H g O Y):∃aA,Slots K M H (g.set i (.dat d)) (O.set i (some v)) aA/\aA.Sublist Y:=by
 induction q generalizing i with
 |nil=>exact⟨[],.nil,.slnil⟩
 |no q ih=>cases i with
  |zero=>exact⟨_,.dat r q,List.Sublist.refl _⟩
  |succ i=>obtain⟨aA,h1,h2⟩:=ih i;exact⟨aA,.no h1,h2⟩
 |dat r' q ih=>cases i with
  |zero=>exact⟨_,.dat r q,List.Sublist.refl _⟩
  |succ i=>obtain⟨aA,h1,h2⟩:=ih i;exact⟨aA,.dat r' h1,h2⟩
 |own e r' q ih=>cases i with
  |zero=>exact⟨_,.dat r q,List.sublist_cons_self _ _⟩
  |succ i=>obtain⟨aA,h1,h2⟩:=ih i;exact⟨_::aA,.own e r' h1,h2.cons₂ _⟩
theorem Slots.freeze{K:Frag}{M M':List Addr}{H:Hp}(hM:∀m∈M',m∈M){g:G}{O:Sg}{Y:List Addr}{i:Nat}{l:List D}{a:Addr}(q:Slots K M H g O Y)(e:g[i]?=some (.own l))(e2:O[i]?=some (some (.ref a)))(na:a∉M')(nd:Y.Nodup) :
  ∃aA,Slots K M' H (g.set i (.dat (.lst l))) O aA/\aA.Sublist Y/\a∉aA:=by
 induction q generalizing i with
 |nil=>exact nomatch (show none=some (Slot.own l)from e)
 |no q ih=>cases i with
  |zero=>exact nomatch (show some Slot.no=some (Slot.own l)from e)
  |succ i=>obtain⟨aA,h1,h2,h3⟩:=ih e e2 nd;exact⟨aA,.no h1,h2,h3⟩
 |dat r q ih=>cases i with
  |zero=>exact nomatch (show some (Slot.dat _)=some (Slot.own l)from e)
  |succ i=>obtain⟨aA,h1,h2,h3⟩:=ih e e2 nd;exact⟨aA,.dat (r.stay (ao.less hM)) h1,h2,h3⟩
 |@own g O Y b xs ds h r q ih=>cases i with
  |zero=>
   cases (show some (Slot.own _)=some (Slot.own l)from e)
   cases (show some (some (V.ref b))=some (some (V.ref a))from e2)
   exact⟨_,.dat (.lst ⟨na,h⟩ (r.stay (ao.less hM))) (q.stay (ao.less hM) λ_ _ _ e=>e),List.sublist_cons_self _ _,(eR.mp nd).1⟩
  |succ i=>
   obtain⟨aA,h1,h2,h3⟩:=ih e e2 (eR.mp nd).2;refine⟨b::aA,.own h (r.stay (ao.less hM)) h1,h2.cons₂ _,λhm=>?_⟩
   rcases b0.mp hm with z |z
   .
    obtain⟨c,xs,z1,z2,_⟩:=q.at e;cases (show some (some (V.ref c))=some (some (V.ref a))from z1.symm.trans e2)
    exact (eR.mp nd).1 (by rw[<- z];exact z2)
   . exact h3 z
theorem Slots.change{K:Frag}{M:List Addr}{H H':Hp}{l':List D}{a:Addr}{xs':List V}(st:ao M H M H')(ha:H' a=some (.lst xs'))(r':aH K M H' l' xs'){g:G}{O:Sg}{Y:List Addr}{i:Nat}{l:List D}(q:Slots K M H g O Y)(e:g[i]?=some (.own l))(e2:O[i]?=some (some (.ref a)))(nd:Y.Nodup)
  (k:∀b∈Y,b≠a->∀o,H b=some o->H' b=some o):Slots K M H' (g.set i (.own l')) O Y:=by
 induction q generalizing i with
 |nil=>exact nomatch (show none=some (Slot.own l)from e)
 |no q ih=>cases i with
  |zero=>exact nomatch (show some Slot.no=some (Slot.own l)from e)
  |succ i=>exact .no (ih e e2 nd k)
 |dat r q ih=>cases i with
  |zero=>exact nomatch (show some (Slot.dat _)=some (Slot.own l)from e)
  |succ i=>exact .dat (r.stay st) (ih e e2 nd k)
 |@own g O Y b xs ds h r q ih=>cases i with
  |zero=>
   cases (show some (some (V.ref b))=some (some (V.ref a))from e2)
   exact .own ha r' (q.stay st λc hc o e=>k c (a8 _ hc) (λz=>(eR.mp nd).1 (by rw[<- z];exact hc)) o e)
  |succ i=>
   refine .own (k b dA (λz=>?_) _ h) (r.stay st) (ih e e2 (eR.mp nd).2 λc hc=>k c (a8 _ hc))
   obtain⟨c,xs,z1,z2,_⟩:=q.at e;cases (show some (some (V.ref c))=some (some (V.ref a))from z1.symm.trans e2)
   exact (eR.mp nd).1 (by rw[z];exact z2)
section
variable{g:G}
theorem dG(h:(g.set i (.dat d))[j]?=some (.own l)):g[j]?=some (.own l)/\j≠i:=by
 by_cases e:i=j
 .
  subst e;by_cases hi:i<g.length
  . rw[gN hi]at h;symm
  . rw[u8.mpr (by rw[wP];lia)]at h;symm
 . rw[eD e]at h;exact⟨h,lS e⟩
theorem S.freeze(s:S z g O Y M H){i:Nat}{l:List D}(hg:g[i]?=some (.own l))(hb:i∉z.bor):∃aA M',S z (g.set i (.dat (.lst l))) O aA M' H/\ao M H M' H:=by
 obtain⟨a,xs,e1,e2,e3,e4⟩:=s.sl.at hg;have h0:=(s.own i a l hg e1).elim (λq=>absurd q.1 hb) id
 have hM:∀m∈(M.filter λm=>decide (m≠a)),m∈M:=λm hm=>(hV.mp hm).1
 have na:a∉(M.filter λm=>decide (m≠a)):=λhm=>by
  have:=(hV.mp hm).2;simp at this
 obtain⟨aA,q1,q2,q3⟩:=s.sl.freeze hM hg e1 na s.nd;refine⟨aA,_,⟨q1,s.nd.sublist q2,λb hb=>hV.mpr ⟨s.sub b (q2.subset hb),?_⟩,λj b l' h1 h2=>s.own j b l' (dG h1).1 h2,λm hm=>s.live m (hM m hm),s.keep,λm hm=>hV.mpr ⟨s.gK m hm,?_⟩,s.m0,s.bm,λp hp=>⟨(s.jg p hp).1,?_⟩,s.tab,s.tm,s.tt⟩,ao.less hM⟩
 rotate_left 2
 .
  have:i≠p.1:=λe=>hb (by rw[e];exact mM hp)
  rw[eD this];exact (s.jg p hp).2
 .
  have:b≠a:=λe=>q3 (e▸hb)
  simpa using this
 .
  have:m≠a:=λe=>s.m0 m hm (e▸h0)
  simpa using this
theorem S.write(s:S z g O Y M H){i:Nat}{l l':List D}{a:Addr}{xs':List V}(hg:g[i]?=some (.own l))(e1:O[i]?=some (some (.ref a)))(r:aH z.K M H l' xs'):S z (g.set i (.own l')) O Y M (upd H a (.lst xs'))/\ao M H M (upd H a (.lst xs')):=by
 obtain⟨b,xs,e2,e3,e4,e5⟩:=s.sl.at hg;rw[e1]at e2;injection e2 with e2;injection e2 with e2;injection e2 with e2;subst e2;have st:ao M H M (upd H a (.lst xs')):=ao.write (s.sub a e3);refine⟨⟨s.sl.change st aE (r.stay st) hg e1 s.nd (λb _ ne o e=>by rw[au ne];exact e),s.nd,s.sub,λj b l2 h1 h2=>?_,λm hm=>?_,λb o e hb ht=>?_,s.gK,s.m0,s.bm,λp hp=>⟨(s.jg p hp).1,?_⟩,λp h=>(s.tab p h).keep λb u e nl=>?_,s.tm,s.tt⟩,st⟩
 rotate_left 3
 .
  by_cases hj:i=p.1
  . rw[<- hj];exact⟨l',gN (a9.mp hg).1⟩
  . rw[eD hj];exact (s.jg p hp).2
 .
  have:b≠a:=λz2=>by subst z2;rw[e4]at e;cases e;exact nl trivial
  rw[au this];exact e
 .
  by_cases hj:i=j
  . subst hj;exact s.own i b l hg h2
  . rw[eD hj]at h1;exact s.own j b l2 h1 h2
 .
  by_cases hm2:m=a
  . subst hm2;exact .inl ⟨_,aE,trivial⟩
  .
   rcases s.live m hm with ⟨o,e,gr⟩ |e
   . exact .inl ⟨o,by rw[au hm2];exact e,gr⟩
   . exact .inr e
 .
  have q:=s.keep b o e hb ht;have:b≠a:=λz2=>by
   subst z2;rcases s.own i b l hg e1 with w |w
   . exact hb w.2
   . rw[w]at e;cases e
  rw[au this];exact q
theorem S.gP(s:S z g O Y M H)(hb:i∉z.bor)(r:Rep z.K M H d v):∃aA,S z (g.set i (.dat d)) (O.set i (some v)) aA M H:=by
 obtain⟨aA,h1,h2⟩:=s.sl.gP r i;refine⟨aA,h1,s.nd.sublist h2,λa ha=>s.sub a (h2.subset ha),λj b l h3 h4=>?_,s.live,s.keep,s.gK,s.m0,s.bm,λp hp=>?_,s.tab,s.tm,s.tt⟩
 rotate_left
 .
  have:i≠p.1:=λe=>hb (by rw[e];exact mM hp)
  rw[eD this,eD this];exact s.jg p hp
 obtain⟨h5,h6⟩:=dG h3;rw[eD (lS h6)]at h4;exact s.own j b l h5 h4
theorem Slots.oF{K:Frag}{a:Addr}{xs:List V}{l:List D}(h:H a=some (.lst xs))(r:aH K M H l xs){g:G}{O:Sg}{Y:List Addr}(i:Nat)(q:Slots K M H g O Y)(hi:i<g.length):∃aA,Slots K M H (g.set i (.own l)) (O.set i (some (.ref a))) aA/\(∀b∈aA,b=a\/b∈Y)/\(Y.Nodup->a∉Y->aA.Nodup):=by
 induction q generalizing i with
 |nil=>exact absurd hi (Nat.not_lt_zero _)
 |no q ih=>cases i with
  |zero=>exact⟨_,.own h r q,λb hb=>b0.mp hb,λnd na=>eR.mpr ⟨na,nd⟩⟩
  |succ i=>obtain⟨aA,h1,h2,h3⟩:=ih i (AR hi);exact⟨aA,.no h1,h2,h3⟩
 |dat r' q ih=>cases i with
  |zero=>exact⟨_,.own h r q,λb hb=>b0.mp hb,λnd na=>eR.mpr ⟨na,nd⟩⟩
  |succ i=>obtain⟨aA,h1,h2,h3⟩:=ih i (AR hi);exact⟨aA,.dat r' h1,h2,h3⟩
 |@own g O Y c ys ds e r' q ih=>cases i with
  |zero=>exact⟨_,.own h r q,λb hb=>(b0.mp hb).imp id (a8 _),λnd na=>eR.mpr ⟨λz=>na (a8 _ z),(eR.mp nd).2⟩⟩
  |succ i=>obtain⟨aA,h1,h2,h3⟩:=ih i (AR hi);exact⟨c::aA,.own e r' h1,λb hb=>(b0.mp hb).elim (λz=>.inr (z▸dA)) λz=>(h2 b z).imp id (a8 _),λnd na=>eR.mpr ⟨λz=>(h2 c z).elim (λw=>na (w▸dA)) (eR.mp nd).1,h3 (eR.mp nd).2 λw=>na (a8 _ w)⟩⟩
theorem S.oF(s:S z g O Y M H){i:Nat}{l:List D}{a:Addr}{xs:List V}(hb:i∉z.bor)(hi:i<g.length)(hm:a∈M)(hA:a∉Y)(h0:z.H0 a=none)(h:H a=some (.lst xs))(r:aH z.K M H l xs):∃aA,S z (g.set i (.own l)) (O.set i (some (.ref a))) aA M H:=by
 obtain⟨aA,h1,h2,h3⟩:=s.sl.oF h r i hi;refine⟨aA,h1,h3 s.nd hA,λb hb=>(h2 b hb).elim (λe=>e▸hm) (s.sub b),λj b l2 h4 h5=>?_,s.live,s.keep,s.gK,s.m0,s.bm,λp hp=>?_,s.tab,s.tm,s.tt⟩
 rotate_left
 .
  have:i≠p.1:=λe=>hb (by rw[e];exact mM hp)
  rw[eD this,eD this];exact s.jg p hp
 by_cases hj:i=j
 .
  subst hj;rw[gN (by rw[<- s.sl.length];exact hi)]at h5
  injection h5 with h5;injection h5 with h5;injection h5 with h5;subst h5;exact .inr h0
 . rw[eD hj]at h4 h5;exact s.own j b l2 h4 h5
end
abbrev Kn (z:Z) (g':G) (O:Sg) (M:List Addr) (H:Hp) (r:R) (Q:VK):Prop:=
 ∀v H' aA M',S z g' O aA M' H'->ao M H M' H'->cH z g' O aA M' H' r v->Q v H'
def az(X:Cx)(z:Z)(e:Expr)(g:G)(r:R)(g':G):Prop:=
 ∃t,PE X e t/\∀O Y M H Q,S z g O Y M H->Kn z g' O M H r Q->t O H Q
def bL(X:Cx)(z:Z)(e:Expr)(g:G)(b:Bool)(g':G):Prop:=
 ∃t,PT X e t/\∀O Y M H (Q:Bool->Hp->Prop),S z g O Y M H->(∀H' aA M',S z g' O aA M' H'->ao M H M' H'->Q b H')->t O H Q
def lV(X:Cx)(z:Z)(f:Value->Value->Sem Value)(d1 d2:D)(res:R):Prop:=
 ∃r:R2,jB X f r/\∀g O Y M H v1 v2 Q,S z g O Y M H->Pk z.K M H d1 v1->Pk z.K M H d2 v2->Kn z g O M H res Q->r v1 v2 H Q
def Q9(X:Cx)(z:Z)(d1 d2:D)(res:R):Prop:=
 ∃r:R2,SM X r/\∀g O Y M H v1 v2 Q,S z g O Y M H->Pk z.K M H d1 v1->Pk z.K M H d2 v2->Kn z g O M H res Q->r v1 v2 H Q
def Z5(X:Cx)(z:Z)(f:Value->Sem Value)(d:D)(res:R):Prop:=
 ∃r:V->Hp->VK->Prop,Ww X f r/\∀g O Y M H v Q,S z g O Y M H->Pk z.K M H d v->Kn z g O M H res Q->r v H Q
noncomputable def pk:R->G->Option D
 |.dat d,_=>some d
 |.new _,_=>none
 |.var i,g=>match g[i]? with |some (.own l)=>some (.lst l) |some (.dat (.lst l))=>some (.lst l) |_=>none
section
theorem S.pk(s:S z g2 O Y M2 H2)(st:ao M1 H1 M2 H2)(q:cH z g1 O aL M1 H1 r v)(h:pk r g2=some d):Pk z.K M2 H2 d v:=by
 cases r with
 |dat d'=>have e:d'=d:=l6 h;subst e;exact .of (Rep.stay st q)
 |new l=>symm
 |var i=>
  obtain⟨l,h1,h2⟩:=q;unfold Ev.pk at h;dsimp only at h;left
  . rename_i l' hg;have e:=l6 h;subst e;obtain⟨a,xs,e1,e2,e3,e4⟩:=s.sl.at hg;rw[h2]at e1;injection e1 with e1;injection e1 with e1;subst e1;exact .lst e3 e4
  . rename_i l' hg;have e:=l6 h;subst e;obtain⟨w,e1,e2⟩:=s.sl.uH hg;rw[h2]at e1;injection e1 with e1;injection e1 with e1;exact .of (e1▸e2)
  . symm
theorem Ma{i j}:az X z (.Constant (.int i) j pos) g ‹i› g:=⟨_,K4,λO Y M H Q s k=>k _ _ _ _ s (ao.refl _ _) (.int i)⟩
theorem Tp{i j}:az X z (.Constant (.bool i) j pos) g (.dat (.bl i)) g:=⟨_,RP,λO Y M H Q s k=>k _ _ _ _ s (ao.refl _ _) (.bl i)⟩
theorem Mf{j}:az X z (.Constant .none j pos) g (.dat .non) g:=⟨_,yx,λO Y M H Q s k=>k _ _ _ _ s (ao.refl _ _) .non⟩
theorem Mg{x j}:az X z (.Constant (.str x) j pos) g (.dat (.str x)) g:=⟨_,K5,λO Y M H Q s k=>k _ _ _ _ s (ao.refl _ _) (.str x)⟩
theorem Mh{i:Nat}{x:Str}(hN:X.N[i]?=some x)(hv:rZ X.env.scope x)(hd:(x==(~~~3))=false)(cB:(x==("__classdict__":Str))=false)(hg:g[i]?=some (.dat d)):az X z (.Name x pos) g (.dat d) g:=
 ⟨_,jd hN hv hd cB,λO Y M H Q s k=>let ⟨v,e,r⟩:=s.sl.uH hg;⟨v,e,k v H Y M s (ao.refl _ _) r⟩⟩
theorem Ey(hN:X.N[i]?=some x)(hv:rZ X.env.scope x)(hd:(x==(~~~3))=false)(cB:(x==("__classdict__":Str))=false)(hg:g[i]?=some (.own l)):az X z (.Name x pos) g (.var i) g:=
 ⟨_,jd hN hv hd cB,λO Y M H Q s k=>let ⟨a,xs,e,r⟩:=s.sl.at hg;⟨_,e,k _ H Y M s (ao.refl _ _) ⟨l,hg,e⟩⟩⟩
theorem Ez(hg:Gl X x)(hm:X.mg x=some u)(r:RelV v u)(hr:∀M H,Rep z.K M H d v)(hd:(x==(~~~3))=false):az X z (.Name x pos) g (.dat d) g:=
 ⟨_,uw hg hm r hd,λO Y M H Q s k=>k _ H Y M s (ao.refl _ _) (hr M H)⟩
theorem j9(h:az X z e g (.new l) g'):az X z e g (.dat (.lst l)) g':=by
 obtain⟨t,p,q⟩:=h;refine⟨t,p,λO Y M H Q s k=>q O Y M H Q s λv H' aA M' s' st r=>?_⟩
 obtain⟨a,xs,rfl,hm,hA,h0,ha,rr⟩:=r;have hM:∀m∈(M'.filter λm=>decide (m≠a)),m∈M':=λm hm=>(hV.mp hm).1
 have na:a∉(M'.filter λm=>decide (m≠a)):=λhm=>by
  have:=(hV.mp hm).2;simp at this
 exact k _ H' aA _ (s'.drop h0 hA) (st.trans (ao.less hM)) (.lst ⟨na,ha⟩ (rr.stay (ao.less hM)))
theorem vZ(h:az X z e g (.var i) g1)(hg:g1[i]?=some (.own l))(hb:i∉z.bor):az X z e g (.dat (.lst l)) (g1.set i (.dat (.lst l))):=by
 obtain⟨t,p,q⟩:=h;refine⟨t,p,λO Y M H Q s k=>q O Y M H Q s λv H' aA M' s' st r=>?_⟩
 obtain⟨l',h1,h2⟩:=r;obtain⟨aO,M2,s2,aJ⟩:=s'.freeze hg hb;have hi:=(a9.mp hg).1;obtain⟨v',e1,e2⟩:=s2.sl.uH (by rw[gN hi])
 rw[h2]at e1;injection e1 with e1;injection e1 with e1;subst e1;exact k _ H' aO M2 s2 (st.trans aJ) e2
theorem Mi(h1:az X z a g r1 g1)(h2:az X z b g1 r2 g2)(p1:pk r1 g2=some d1)(p2:pk r2 g2=some d2)(ho:lV X z (binaryOp op) d1 d2 r):az X z (.BinOp a op b pos) g r g2:=by
 obtain⟨t1,q1,k1⟩:=h1;obtain⟨t2,q2,k2⟩:=h2;obtain⟨rr,o,ko⟩:=ho;exact⟨_,yI o q1 q2,λO Y M H Q s k=>k1 O Y M H _ s λv1 H1 aL M1 s1 cR R1=>k2 O aL M1 H1 _ s1 λv2 H2 aO M2 s2 aJ R2=>
  ko g2 O aO M2 H2 v1 v2 Q s2 (s2.pk aJ R1 p1) (s2.pk (ao.refl _ _) R2 p2) λv H' aA M' s' st' R'=>k v H' aA M' s' (cR.trans (aJ.trans st')) R'⟩
theorem Mj(h1:az X z a g r1 g1)(h2:az X z b g1 r2 g2)(p1:pk r1 g2=some d1)(p2:pk r2 g2=some d2)(ho:lV X z (compareOp op) d1 d2 r)(hm:behindInMarks op b=false):az X z (.Compare a [op] [b] pos) g r g2:=by
 obtain⟨t1,q1,k1⟩:=h1;obtain⟨t2,q2,k2⟩:=h2;obtain⟨rr,o,ko⟩:=ho;exact⟨_,Ed o q1 q2 hm,λO Y M H Q s k=>k1 O Y M H _ s λv1 H1 aL M1 s1 cR R1=>k2 O aL M1 H1 _ s1 λv2 H2 aO M2 s2 aJ R2=>
  ko g2 O aO M2 H2 v1 v2 Q s2 (s2.pk aJ R1 p1) (s2.pk (ao.refl _ _) R2 p2) λv H' aA M' s' st' R'=>k v H' aA M' s' (cR.trans (aJ.trans st')) R'⟩
theorem Tq(h1:az X z a g r1 g1)(h2:az X z b g1 r2 g2)(p1:pk r1 g2=some d1)(p2:pk r2 g2=some d2)(ho:Q9 X z d1 d2 r)(hs:jN b):az X z (.Subscript a b pos) g r g2:=by
 obtain⟨t1,q1,k1⟩:=h1;obtain⟨t2,q2,k2⟩:=h2;obtain⟨rr,o,ko⟩:=ho;exact⟨_,Ke o q1 q2 hs,λO Y M H Q s k=>k1 O Y M H _ s λv1 H1 aL M1 s1 cR R1=>k2 O aL M1 H1 _ s1 λv2 H2 aO M2 s2 aJ R2=>
  ko g2 O aO M2 H2 v1 v2 Q s2 (s2.pk aJ R1 p1) (s2.pk (ao.refl _ _) R2 p2) λv H' aA M' s' st' R'=>k v H' aA M' s' (cR.trans (aJ.trans st')) R'⟩
theorem Tr(h1:az X z a g r1 g1)(p1:pk r1 g1=some d1)(ho:Z5 X z (unaryOp op) d1 r):az X z (.UnaryOp op a pos) g r g1:=by obtain⟨t1,q1,k1⟩:=h1;obtain⟨rr,o,ko⟩:=ho;exact⟨_,Se o q1,λO Y M H Q s k=>k1 O Y M H _ s λv1 H1 aL M1 s1 cR R1=>ko g1 O aL M1 H1 v1 Q s1 (s1.pk (ao.refl _ _) R1 p1) λv H' aA M' s' st' R'=>k v H' aA M' s' (cR.trans st') R'⟩
theorem dH(q:cH z g O Y M H (.dat (.bl c)) v):v=.bl c:=by have q':=q;cases q';rfl
theorem Mk(h1:az X z a g r1 g1)(h2:az X z b g1 r2 g2)(p1:pk r1 g2=some d1)(p2:pk r2 g2=some d2)(ho:lV X z (compareOp op) d1 d2 (.dat (.bl c)))(hm:behindInMarks op b=false):bL X z (.Compare a [op] [b] pos) g c g2:=by
 obtain⟨t1,q1,k1⟩:=h1;obtain⟨t2,q2,k2⟩:=h2;obtain⟨rr,o,ko⟩:=ho;exact⟨_,Ef o q1 q2 hm,λO Y M H Q s k=>k1 O Y M H _ s λv1 H1 aL M1 s1 cR R1=>k2 O aL M1 H1 _ s1 λv2 H2 aO M2 s2 aJ R2=>
  ko g2 O aO M2 H2 v1 v2 _ s2 (s2.pk aJ R1 p1) (s2.pk (ao.refl _ _) R2 p2) λv H' aA M' s' st' R'=>⟨c,dH R',k H' aA M' s' (cR.trans (aJ.trans st'))⟩⟩
theorem Ml(h:bL X z a g c g'):bL X z (.UnaryOp .Not a pos) g (!c) g':=by obtain⟨t,q,k⟩:=h;exact⟨_,yy q,λO Y M H Q s kk=>k O Y M H _ s λH' aA M' s' st=>kk H' aA M' s' st⟩
def jF(X:Cx)(z:Z)(e:Expr)(g:G)(b:Bool)(g':G):Prop:=
 ∃t,PW X e t/\∀O Y M H (Q:Bool->Hp->Prop),S z g O Y M H->(∀H' aA M',S z g' O aA M' H'->ao M H M' H'->Q b H')->t O H Q
theorem jF.tr(h:jF X z e g c g'):bL X z e g c g':=let ⟨t,q,k⟩:=h;⟨t,q.pt,k⟩
theorem EY(h:bL X z a g c g'):jF X z (.BoolOp .And [a] pos) g c g':=let ⟨t,q,k⟩:=h;⟨t,pw_and1 q,k⟩
theorem Mm(h:bL X z a g c g'):jF X z (.BoolOp .Or [a] pos) g c g':=let ⟨t,q,k⟩:=h;⟨t,pw_or1 q,k⟩
def tNo:TT:=λ_ _ _=>False
theorem pw_never:PW X e tNo:=λ_ _ _ _ _ _ _ h=>h.elim
theorem dI:PE X e (λ_ _ _=>False):=λ_ _ _ _ _ _ h=>h.elim
theorem Fb{rest:List Expr}(h:bL X z a g false g1):jF X z (.BoolOp .And (a::b::rest) pos) g false g1:=by obtain⟨t,q,k⟩:=h;exact⟨_,pw_and q pw_never,λO Y M H Q s kk=>k O Y M H _ s λH' aA M' s' st=>oA (kk H' aA M' s' st)⟩
theorem Fc{rest:List Expr}{c:Bool}(h:bL X z a g true g1)(h2:jF X z (.BoolOp .And (b::rest) pos) g1 c g2):jF X z (.BoolOp .And (a::b::rest) pos) g c g2:=by obtain⟨t,q,k⟩:=h;obtain⟨t2,q2,k2⟩:=h2;exact⟨_,pw_and q q2,λO Y M H Q s kk=>k O Y M H _ s λH' aA M' s' st=>jD (k2 O aA M' H' Q s' λH2 aO M2 s2 aJ=>kk H2 aO M2 s2 (st.trans aJ))⟩
theorem Mp{rest:List Expr}(h:bL X z a g true g1):jF X z (.BoolOp .Or (a::b::rest) pos) g true g1:=by obtain⟨t,q,k⟩:=h;exact⟨_,pw_or q pw_never,λO Y M H Q s kk=>k O Y M H _ s λH' aA M' s' st=>jD (kk H' aA M' s' st)⟩
theorem Mq{rest:List Expr}{c:Bool}(h:bL X z a g false g1)(h2:jF X z (.BoolOp .Or (b::rest) pos) g1 c g2):jF X z (.BoolOp .Or (a::b::rest) pos) g c g2:=by obtain⟨t,q,k⟩:=h;obtain⟨t2,q2,k2⟩:=h2;exact⟨_,pw_or q q2,λO Y M H Q s kk=>k O Y M H _ s λH' aA M' s' st=>oA (k2 O aA M' H' Q s' λH2 aO M2 s2 aJ=>kk H2 aO M2 s2 (st.trans aJ))⟩
theorem yX(h:az X z a g r g'):az X z (.BoolOp op [a] pos) g r g':=let ⟨t,q,k⟩:=h;⟨t,K7 q,k⟩
theorem Fd{rest:List Expr}(h:az X z a g (.dat (.bl false)) g1):az X z (.BoolOp .And (a::b::rest) pos) g (.dat (.bl false)) g1:=by obtain⟨t,q,k⟩:=h;exact⟨_,yz q dI,λO Y M H Q s kk=>k O Y M H _ s λv H' aA M' s' st R=>⟨false,dH R,oA (kk _ H' aA M' s' st (.bl false))⟩⟩
theorem Fe{rest:List Expr}(h:az X z a g (.dat (.bl true)) g1)(h2:az X z (.BoolOp .And (b::rest) pos) g1 r g2):az X z (.BoolOp .And (a::b::rest) pos) g r g2:=by obtain⟨t,q,k⟩:=h;obtain⟨t2,q2,k2⟩:=h2;exact⟨_,yz q q2,λO Y M H Q s kk=>k O Y M H _ s λv H' aA M' s' st R=>⟨true,dH R,jD (k2 O aA M' H' Q s' λv2 H2 aO M2 s2 aJ=>kk v2 H2 aO M2 s2 (st.trans aJ))⟩⟩
theorem Mr{rest:List Expr}(h:az X z a g (.dat (.bl true)) g1):az X z (.BoolOp .Or (a::b::rest) pos) g (.dat (.bl true)) g1:=by obtain⟨t,q,k⟩:=h;exact⟨_,Kc q dI,λO Y M H Q s kk=>k O Y M H _ s λv H' aA M' s' st R=>⟨true,dH R,jD (kk _ H' aA M' s' st (.bl true))⟩⟩
theorem Ms{rest:List Expr}(h:az X z a g (.dat (.bl false)) g1)(h2:az X z (.BoolOp .Or (b::rest) pos) g1 r g2):az X z (.BoolOp .Or (a::b::rest) pos) g r g2:=by obtain⟨t,q,k⟩:=h;obtain⟨t2,q2,k2⟩:=h2;exact⟨_,Kc q q2,λO Y M H Q s kk=>k O Y M H _ s λv H' aA M' s' st R=>⟨false,dH R,oA (k2 O aA M' H' Q s' λv2 H2 aO M2 s2 aJ=>kk v2 H2 aO M2 s2 (st.trans aJ))⟩⟩
theorem Mt(h:az X z a g (.dat (.bl c)) g1):az X z (.UnaryOp .Not a pos) g (.dat (.bl (!c))) g1:=by obtain⟨t,q,k⟩:=h;exact⟨_,K8 q,λO Y M H Q s kk=>k O Y M H _ s λv H' aA M' s' st R=>⟨c,dH R,kk _ H' aA M' s' st (.bl _)⟩⟩
theorem Mu(h:bL X z c g true g1)(h2:az X z a g1 r g2):az X z (.IfExp c a b pos) g r g2:=by obtain⟨t,q,k⟩:=h;obtain⟨t2,q2,k2⟩:=h2;exact⟨_,p8 q q2 dI,λO Y M H Q s kk=>k O Y M H _ s λH' aA M' s' st=>jD (k2 O aA M' H' Q s' λv2 H2 aO M2 s2 aJ=>kk v2 H2 aO M2 s2 (st.trans aJ))⟩
theorem Mv(h:bL X z c g false g1)(h2:az X z b g1 r g2):az X z (.IfExp c a b pos) g r g2:=by obtain⟨t,q,k⟩:=h;obtain⟨t2,q2,k2⟩:=h2;exact⟨_,p8 q dI q2,λO Y M H Q s kk=>k O Y M H _ s λH' aA M' s' st=>oA (k2 O aA M' H' Q s' λv2 H2 aO M2 s2 aJ=>kk v2 H2 aO M2 s2 (st.trans aJ))⟩
inductive gQ(z:Z)(O:Sg)(M:List Addr)(H:Hp):List R->List V->Prop
 |nil:gQ z O M H [] []
 |dat {d:D}{v:V}{rs:List R}{vs:List V}:Rep z.K M H d v->gQ z O M H rs vs->gQ z O M H (.dat d::rs) (v::vs)
 |var {i:Nat}{v:V}{rs:List R}{vs:List V}:O[i]?=some (some v)->gQ z O M H rs vs->gQ z O M H (.var i::rs) (v::vs)
def cI(X:Cx)(z:Z)(es:List Expr)(g:G)(rs:List R)(g':G):Prop:=
 ∃t,PA X es t/\∀O Y M H (Q:List V->Hp->Prop),S z g O Y M H->(∀vs H' aA M',S z g' O aA M' H'->ao M H M' H'->gQ z O M' H' rs vs->Q vs H')->t O H Q
theorem fG:cI X z [] g [] g:=⟨_,jf,λO Y M H Q s k=>k [] H Y M s (ao.refl _ _) .nil⟩
theorem dw(h:az X z e g (.dat d) g1)(h2:cI X z es g1 rs g2)(hs:starEach (e::es) X.env=(false,eval e X.env)::starEach es X.env):cI X z (e::es) g (.dat d::rs) g2:=by obtain⟨t,q,k⟩:=h;obtain⟨t2,q2,k2⟩:=h2;exact⟨_,bQ q q2 hs,λO Y M H Q s kk=>k O Y M H _ s λv H' aA M' s' st R=>k2 O aA M' H' _ s' λvs H2 aO M2 s2 aJ R2=>kk _ H2 aO M2 s2 (st.trans aJ) (.dat (Rep.stay aJ R) R2)⟩
theorem Mw(h:az X z e g (.var i) g1)(h2:cI X z es g1 rs g2)(hs:starEach (e::es) X.env=(false,eval e X.env)::starEach es X.env):cI X z (e::es) g (.var i::rs) g2:=by obtain⟨t,q,k⟩:=h;obtain⟨t2,q2,k2⟩:=h2;exact⟨_,bQ q q2 hs,λO Y M H Q s kk=>k O Y M H _ s (by rintro v H' aA M' s' st ⟨_,_,R⟩;exact k2 O aA M' H' _ s' λvs H2 aO M2 s2 aJ R2=>kk _ H2 aO M2 s2 (st.trans aJ) (.var R R2))⟩
inductive Fg(K:Frag)(M:List Addr)(H:Hp):List D->List V->Prop
 |nil:Fg K M H [] []
 |cons {d:D}{v:V}{ds:List D}{vs:List V}:Pk K M H d v->Fg K M H ds vs->Fg K M H (d::ds) (v::vs)
def v5:List R->G->Option (List D)
 | [],_=>some []
 |r::rs,g=>match pk r g,v5 rs g with
  |some d,some ds=>some (d::ds)
  |_,_=>none
theorem S.v5(s:S z g O Y M H)(q:gQ z O M H rs vs)(e:v5 rs g=some ds):Fg z.K M H ds vs:=by
 induction q generalizing ds with
 |nil=>cases e;exact .nil
 |@dat d v rs vs r q ih=>
  unfold Ev.v5 at e;cases e2:Ev.v5 rs g with
  |none=>rw[e2]at e;cases e
  |some ds=>rw[e2]at e;cases e;exact .cons (.of r) (ih e2)
 |@var i v rs vs r q ih=>
  unfold Ev.v5 at e;cases e1:Ev.pk (.var i) g with
  |none=>rw[e1]at e;cases e
  |some d=>
   cases e2:Ev.v5 rs g with
   |none=>rw[e1,e2]at e;cases e
   |some ds=>
    rw[e1,e2]at e;cases e;unfold Ev.pk at e1;dsimp only at e1;split at e1
    . rename_i l hg;cases e1;obtain⟨a,xs,h1,h2,h3,h4⟩:=s.sl.at hg;rw[r]at h1;injection h1 with h1;injection h1 with h1;subst h1;exact .cons (.lst h3 h4) (ih e2)
    . rename_i l hg;cases e1;obtain⟨w,h1,h2⟩:=s.sl.uH hg;rw[r]at h1;injection h1 with h1;injection h1 with h1;exact .cons (.of (h1▸h2)) (ih e2)
    . cases e1
noncomputable def qk:List R->Option (List D)
 | []=>some []
 |.dat d::rs=>match qk rs with |some ds=>some (d::ds) |none=>none
 |_::_=>none
theorem uI(q:gQ z O M H rs vs)(e:qk rs=some ds):aH z.K M H ds vs:=by
 induction q generalizing ds with
 |nil=>cases e;exact .nil
 |@dat d v rs vs r q ih=>
  unfold qk at e;cases e2:qk rs with
  |none=>rw[e2]at e;cases e
  |some ds=>rw[e2]at e;cases e;exact .cons r (ih e2)
 |var _ _ _=>cases e
theorem ng(h:n<=16777216):n<=sizeLine:=by rw[yY];exact h
theorem Mx{x1}(h:cI X z es g rs g')(hd:qk rs=some ds)(hl:ds.length<=16777216):az X z (.Tuple es x1 pos) g (.dat (.tup ds)) g':=by
 obtain⟨t,q,k⟩:=h;refine⟨_,yL q,λO Y M H Q s kk=>k O Y M H _ s λvs H' aA M' s' st R=>?_⟩
 have rr:=uI R hd;refine⟨by rw[<- rr.length];exact ng hl,λp hp=>kk _ _ aA M' (s'.laid hp) (st.trans (ao.laid hp)) (.tup (.inl ⟨s'.fresh hp,.inl aE⟩) (rr.stay (ao.laid hp)))⟩
theorem My(h:cI X z es g rs g')(hd:qk rs=some ds)(hl:ds.length<=16777216):az X z (.List es pos) g (.new ds) g':=by
 obtain⟨t,q,k⟩:=h;refine⟨_,Lx q,λO Y M H Q s kk=>k O Y M H _ s λvs H' aA M' s' st R=>?_⟩
 have rr:=uI R hd;refine⟨by rw[<- rr.length];exact ng hl,λp hp=>kk _ _ aA (p::M') (s'.bA hp) (st.trans (ao.bA hp)) ⟨p,vs,rfl,dA,λhA=>s'.fresh hp (s'.sub p hA),s'.eK hp,aE,rr.stay (ao.bA hp)⟩⟩
def CallD(X:Cx)(z:Z)(f:Value)(ds:List D)(res:R):Prop:=
 ∃r,dg X f r/\∀g O Y M H vs Q,S z g O Y M H->Fg z.K M H ds vs->Kn z g O M H res Q->r vs H Q
theorem yZ{x:Str}{id:String}{p:Pos}{es:List Expr}{rs:List R}{ds:List D}(h:cI X z (e::es) g rs g')(hp:v5 rs g'=some ds)(hc:CallD X z (.builtin id) ds r)(hg:Gl X x)(hm:X.mg x=none)(hv:bootBuiltins x=some (.builtin id))(hn:x≠ "__name__")(fY:(x==(~~~3))=false)
  (he:starEach (e::es) X.env=(false,eval e X.env)::starEach es X.env) (cW:(backTo pos (starEach es X.env)).any (·.1)=false):az X z (.Call (.Name x p) (e::es) [] pos) g r g':=by
 obtain⟨t,q,k⟩:=h;obtain⟨rr,c,kc⟩:=hc;exact⟨_,fE c hg hm hv q hn fY he cW,λO Y M H Q s kk=>k O Y M H _ s λvs H' aA M' s' st R=>kc g' O aA M' H' vs Q s' (s'.v5 R hp) λv H2 aO M2 s2 aJ R2=>kk v H2 aO M2 s2 (st.trans aJ) R2⟩
theorem v7(h:cI X z (e::es) g rs g')(hp:v5 rs g'=some ds)(hc:CallD X z (.type T) ds r)(hg:Gl X x)(hm:X.mg x=none)(hv:bootBuiltins x=some (.type T))(hn:x≠ "__name__")(fY:(x==(~~~3))=false)
  (he:starEach (e::es) X.env=(false,eval e X.env)::starEach es X.env) (cW:(backTo pos (starEach es X.env)).any (·.1)=false):az X z (.Call (.Name x p) (e::es) [] pos) g r g':=by
 obtain⟨t,q,k⟩:=h;obtain⟨rr,c,kc⟩:=hc;exact⟨_,mW c hg hm hv q hn fY he cW,λO Y M H Q s kk=>k O Y M H _ s λvs H' aA M' s' st R=>kc g' O aA M' H' vs Q s' (s'.v5 R hp) λv H2 aO M2 s2 aJ R2=>kk v H2 aO M2 s2 (st.trans aJ) R2⟩
end
mutual
noncomputable def gj:D->D->Bool
 |.non,.non=>true
 |.bl a,.bl b=>a==b
 |.bl a,.int j=>(if a then 1 else 0)==j
 |.int i,.bl b=>i==(if b then 1 else 0)
 |.int i,.int j=>i==j
 |.str x,.str y=>x==y
 |.tup l,.tup m=>fz l m
 |.lst l,.lst m=>fz l m
 |.lst l,.fix m=>fz l m
 |.fix l,.lst m=>fz l m
 |.fix l,.fix m=>fz l m
 |_,_=>false
noncomputable def fz:List D->List D->Bool
 | [],[]=>true
 |a::l,b::m=>gj a b&&fz l m
 |_,_=>false
end
mutual
noncomputable def dep:D->Nat
 |.tup l=>deps l+1
 |.lst l=>deps l+1
 |.fix l=>deps l+1
 |_=>0
noncomputable def deps:List D->Nat
 | []=>0
 |d::l=>max (dep d) (deps l)
end
mutual
noncomputable def lP:D->Bool
 |.tup l=>lW l
 |.lst l=>lW l
 |.fix l=>lW l
 |.emp=>false
 |.jE _=>false
 |.vY ..=>false
 |_=>true
noncomputable def lW:List D->Bool
 | []=>true
 |d::l=>lP d&&lW l
end
mutual
inductive Dv(h:Heap):D->Value->Prop
 |non:Dv h .non .none
 |bl (b:Bool):Dv h (.bl b) (.bool b)
 |int (i:Int) (t:Tok):Dv h (.int i) (.int i t)
 |str (x:Str) (t:Tok):Dv h (.str x) (.str x t)
 |tup {l:List D}{a:Addr}{us:List Value}:IsTup h a us.toArray->lX h l us->Dv h (.tup l) (.ref a)
 |lst {l:List D}{a:Addr}{us:List Value}:h.IsList a us.toArray->lX h l us->Dv h (.lst l) (.ref a)
 |fix {l:List D}{a:Addr}{us:List Value}:h.IsList a us.toArray->lX h l us->Dv h (.fix l) (.ref a)
inductive lX(h:Heap):List D->List Value->Prop
 |nil:lX h [] []
 |cons {d:D}{ds:List D}{u:Value}{us:List Value}:Dv h d u->lX h ds us->lX h (d::ds) (u::us)
end
section
theorem Rep.dv2(I: ~~~7)(q:Rep X.K M H d v):∀u,RelV v u->lP d=true->Dv s.heap d u:=by
 refine Rep.rec (motive_2:=λds vs _=>∀us,Vals vs us->lW ds=true->lX s.heap ds us) ?_ ?_ ?_ ?_ ?_ ?_ ?_ ?_ ?_ ?_ ?_ ?_ q
 . intro u r _;cases r;exact .non
 . intro b u r _;cases r;exact .bl b
 . intro i u r _;obtain⟨t,rfl⟩:=r;exact .int i t
 . intro x u r _;obtain⟨t,rfl⟩:=r;exact .str x t
 . intro l a xs h _ ih u r p;cases r;obtain⟨aB,rv,ht,hz⟩:=I.tuple h.sq;exact .tup ht (ih _ rv p)
 . intro l a xs h _ ih u r p;cases r;obtain⟨aB,rv,ht,hz⟩:=I.list (cF.of h.2);exact .lst ht.isList (ih _ rv p)
 . intro l a xs h _ ih u r p;cases r;obtain⟨aB,rv,ht,hz⟩:=I.list h.sq;exact .fix ht.isList (ih _ rv p)
 . intro a _ _ u _ p;exact Bool.noConfusion (show false=true from p)
 . intro C a _ _ _ u _ p;exact Bool.noConfusion (show false=true from p)
 . intro ks ds a vs _ _ _ _ _ u _ p;exact Bool.noConfusion (show false=true from p)
 . intro us r _;cases r;exact .nil
 .
  intro d ds x xs _ _ i1 i2 us r p;cases r with
  |cons r1 r2=>have p:(lP d&&lW ds)=true:=p;rw[eQ]at p;exact .cons (i1 _ r1 p.1) (i2 _ r2 p.2)
theorem Rep.dv(I: ~~~7)(q:Rep X.K M H d v)(r:RelV v u)(p:lP d=true):Dv s.heap d u:=q.dv2 I u r p
theorem aH.dv(I: ~~~7)(q:aH X.K M H ds vs)(r:Vals vs us)(p:lW ds=true):lX s.heap ds us:=by
 induction ds generalizing vs us with
 |nil=>cases q;cases r;exact .nil
 |cons d ds ih=>cases q with |cons q1 q2=>cases r with |cons r1 r2=>have p:(lP d&&lW ds)=true:=p;rw[eQ]at p;exact .cons (q1.dv I r1 p.1) (ih q2 r2 p.2)
theorem Pk.dv(I: ~~~7)(h:Pk X.K M H d v)(r:RelV v u)(p:lP d=true):Dv s.heap d u:=by
 cases h with
 |of q=>exact q.dv I r p
 |lst h q=>cases r;obtain⟨aB,rv,ht,hz⟩:=I.list (cF.of h);exact .lst ht.isList (aH.dv I q rv (by simpa [lP]using p))
end
theorem lX.length(q:lX h l us):l.length=us.length:=by
 induction l generalizing us with
 |nil=>cases q;rfl
 |cons d l ih=>cases q with |cons a b=>exact congrArg (· + 1) (ih b)
theorem v8{h:Heap}{a:Addr}{us ws:List Value}(x:IsTup h a us.toArray)(y:IsTup h a ws.toArray):us=ws:=by obtain⟨o,e,_,n,d⟩:=x;obtain⟨o',e',_,n',d'⟩:=y;rw[e]at e';cases e';rw[d]at d';injection d' with d1 _;simpa using congrArg Array.toList d1
theorem eL{h:Heap}{a:Addr}{us ws:List Value}(x:h.IsList a us.toArray)(y:h.IsList a ws.toArray):us=ws:=by obtain⟨o,e,_,n,d⟩:=x;obtain⟨o',e',_,n',d'⟩:=y;rw[e]at e';cases e';rw[d]at d';injection d' with d1 _;simpa using congrArg Array.toList d1
theorem iF(x:IsTup h a us)(y:h.IsList a ws):False:=by obtain⟨o,e,c,_⟩:=x;obtain⟨o',e',c',_⟩:=y;rw[e]at e';cases e';rw[c]at c';exact absurd c' ⋯
theorem y9{h:Heap}{d1:D}{u:Value}(q:Dv h d1 u):∀d2,Dv h d2 u->gj d1 d2=true:=by
 refine Dv.rec (motive_2:=λl us _=>∀m,lX h m us->fz l m=true) ?_ ?_ ?_ ?_ ?_ ?_ ?_ ?_ ?_ q
 . intro d2 q;cases q;rfl
 . intro b d2 q;cases q;exact beq_self_eq_true b
 . intro i t d2 q;cases q;exact beq_self_eq_true i
 . intro x t d2 q;cases q;exact beq_self_eq_true x
 .
  intro l a us x _ ih d2 q;cases q with
  |tup y q'=>cases v8 x y;exact ih _ q'
  |lst y _=>exact (iF x y).elim
  |fix y _=>exact (iF x y).elim
 .
  intro l a us x _ ih d2 q;cases q with
  |tup y _=>exact (iF y x).elim
  |lst y q'=>cases eL x y;exact ih _ q'
  |fix y q'=>cases eL x y;exact ih _ q'
 .
  intro l a us x _ ih d2 q;cases q with
  |tup y _=>exact (iF y x).elim
  |lst y q'=>cases eL x y;exact ih _ q'
  |fix y q'=>cases eL x y;exact ih _ q'
 . intro m q;cases q;rfl
 .
  intro d ds u us _ _ i1 i2 m q;cases q with
  |@cons d' m _ _ b q'=>show (gj d d'&&fz ds m)=true;rw[i1 _ b,i2 _ q'];rfl
theorem Fj(q:Dv h d1 u)(q':Dv h d2 u):gj d1 d2=true:=y9 q d2 q'
def Kh(l m:List D)(j:Nat):Bool:=match l[j]?,m[j]? with |some a,some b=>gj a b |_,_=>false
theorem ki(l m:List D)(h:l.length=m.length):(List.range l.length).all (Kh l m)=fz l m:=by
 induction l generalizing m with
 |nil=>cases m with
  |nil=>rfl
  |cons _ _=>symm
 |cons a l ih=>cases m with
  |nil=>symm
  |cons b m=>rw[tS,AS,List.all_cons,List.all_map];have e:(Kh (a::l) (b::m) ∘ Nat.succ)=Kh l m:=rfl;rw[e,ih m (AZ h)];rfl
theorem kj(l m:List D)(h:l.length≠m.length):fz l m=false:=by
 induction l generalizing m with
 |nil=>cases m with
  |nil=>exact absurd rfl h
  |cons _ _=>rfl
 |cons a l ih=>cases m with
  |nil=>rfl
  |cons b m=>show (gj a b&&fz l m)=false;rw[ih m (λe=>h (congrArg (· + 1) e)),Bool.and_false]
theorem qm(l m:List D):((List.range (min l.length m.length)).all (Kh l m)&&l.length==m.length)=fz l m:=by
 by_cases h:l.length=m.length
 . rw[h,Nat.min_self,<- h,ki l m h];simp
 .
  rw[kj l m h];have:(l.length==m.length)=false:=by simpa using h
  rw[this,Bool.and_false]
theorem qo{l:List D}{j:Nat}{d:D}(e:l[j]?=some d):dep d<=deps l:=by
 induction l generalizing j with
 |nil=>exact nomatch (show none=some d from e)
 |cons d' l ih=>cases j with
  |zero=>cases (show some d'=some d from e);exact Nat.le_max_left _ _
  |succ j=>exact eM (ih (show l[j]?=some d from e)) (Nat.le_max_right _ _)
theorem lX.get{h:Heap}{l:List D}{us:List Value}{j:Nat}{u:Value}(q:lX h l us)(e:us[j]?=some u):∃d,l[j]?=some d/\Dv h d u:=by
 induction l generalizing us j with
 |nil=>cases q;exact nomatch (show none=some u from e)
 |cons d' l ih=>cases q with |@cons _ _ u' us a b=>cases j with
  |zero=>cases (show some u'=some u from e);exact⟨_,rfl,a⟩
  |succ j=>obtain⟨d,h⟩:=ih b e;exact⟨d,h⟩
theorem in1_units(A:Around):A.in1.units=A.units+1:=rfl
section
theorem iG(hl:s.heap.IsList l us.toArray)(hb:s.heap.IsList b ws.toArray)(q:lX s.heap ls us)(q':lX s.heap ms ws)(hu:A.units<cLine)
  (he:∀(j:Nat) d1 d2 u1 u2,ls[j]?=some d1->Dv s.heap d1 u1->Dv s.heap d2 u2->SeqAt.EqAt A.in1 s u1 u2 (gj d1 d2)):SeqAt.RcAt A s (.ref l) (.ref b) (fz ls ms):=by
 have h1:=q.length;have h2:=q'.length;by_cases h:ls.length=ms.length
 .
  rw[<- ki ls ms h];have e:us.toArray.size=ls.length:=by rw[bP,h1]
  rw[<- e];refine SeqAt.RcAt.lists hl hb (by rw[bP,bP];lia) hu λj g1 g2=>?_
  obtain⟨d1,e1,v1⟩:=q.get (j:=j) (u:=us[j]) (by simp[g1])
  obtain⟨d2,e2,v2⟩:=q'.get (j:=j) (u:=ws[j]) (by simp[g2])
  have:=he j d1 d2 us[j] ws[j] e1 v1 v2;simpa [Kh,e1,e2]using this
 . rw[kj ls ms h];refine SeqAt.RcAt.lists_lengths hl hb ?_ hu;rw[bP,bP];lia
theorem v9(hl:IsTup s.heap l us.toArray)(hb:IsTup s.heap b ws.toArray)(q:lX s.heap ls us)(q':lX s.heap ms ws)(hu:A.units<cLine)
  (he:∀(j:Nat) d1 d2 u1 u2,ls[j]?=some d1->Dv s.heap d1 u1->Dv s.heap d2 u2->SeqAt.EqAt A.in1 s u1 u2 (gj d1 d2)):SeqAt.RcAt A s (.ref l) (.ref b) (fz ls ms):=by
 have h1:=q.length;have h2:=q'.length;have e:us.toArray.size=ls.length:=by rw[bP,h1]
 have e':ws.toArray.size=ms.length:=by rw[bP,h2]
 rw[<- qm,<- e,<- e'];refine SeqAt.RcAt.tuples hl hb hu λj g1 g2=>?_
 obtain⟨d1,e1,v1⟩:=q.get (j:=j) (u:=us[j]) (by simp[g1])
 obtain⟨d2,e2,v2⟩:=q'.get (j:=j) (u:=ws[j]) (by simp[g2])
 have:=he j d1 d2 us[j] ws[j] e1 v1 v2;simpa [Kh,e1,e2]using this
theorem fH(x:Dv s.heap d1 (.ref l))(y:Dv s.heap d2 (.ref b))(h:SeqAt.RcAt A s (.ref l) (.ref b) (gj d1 d2)):SeqAt.EqAt A s (.ref l) (.ref b) (gj d1 d2):=by
 by_cases e:l=b
 . subst e;rw[Fj x y];exact .same _
 . exact .of_refs e h
end
theorem Kl{s:Shared}:∀(n:Nat) {d1 d2:D}{u1 u2:Value}{A:Around},dep d1<=n->Dv s.heap d1 u1->Dv s.heap d2 u2->A.units+n<cLine->SeqAt.EqAt A s u1 u2 (gj d1 d2)/\SeqAt.RcAt A s u1 u2 (gj d1 d2):=by
 intro n
 induction n with
 |zero=>
  intro d1 d2 u1 u2 A hn x y hu;have aK:A.units<cLine:=by lia
  cases x with
  |tup h q=>exact absurd hn (AB _)
  |lst h q=>exact absurd hn (AB _)
  |fix h q=>exact absurd hn (AB _)
  |non=>
   cases y with
   |non=>exact⟨.same _,.none_none⟩
   |bl c'=>exact⟨.none_bool c',.none_bool c'⟩
   |int c' t'=>exact⟨.none_int c' t',.none_int c' t'⟩
   |str c' t'=>exact⟨.none_str c' t',.none_str c' t'⟩
   |tup h' q'=>exact⟨.none_tuple h' aK,.none_tuple h' aK⟩
   |lst h' q'=>exact⟨.none_list h' aK,.none_list h' aK⟩
   |fix h' q'=>exact⟨.none_list h' aK,.none_list h' aK⟩
  |bl c=>
   cases y with
   |non=>exact⟨.bool_none c,.bool_none c⟩
   |bl c'=>exact⟨.bool_bool c c',.bool_bool c c'⟩
   |int c' t'=>exact⟨.bool_int c c' t',.bool_int c c' t'⟩
   |str c' t'=>exact⟨.bool_str c c' t',.bool_str c c' t'⟩
   |tup h' q'=>exact⟨.bool_tuple c h' aK,.bool_tuple c h' aK⟩
   |lst h' q'=>exact⟨.bool_list c h' aK,.bool_list c h' aK⟩
   |fix h' q'=>exact⟨.bool_list c h' aK,.bool_list c h' aK⟩
  |int c t=>
   cases y with
   |non=>exact⟨.int_none c t,.int_none c t⟩
   |bl c'=>exact⟨.int_bool c t c',.int_bool c t c'⟩
   |int c' t'=>exact⟨.int_int c t c' t',.int_int c t c' t'⟩
   |str c' t'=>exact⟨.int_str c t c' t',.int_str c t c' t'⟩
   |tup h' q'=>exact⟨.int_tuple c t h' aK,.int_tuple c t h' aK⟩
   |lst h' q'=>exact⟨.int_list c t h' aK,.int_list c t h' aK⟩
   |fix h' q'=>exact⟨.int_list c t h' aK,.int_list c t h' aK⟩
  |str c t=>
   cases y with
   |non=>exact⟨.str_none c t,.str_none c t⟩
   |bl c'=>exact⟨.str_bool c t c',.str_bool c t c'⟩
   |int c' t'=>exact⟨.str_int c t c' t',.str_int c t c' t'⟩
   |str c' t'=>exact⟨.str_str c t c' t',.str_str c t c' t'⟩
   |tup h' q'=>exact⟨.str_tuple c t h' aK,.str_tuple c t h' aK⟩
   |lst h' q'=>exact⟨.str_list c t h' aK,.str_list c t h' aK⟩
   |fix h' q'=>exact⟨.str_list c t h' aK,.str_list c t h' aK⟩
 |succ n ih=>
  intro d1 d2 u1 u2 A hn x y hu;have aK:A.units<cLine:=by lia
  have el:∀{l:List D},deps l<=n->∀(j:Nat) d1 d2 u1 u2,l[j]?=some d1->Dv s.heap d1 u1->Dv s.heap d2 u2->SeqAt.EqAt A.in1 s u1 u2 (gj d1 d2):=λhl j d1 d2 u1 u2 e v1 v2=>
   (ih (eM (qo e) hl) v1 v2 (by rw[in1_units];lia)).1
  cases x with
  |@tup l0 a0 Z6 h q=>
   have hn':deps l0<=n:=AT hn;have x:=Dv.tup h q;cases y with
   |tup h' q'=>have r:=v9 h h' q q' aK (el hn');exact⟨fH x (.tup h' q') r,r⟩
   |lst h' q'=>exact⟨.tuple_list h h' aK,.tuple_list h h' aK⟩
   |fix h' q'=>exact⟨.tuple_list h h' aK,.tuple_list h h' aK⟩
   |non=>exact⟨.tuple_none h aK,.tuple_none h aK⟩
   |bl b=>exact⟨.tuple_bool b h aK,.tuple_bool b h aK⟩
   |int b t=>exact⟨.tuple_int b t h aK,.tuple_int b t h aK⟩
   |str b t=>exact⟨.tuple_str b t h aK,.tuple_str b t h aK⟩
  |@lst l0 a0 Z6 h q=>
   have hn':deps l0<=n:=AT hn;have x:=Dv.lst h q;cases y with
   |tup h' q'=>exact⟨.list_tuple h h' aK,.list_tuple h h' aK⟩
   |lst h' q'=>have r:=iG h h' q q' aK (el hn');exact⟨fH x (.lst h' q') r,r⟩
   |fix h' q'=>have r:=iG h h' q q' aK (el hn');exact⟨fH x (.fix h' q') r,r⟩
   |non=>exact⟨.list_none h aK,.list_none h aK⟩
   |bl b=>exact⟨.list_bool b h aK,.list_bool b h aK⟩
   |int b t=>exact⟨.list_int b t h aK,.list_int b t h aK⟩
   |str b t=>exact⟨.list_str b t h aK,.list_str b t h aK⟩
  |@fix l0 a0 Z6 h q=>
   have hn':deps l0<=n:=AT hn;have x:=Dv.fix h q;cases y with
   |tup h' q'=>exact⟨.list_tuple h h' aK,.list_tuple h h' aK⟩
   |lst h' q'=>have r:=iG h h' q q' aK (el hn');exact⟨fH x (.lst h' q') r,r⟩
   |fix h' q'=>have r:=iG h h' q q' aK (el hn');exact⟨fH x (.fix h' q') r,r⟩
   |non=>exact⟨.list_none h aK,.list_none h aK⟩
   |bl b=>exact⟨.list_bool b h aK,.list_bool b h aK⟩
   |int b t=>exact⟨.list_int b t h aK,.list_int b t h aK⟩
   |str b t=>exact⟨.list_str b t h aK,.list_str b t h aK⟩
  |non=>
   cases y with
   |non=>exact⟨.same _,.none_none⟩
   |bl c'=>exact⟨.none_bool c',.none_bool c'⟩
   |int c' t'=>exact⟨.none_int c' t',.none_int c' t'⟩
   |str c' t'=>exact⟨.none_str c' t',.none_str c' t'⟩
   |tup h' q'=>exact⟨.none_tuple h' aK,.none_tuple h' aK⟩
   |lst h' q'=>exact⟨.none_list h' aK,.none_list h' aK⟩
   |fix h' q'=>exact⟨.none_list h' aK,.none_list h' aK⟩
  |bl c=>
   cases y with
   |non=>exact⟨.bool_none c,.bool_none c⟩
   |bl c'=>exact⟨.bool_bool c c',.bool_bool c c'⟩
   |int c' t'=>exact⟨.bool_int c c' t',.bool_int c c' t'⟩
   |str c' t'=>exact⟨.bool_str c c' t',.bool_str c c' t'⟩
   |tup h' q'=>exact⟨.bool_tuple c h' aK,.bool_tuple c h' aK⟩
   |lst h' q'=>exact⟨.bool_list c h' aK,.bool_list c h' aK⟩
   |fix h' q'=>exact⟨.bool_list c h' aK,.bool_list c h' aK⟩
  |int c t=>
   cases y with
   |non=>exact⟨.int_none c t,.int_none c t⟩
   |bl c'=>exact⟨.int_bool c t c',.int_bool c t c'⟩
   |int c' t'=>exact⟨.int_int c t c' t',.int_int c t c' t'⟩
   |str c' t'=>exact⟨.int_str c t c' t',.int_str c t c' t'⟩
   |tup h' q'=>exact⟨.int_tuple c t h' aK,.int_tuple c t h' aK⟩
   |lst h' q'=>exact⟨.int_list c t h' aK,.int_list c t h' aK⟩
   |fix h' q'=>exact⟨.int_list c t h' aK,.int_list c t h' aK⟩
  |str c t=>
   cases y with
   |non=>exact⟨.str_none c t,.str_none c t⟩
   |bl c'=>exact⟨.str_bool c t c',.str_bool c t c'⟩
   |int c' t'=>exact⟨.str_int c t c' t',.str_int c t c' t'⟩
   |str c' t'=>exact⟨.str_str c t c' t',.str_str c t c' t'⟩
   |tup h' q'=>exact⟨.str_tuple c t h' aK,.str_tuple c t h' aK⟩
   |lst h' q'=>exact⟨.str_list c t h' aK,.str_list c t h' aK⟩
   |fix h' q'=>exact⟨.str_list c t h' aK,.str_list c t h' aK⟩
section
variable{K:Frag}
theorem Pk.int{i:Int}(h:Pk K M H (.int i) v):v=.int i:=by cases h with |of r=>cases r;rfl
theorem Pk.bl(h:Pk K M H (.bl i) v):v=.bl i:=by cases h with |of r=>cases r;rfl
theorem Pk.str(h:Pk K M H (.str i) v):v=.str i:=by cases h with |of r=>cases r;rfl
theorem Pk.non(h:Pk K M H .non v):v=.non:=by cases h with |of r=>cases r;rfl
theorem Pk.tup{l:List D}(h:Pk K M H (.tup l) v):∃a xs,v=.ref a/\TupAt K M H a xs/\aH K M H l xs:=by cases h with |of r=>cases r with |tup h1 h2=>exact⟨_,_,rfl,h1,h2⟩
theorem Pk.fix{l:List D}(h:Pk K M H (.fix l) v):∃a xs,v=.ref a/\iE K M H a xs/\aH K M H l xs:=by cases h with |of r=>cases r with |fix h1 h2=>exact⟨_,_,rfl,h1,h2⟩
end
section
theorem uJ{f:Value->Value->Sem Value}{k:Int->Int->Int}{i j:Int}(h:jB X f (Dp λi j=>.int (k i j))):lV X z f (.int i) (.int j) (.dat (.int (k i j))):=
 ⟨_,h,λg O Y M H v1 v2 Q s p1 p2 kk=>⟨i,j,p1.int,p2.int,kk _ H Y M s (ao.refl _ _) (.int _)⟩⟩
theorem kr{f:Value->Value->Sem Value}{C:Int->Int->Prop}{k:Int->Int->Int}{i j:Int}(h:jB X f (rI C λi j=>.int (k i j)))(hc:C i j):lV X z f (.int i) (.int j) (.dat (.int (k i j))):=
 ⟨_,h,λg O Y M H v1 v2 Q s p1 p2 kk=>⟨i,j,p1.int,p2.int,hc,kk _ H Y M s (ao.refl _ _) (.int _)⟩⟩
theorem oG{f:Value->Value->Sem Value}{k:Int->Int->Bool}{i j:Int}(h:jB X f (Dp λi j=>.bl (k i j))):lV X z f (.int i) (.int j) (.dat (.bl (k i j))):=
 ⟨_,h,λg O Y M H v1 v2 Q s p1 p2 kk=>⟨i,j,p1.int,p2.int,kk _ H Y M s (ao.refl _ _) (.bl _)⟩⟩
def Tt(z:Z)(d1 d2:D)(b:Bool):R2:=λx y H Q=>(∃M,Pk z.K M H d1 x/\Pk z.K M H d2 y)/\Q (.bl b) H
theorem Tv(hK:z.K=X.K)(p1:lP d1=true)(p2:lP d2=true)(hd:X.A.units+dep d1<cLine):lV X z (compareOp .Eq) d1 d2 (.dat (.bl (gj d1 d2))):=by
 refine⟨Tt z d1 d2 (gj d1 d2),?_,λg O Y M H v1 v2 Q s q1 q2 kk=>⟨⟨M,q1,q2⟩,kk _ H Y M s (ao.refl _ _) (.bl _)⟩⟩
 intro ah s O H x y v u Q I rx ry h;obtain⟨⟨M,q1,q2⟩,q⟩:=h;rw[hK]at q1 q2;exact (Kl (dep d1) (eA _) (q1.dv I rx p1) (q2.dv I ry p2) hd).2 X.prog X.w X.xe _ ⟨.bl _,H,I,rfl,q⟩
section
theorem iH(hl:s.heap.IsList l us.toArray)(hb:s.heap.IsList b ws.toArray)(q:lX s.heap ls us)(q':lX s.heap ms ws)(hu:A.units<cLine)
  (he:∀(j:Nat) d1 d2 u1 u2,ls[j]?=some d1->Dv s.heap d1 u1->Dv s.heap d2 u2->SeqAt.EqAt A.in1 s u1 u2 (gj d1 d2)):SeqAt.RcNeAt A s (.ref l) (.ref b) (!fz ls ms):=by
 have h1:=q.length;have h2:=q'.length;by_cases h:ls.length=ms.length
 .
  rw[<- ki ls ms h];have e:us.toArray.size=ls.length:=by rw[bP,h1]
  rw[<- e];refine SeqAt.RcNeAt.lists hl hb (by rw[bP,bP];lia) hu λj g1 g2=>?_
  obtain⟨d1,e1,v1⟩:=q.get (j:=j) (u:=us[j]) (by simp[g1])
  obtain⟨d2,e2,v2⟩:=q'.get (j:=j) (u:=ws[j]) (by simp[g2])
  have:=he j d1 d2 us[j] ws[j] e1 v1 v2;simpa [Kh,e1,e2]using this
 . rw[kj ls ms h];refine SeqAt.RcNeAt.lists_lengths hl hb ?_ hu;rw[bP,bP];lia
theorem wc(hl:IsTup s.heap l us.toArray)(hb:IsTup s.heap b ws.toArray)(q:lX s.heap ls us)(q':lX s.heap ms ws)(hu:A.units<cLine)
  (he:∀(j:Nat) d1 d2 u1 u2,ls[j]?=some d1->Dv s.heap d1 u1->Dv s.heap d2 u2->SeqAt.EqAt A.in1 s u1 u2 (gj d1 d2)):SeqAt.RcNeAt A s (.ref l) (.ref b) (!fz ls ms):=by
 have h1:=q.length;have h2:=q'.length;have e:us.toArray.size=ls.length:=by rw[bP,h1]
 have e':ws.toArray.size=ms.length:=by rw[bP,h2]
 rw[<- qm,<- e,<- e'];refine SeqAt.RcNeAt.tuples hl hb hu λj g1 g2=>?_
 obtain⟨d1,e1,v1⟩:=q.get (j:=j) (u:=us[j]) (by simp[g1])
 obtain⟨d2,e2,v2⟩:=q'.get (j:=j) (u:=ws[j]) (by simp[g2])
 have:=he j d1 d2 us[j] ws[j] e1 v1 v2;simpa [Kh,e1,e2]using this
end
theorem Tw(x:Dv s.heap d1 u1)(y:Dv s.heap d2 u2)(hu:A.units+dep d1<cLine):SeqAt.RcNeAt A s u1 u2 (!gj d1 d2):=by
 have aK:A.units<cLine:=by lia
 have el:∀{l:List D},deps l+1<=dep d1->∀(j:Nat) d1 d2 u1 u2,l[j]?=some d1->Dv s.heap d1 u1->Dv s.heap d2 u2->SeqAt.EqAt A.in1 s u1 u2 (gj d1 d2):=λhl j e1 e2 u1 u2 e v1 v2=>
  (Kl (dep e1) (eA _) v1 v2 (by rw[in1_units];have:=qo e;lia)).1
 cases x with
 |tup h q=>
  cases y with
  |tup h' q'=>exact wc h h' q q' aK (el (by simp[dep]))
  |lst h' q'=>exact .tuple_list h h' aK
  |fix h' q'=>exact .tuple_list h h' aK
  |non=>exact .tuple_none h aK
  |bl b=>exact .tuple_bool b h aK
  |int b t=>exact .tuple_int b t h aK
  |str b t=>exact .tuple_str b t h aK
 |lst h q=>
  cases y with
  |tup h' q'=>exact .list_tuple h h' aK
  |lst h' q'=>exact iH h h' q q' aK (el (by simp[dep]))
  |fix h' q'=>exact iH h h' q q' aK (el (by simp[dep]))
  |non=>exact .list_none h aK
  |bl b=>exact .list_bool b h aK
  |int b t=>exact .list_int b t h aK
  |str b t=>exact .list_str b t h aK
 |fix h q=>
  cases y with
  |tup h' q'=>exact .list_tuple h h' aK
  |lst h' q'=>exact iH h h' q q' aK (el (by simp[dep]))
  |fix h' q'=>exact iH h h' q q' aK (el (by simp[dep]))
  |non=>exact .list_none h aK
  |bl b=>exact .list_bool b h aK
  |int b t=>exact .list_int b t h aK
  |str b t=>exact .list_str b t h aK
 |non=>
  cases y with
  |non=>exact .none_none
  |bl c'=>exact .none_bool c'
  |int c' t'=>exact .none_int c' t'
  |str c' t'=>exact .none_str c' t'
  |tup h' q'=>exact .none_tuple h' aK
  |lst h' q'=>exact .none_list h' aK
  |fix h' q'=>exact .none_list h' aK
 |bl c=>
  cases y with
  |non=>exact .bool_none c
  |bl c'=>exact .bool_bool c c'
  |int c' t'=>exact .bool_int c c' t'
  |str c' t'=>exact .bool_str c c' t'
  |tup h' q'=>exact .bool_tuple c h' aK
  |lst h' q'=>exact .bool_list c h' aK
  |fix h' q'=>exact .bool_list c h' aK
 |int c t=>
  cases y with
  |non=>exact .int_none c t
  |bl c'=>exact .int_bool c t c'
  |int c' t'=>exact .int_int c t c' t'
  |str c' t'=>exact .int_str c t c' t'
  |tup h' q'=>exact .int_tuple c t h' aK
  |lst h' q'=>exact .int_list c t h' aK
  |fix h' q'=>exact .int_list c t h' aK
 |str c t=>
  cases y with
  |non=>exact .str_none c t
  |bl c'=>exact .str_bool c t c'
  |int c' t'=>exact .str_int c t c' t'
  |str c' t'=>exact .str_str c t c' t'
  |tup h' q'=>exact .str_tuple c t h' aK
  |lst h' q'=>exact .str_list c t h' aK
  |fix h' q'=>exact .str_list c t h' aK
theorem Tz(hK:z.K=X.K)(p1:lP d1=true)(p2:lP d2=true)(hd:X.A.units+dep d1<cLine):lV X z (compareOp .NotEq) d1 d2 (.dat (.bl (!gj d1 d2))):=by
 refine⟨Tt z d1 d2 (!gj d1 d2),?_,λg O Y M H v1 v2 Q s q1 q2 kk=>⟨⟨M,q1,q2⟩,kk _ H Y M s (ao.refl _ _) (.bl _)⟩⟩
 intro ah s O H x y v u Q I rx ry h;obtain⟨⟨M,q1,q2⟩,q⟩:=h;rw[hK]at q1 q2;exact Tw (q1.dv I rx p1) (q2.dv I ry p2) hd X.prog X.w X.xe _ ⟨.bl _,H,I,rfl,q⟩
noncomputable def cM:D->Option (List D)
 |.lst l=>some l
 |.tup l=>some l
 |.fix l=>some l
 |_=>none
theorem Mz(h:l.length+m.length<=16777216):lV X z (binaryOp .Add) (.lst l) (.lst m) (.new (l++m)):=by
 refine⟨_,L0,λg O Y M H v1 v2 Q s q1 q2 kk=>?_⟩
 obtain⟨a,xs,rfl,ha,ra⟩:=q1.list;obtain⟨b,ys,rfl,hb,rb⟩:=q2.list;refine⟨a,b,xs,ys,rfl,rfl,ha,hb,by rw[<- ra.length,<- rb.length];exact ng h,λp hp=>?_⟩
 exact kk _ _ Y (p::M) (s.bA hp) (ao.bA hp) ⟨p,_,rfl,dA,λhA=>s.fresh hp (s.sub p hA),s.eK hp,aE,(ra.append rb).stay (ao.bA hp)⟩
theorem MF(h1 : -(2 ^ 63)<=k)(h2:k<2 ^ 63)(h:l.length * k.toNat<=16777216):lV X z (binaryOp .Mult) (.lst l) (.int k) (.new (List.replicate k.toNat l).flatten):=by
 refine⟨_,L1,λg O Y M H v1 v2 Q s q1 q2 kk=>?_⟩
 obtain⟨a,xs,rfl,ha,ra⟩:=q1.list;have rr:∀n,aH z.K M H (List.replicate n l).flatten (List.replicate n xs).flatten:=λn=>by
  induction n with
  |zero=>simp;exact .nil
  |succ n ih=>rw[sT,sT];exact ra.append ih
 refine⟨a,k,xs,rfl,q2.int,ha,h1,h2,by rw[<- ra.length];exact ng h,λp hp=>?_⟩
 exact kk _ _ Y (p::M) (s.bA hp) (ao.bA hp) ⟨p,_,rfl,dA,λhA=>s.fresh hp (s.sub p hA),s.eK hp,aE,(rr _).stay (ao.bA hp)⟩
def MJ(K:Frag):R2:=λx y H Q=>∃a b xs ys,x=.ref a/\y=.ref b/\ig K H a xs/\ig K H b ys/\xs.length+ys.length<=sizeLine/\
 (xs=[]->Q (.ref b) H)/\(xs≠[]->ys=[]->Q (.ref a) H)/\(xs≠[]->ys≠[]->∀p,H p=none->Q (.ref p) (upd H p (.tup (xs++ys))))
theorem za:jB X (binaryOp .Add) (MJ X.K):=by
 intro ah s O H x y v u Q I rx ry h;obtain⟨a,b,xs,ys,rfl,rfl,ha,hb,hz,q0,q1,q2⟩:=h;by_cases hx:xs=[]
 .
  subst hx;cases rx;cases ry;obtain⟨aB,r1,p1,_⟩:=I.tuple ha;obtain⟨Dn,r2,p2,_⟩:=I.tuple hb;cases r1;obtain⟨⟨cls,dd,data,sl⟩,ho,hc,n,hd⟩:=id p1;obtain⟨⟨XS,dd2,data2,sl2⟩,ho2,hc2,n2,hd2⟩:=id p2;subst hc hd hc2 hd2;exact concat_meets ⟨_,ho,rfl⟩ ⟨_,ho2,rfl⟩ noFill_tuple_add seq_tuple_add AO AI (AG _ _)
   (tuple_addW0 a b #[] Dn.toArray n n2 dd dd2 sl sl2 ⋯) ⟨ho,ho2,⟨.ref b,H,I,rfl,q0 rfl⟩⟩
 . exact El ah s O H (.ref a) (.ref b) v u Q I rx ry ⟨a,b,xs,ys,rfl,rfl,ha,hb,hx,hz,q1 hx,q2 hx⟩
theorem Fo(hK:z.K=X.K)(h:l.length+m.length<=16777216):lV X z (binaryOp .Add) (.tup l) (.tup m) (.dat (.tup (l++m))):=by
 refine⟨_,za,λg O Y M H v1 v2 Q s q1 q2 kk=>?_⟩
 obtain⟨a,xs,rfl,ha,ra⟩:=q1.tup;obtain⟨b,ys,rfl,hb,rb⟩:=q2.tup;have la:=ra.length;have lb:=rb.length;refine⟨a,b,xs,ys,rfl,rfl,hK▸ha.sq,hK▸hb.sq,by rw[<- la,<- lb];exact ng h,λe=>?_,λe1 e2=>?_,λe1 e2 p hp=>?_⟩
 .
  subst e;cases l with
  |nil=>exact kk _ H Y M s (ao.refl _ _) (.tup hb rb)
  |cons _ _=>simp at la
 .
  subst e2;cases m with
  |nil=>rw[nK]at kk;exact kk _ H Y M s (ao.refl _ _) (.tup ha ra)
  |cons _ _=>simp at lb
 . exact kk _ _ Y M (s.laid hp) (ao.laid hp) (.tup (.inl ⟨s.fresh hp,.inl aE⟩) ((ra.append rb).stay (ao.laid hp)))
theorem ku{K:Frag}{M:List Addr}{H:Hp}{l:List D}{xs:List V}{i:Int}{d:D}(r:aH K M H l xs)(h:fj l i=some d):∃v,fj xs i=some v/\Rep K M H d v:=by
 unfold fj at h ⊢
 rw[<- r.length];cases e:rY l.length i with
 |none=>rw[e]at h;symm
 |some j=>rw[e]at h;have h':=h;obtain⟨v,h1,h2⟩:=r.get h';exact⟨v,h1,h2⟩
theorem MK{l:List D}{i:Int}{d:D}(hK:z.K=X.K)(h:fj l i=some d):Q9 X z (.lst l) (.int i) (.dat d):=by
 refine⟨_,uE,λg O Y M H v1 v2 Q s q1 q2 kk=>?_⟩
 obtain⟨a,xs,rfl,ha,ra⟩:=q1.list;obtain⟨v,e,r⟩:=ku ra h;exact⟨a,xs,i,v,rfl,q2.int,cF.of ha,e,kk _ H Y M s (ao.refl _ _) r⟩
theorem MN{l:List D}{i:Int}{d:D}(hK:z.K=X.K)(h:fj l i=some d):Q9 X z (.fix l) (.int i) (.dat d):=by
 refine⟨_,uE,λg O Y M H v1 v2 Q s q1 q2 kk=>?_⟩
 obtain⟨a,xs,rfl,ha,ra⟩:=q1.fix;obtain⟨v,e,r⟩:=ku ra h;exact⟨a,xs,i,v,rfl,q2.int,hK▸ha.sq,e,kk _ H Y M s (ao.refl _ _) r⟩
theorem Fp{l:List D}{i:Int}{d:D}(hK:z.K=X.K)(h:fj l i=some d):Q9 X z (.tup l) (.int i) (.dat d):=by
 refine⟨_,LQ,λg O Y M H v1 v2 Q s q1 q2 kk=>?_⟩
 obtain⟨a,xs,rfl,ha,ra⟩:=q1.tup;obtain⟨v,e,r⟩:=ku ra h;exact⟨a,xs,i,v,rfl,q2.int,hK▸ha.sq,e,kk _ H Y M s (ao.refl _ _) r⟩
noncomputable def dJ:List D->Option (~~~0)
 | []=>some []
 |.int i::l=>match dJ l with |some ns=>some (i::ns) |none=>none
 |_::_=>none
theorem cE{K:Frag}{M:List Addr}{H:Hp}{l:List D}{xs:List V}{ns: ~~~0}(q:aH K M H l xs)(e:dJ l=some ns):xs=ns.map V.int:=by
 induction l generalizing xs ns with
 |nil=>cases q;cases e;rfl
 |cons d l ih=>cases q with |cons r q=>cases d with
  |int i=>
   have e:(match dJ l with |some ns=>some (i::ns) |none=>none)=some ns:=e
   cases e2:dJ l with
   |none=>rw[e2]at e;cases e
   |some ns=>rw[e2]at e;cases e;cases r;rw[List.map_cons,ih q e2]
  |_=>cases e
theorem MP:Z5 X z (unaryOp .USub) (.int i) (.dat (.int (-i))):=⟨_,Lv,λg O Y M H v Q s p k=>⟨i,p.int,k _ H Y M s (ao.refl _ _) (.int _)⟩⟩
end
section
theorem Fg.one{K:Frag}{M:List Addr}{H:Hp}{d:D}{vs:List V}(h:Fg K M H [d] vs):∃v,vs=[v]/\Pk K M H d v:=by cases h with |cons p q=>cases q;exact⟨_,rfl,p⟩
theorem Fg.two{K:Frag}{M:List Addr}{H:Hp}{d e:D}{vs:List V}(h:Fg K M H [d,e] vs):∃v w,vs=[v,w]/\Pk K M H d v/\Pk K M H e w:=by cases h with |cons p q=>cases q with |cons p' q'=>cases q';exact⟨_,_,rfl,p,p'⟩
noncomputable def TF:D->Option Nat
 |.lst l=>some l.length
 |.tup l=>some l.length
 |.fix l=>some l.length
 |_=>none
theorem MT{d:D}{n:Nat}(hK:z.K=X.K)(h:TF d=some n):CallD X z (.builtin "len") [d] ‹n›:=by
 refine⟨_,yK,λg O Y M H vs Q s p k=>?_⟩
 obtain⟨v,rfl,pv⟩:=p.one;refine⟨v,n,rfl,?_,k _ H Y M s (ao.refl _ _) (.int _)⟩;cases d with
 |lst l=>symm;obtain⟨a,xs,rfl,ha,r⟩:=pv.list;exact .inl ⟨xs,cF.of ha,r.length⟩
 |fix l=>symm;obtain⟨a,xs,rfl,ha,r⟩:=pv.fix;exact .inl ⟨xs,hK▸ha.sq,r.length⟩
 |tup l=>symm;obtain⟨a,xs,rfl,ha,r⟩:=pv.tup;exact .inr ⟨xs,hK▸ha.sq,r.length⟩
 |_=>symm
theorem Fq{d:D}{l:List D}(hK:z.K=X.K)(h:cM d=some l):CallD X z (.type "list") [d] (.new l):=by
 refine⟨_,oz,λg O Y M H vs Q s p k=>?_⟩
 obtain⟨v,rfl,pv⟩:=p.one;have fin:∀xs,aH z.K M H l xs->∀p,H p=none->Q (.ref p) (upd H p (.lst xs)):=λxs r p hp=>
  k _ _ Y (p::M) (s.bA hp) (ao.bA hp) ⟨p,xs,rfl,dA,λhA=>s.fresh hp (s.sub p hA),s.eK hp,aE,r.stay (ao.bA hp)⟩
 cases d with
 |lst m=>symm;obtain⟨a,xs,rfl,ha,r⟩:=pv.list;exact⟨a,xs,rfl,.inl (cF.of ha),fin xs r⟩
 |fix m=>symm;obtain⟨a,xs,rfl,ha,r⟩:=pv.fix;exact⟨a,xs,rfl,.inl (hK▸ha.sq),fin xs r⟩
 |tup m=>symm;obtain⟨a,xs,rfl,ha,r⟩:=pv.tup;exact⟨a,xs,rfl,.inr (hK▸ha.sq),fin xs r⟩
 |_=>symm
theorem zb{d:D}{l:List D}(hK:z.K=X.K)(h:cM d=some l):CallD X z (.type "tuple") [d] (.dat (.tup l)):=by
 refine⟨_,lU,λg O Y M H vs Q s p k=>?_⟩
 obtain⟨v,rfl,pv⟩:=p.one;have fin:∀xs,aH z.K M H l xs->∀p,H p=none->Q (.ref p) (upd H p (.tup xs)):=λxs r p hp=>
  k _ _ Y M (s.laid hp) (ao.laid hp) (.tup (.inl ⟨s.fresh hp,.inl aE⟩) (r.stay (ao.laid hp)))
 cases d with
 |lst m=>symm;obtain⟨a,xs,rfl,ha,r⟩:=pv.list;exact⟨a,xs,rfl,.inl ⟨cF.of ha,fin xs r⟩⟩
 |fix m=>symm;obtain⟨a,xs,rfl,ha,r⟩:=pv.fix;exact⟨a,xs,rfl,.inl ⟨hK▸ha.sq,fin xs r⟩⟩
 |tup m=>symm;obtain⟨a,xs,rfl,ha,r⟩:=pv.tup;exact⟨a,xs,rfl,.inr ⟨hK▸ha.sq,k _ H Y M s (ao.refl _ _) (.tup ha r)⟩⟩
 |_=>symm
theorem M7{i j:Int}(hc:X.calm=true):CallD X z (.builtin "max") [.int i,.int j] (.dat (.int (if j > i then j else i))):=by
 refine⟨_,vQ hc,λg O Y M H vs Q s p k=>?_⟩
 obtain⟨v,w,rfl,p1,p2⟩:=p.two;exact⟨i,j,by rw[p1.int,p2.int],k _ H Y M s (ao.refl _ _) (.int _)⟩
theorem M8{i j:Int}(hc:X.calm=true):CallD X z (.builtin "min") [.int i,.int j] (.dat (.int (if j<i then j else i))):=by
 refine⟨_,vR hc,λg O Y M H vs Q s p k=>?_⟩
 obtain⟨v,w,rfl,p1,p2⟩:=p.two;exact⟨i,j,by rw[p1.int,p2.int],k _ H Y M s (ao.refl _ _) (.int _)⟩
end
section
theorem kB(hc:X.calm=true):dg X (.builtin "all") (λxs H Q=>∃(p:Addr) (bs:List Bool),xs=[.ref p]/\cF X.K H p (bs.map V.bl)/\Q (.bl (bs.all id)) H):=by
 intro ah s O H xs us Q I r h;obtain⟨p,bs,rfl,hp,q⟩:=h;obtain⟨u,rfl,rx⟩:=vals1 r;cases rx;obtain⟨aB,rv,pl,hz⟩:=I.list hp;have nX:p<s⁻¹:=by obtain⟨_,e,_⟩:=pl.isList;exact dL e
 have aQ:aB.length=bs.length:=by rw[<- rv.length,eC]
 have up:∀b o,s.heap.get? b=some o->(s.heap.push { cls:=.type "list_iterator",data:=.fields #[.ref p,.int 0 0]}).get? b=some o:=λb o e=>a7 _ e
 refine call_all_walk (v6 pl.isList ?_);refine⟨s⁻¹,_,_,_,_,_,λi=>bs.getD i true,rfl,Walks.list (show X.A.in1.handled=none from I.ok.hd hc) s⁻¹ p (fN nX) aB.toArray,⟨⟨_,dC _ rfl,rfl,rfl⟩,pl.isList.push _⟩,?_,λh' tk hk=>?_⟩
 .
  intro i v s' Q' E' hv hq;have hv':aB[i]?=some v:=by simpa using hv
  have hi:i<bs.length:=by rw[<- aQ];exact (a9.mp hv').1
  obtain⟨w,e1,e2⟩:=rv.get (i:=i) (x:=V.bl bs[i]) (by simp[hi])
  rw[hv']at e1;cases e1;cases e2;refine l7 ?_;have:bs.getD i true=bs[i]:=by simp[hi]
  rw[<- this];exact hq
 .
  have I1:L2.Inv X ah O H { s with heap:=h',toks:=tk}:=I.kept λb o e=>hk b o (λhm=>by
   have:b=s⁻¹:=by simpa using hm
   exact absurd (dL e) (by rw[this];exact nS _)) (up b o e)
  refine⟨.bl (bs.all id),H,I1,?_,q⟩;have e:(List.range aB.toArray.size).all (λi=>bs.getD i true)=bs.all id:=by
   rw[bP,aQ];rw[Bool.eq_iff_iff];simp only[i5,B3];constructor
   . intro h b hb;obtain⟨j,hj⟩:=List.getElem?_of_mem hb;have hj':=(a9.mp hj).1;have:=h j hj';simpa [List.getD,hj]using this
   . intro h i hi;have:=h bs[i] (List.getElem_mem hi);simpa [List.getD,hi]using this
  rw[e];rfl
noncomputable def qu:List D->Option (List Bool)
 | []=>some []
 |.bl b::l=>match qu l with |some bs=>some (b::bs) |none=>none
 |_::_=>none
theorem zc{K:Frag}{M:List Addr}{H:Hp}{l:List D}{xs:List V}{ns:List Bool}(q:aH K M H l xs)(e:qu l=some ns):xs=ns.map V.bl:=by
 induction l generalizing xs ns with
 |nil=>cases q;cases e;rfl
 |cons d l ih=>cases q with |cons r q=>cases d with
  |bl i=>
   have e:(match qu l with |some ns=>some (i::ns) |none=>none)=some ns:=e
   cases e2:qu l with
   |none=>rw[e2]at e;cases e
   |some ns=>rw[e2]at e;cases e;cases r;rw[List.map_cons,ih q e2]
  |_=>cases e
theorem M9{l:List D}{bs:List Bool}(hc:X.calm=true)(h:qu l=some bs):CallD X z (.builtin "all") [.lst l] (.dat (.bl (bs.all id))):=by
 refine⟨_,kB hc,λg O Y M H vs Q s p k=>?_⟩
 obtain⟨v,rfl,pv⟩:=p.one;obtain⟨a,xs,rfl,ha,r⟩:=pv.list;have e:=zc r h;subst e;exact⟨a,bs,rfl,cF.of ha,k _ H Y M s (ao.refl _ _) (.bl _)⟩
end
noncomputable def lQ:D->String
 |.non=> "NoneType" |.bl _=> "bool" |.int _=> "int" |.str _=> "str" |.tup _=> "tuple" |.lst _=> "list" |.fix _=> "list" |.emp=> "dict" |.jE _=> "" |.vY ..=> "dict"
def x9:D->Value
 |.jE C=>.ref C
 |d=>.type (lQ d)
theorem wg{M:Model}{A:Around}{E:Value->Shared->Prop}{K:Frag}{x C:Addr}{ox:Obj}{nv:Value}{Q:Unit->Shared->Prop}{s:Shared}(X:K.In s.heap)(I:PySem.W.InstAt s.heap x ox C none)(hb:PySem.W.mroIn K C (.type "BaseException")=some true)(hq:Q () s) :
  wpAny M A (checkBuiltinCall "BaseException.__getattribute__" ⟨[.ref x,nv],[]⟩) Q E s:=by
 have kd:builtinKind "BaseException.__getattribute__"=some .slot:=by decide +kernel
 have sd:splitId "BaseException.__getattribute__"=some ("BaseException", "__getattribute__"):=by decide +kernel
 obtain⟨hv,ge,dr,tk,o'⟩:=s;have l0:=I.type (M:=M);have l1:=PySem.W.looks_mroIn (M:=M) X hb;simp only[checkBuiltinCall];refine aS (aS (l0.at (l1.at ?_)))
 repeat (any_goals (first |assumption |wp_step))
theorem zg{prog:Program}{w:World}{A:Around}{E:Value->Shared->Prop}{K:Frag}{x C:Addr}{ox:Obj}{name:Str}{g a:Value}{Q:Option Value->Shared->Prop}{s:Shared}(X:K.In s.heap)(I:PySem.W.InstAt s.heap x ox C none)
  (hga:PySem.W.findIn K (.ref C) "__getattribute__"=some (some (.builtin "BaseException.__getattribute__"))) (hk:PySem.W.findIn K (.ref C) "__getattr__"=some none) (hb:PySem.W.mroIn K C (.type "BaseException")=some true) (hf:PySem.W.findObj K C none name=some (.bind g a))
  (h:wpAny (model prog w) A.in1 (call g [a,.ref x,.ref C]) (λv s'=>wpAny (model prog w) A (handedOut v) (λv s''=>Q (some v) s'') (λ_ _=>False) s') (λ_ _=>False) { s with toks:=s.toks+1}) :
  wpAny (model prog w) A (getAttr? (.ref x) name) Q E s:=by
 obtain⟨hv,ge,dr,tk,o'⟩:=s;have l0:=I.type (M:=model prog w);have l1:=PySem.W.looks_findIn (M:=model prog w) X hga;have l2:=PySem.W.looks_findIn (M:=model prog w) X hk;have l3:=PySem.W.looks_find (M:=model prog w) X I hf;have f3:=F.excAttr_ValueError.ga.bind (.ref x);refine aS (wpAny_mkText (aS (wpAny_attempt (mB (aS (l0.at (aS (l1.at ?_))))))));refine aS (l2.at (aS (wpAny_attempt (mB ?_))));show wpAny _ _ (boundAndCalled _ _ _) _ _ _;unfold boundAndCalled;refine aS (dS (BH (codeAny_call_builtin F.excAttr_ValueError.ga.plain F.entry_bexc_ga (wg X I hb ?_))));refine aS (dS (aS (dS (aS (l0.at (aS (l3.at ?_)))))));refine aS (mB (hZ h (λv s' z=>dS ?_) λ_ _ z=>z.elim))
 exact hZ z (λv s'' hv=>dS hv) (λ_ _ z=>z.elim)
theorem jh{K:Frag}{C:Addr}(k:Dq K C):∃c d cd sl,K.lookup C=some ⟨c,d,.cls cd,sl⟩/\PySem.W.clsIn K C=some cd:=by
 obtain⟨cd,hc,_⟩:=PySem.W.any_some k.dct;have hc':=hc;unfold PySem.W.clsIn at hc;split at hc
 . rename_i c d cd' sl ho;cases hc;exact⟨c,d,cd,sl,ho,hc'⟩
 . cases hc
theorem qw{K:Frag}{x C:Addr}(k:Dq K C):PySem.W.KitX K (.ref x) (.ref C) (λh=>∃ox,PySem.W.InstAt h x ox C none) where
 ty:=by rintro _ _ _ ⟨_,I⟩;exact I.type
 it:=λ_ _ X _=>by
  obtain⟨c,d,cd,sl,ho,_⟩:=jh k;intro A' Q' E' s' kp q;refine aS ?_;refine wpAny_loadPart (kp _ _ (X _ _ ho)) ?_;exact dS q
 ne:=λh tp dd aB n sl X htp=>by
  obtain⟨c,d,cd,Wq,ho,_⟩:=jh k;cases q:(Value.ref C==Value.ref tp)with
  |false=>rfl
  |true=>have e:=Value.ref.inj (beq_iff_eq.mp q);subst e;have y:=(X _ _ ho).symm.trans htp;cases y
 ca:=λ{prog w A E Q s} X ⟨ox,I⟩ h=>by
  obtain⟨_,_,cd,_,_,hc⟩:=jh k;have hf:PySem.W.findObj K C none "__class__"=some (.bind (.builtin "getset_descriptor.__get__") (.builtin "object.__class__")):=by unfold PySem.W.findObj;rw[hc,k.cls];simp[k.spc,k.tks]
  refine zg X I k.gga k.cO k.bas hf (BH ?_);exact PySem.W.class_get X I k.mro (PySem.W.handed_on rfl h)
section
theorem zh(I:L2.Inv X ah O H s)(p:Pk X.K M H d v)(r:RelV v u)
  (e:PySem.W.kitOne X.K (x9 d) c=some b) (h:∀tk,Q (.bool b) { s with toks:=tk}):wpAny (~~~2) A (call (.builtin "isinstance") [u,c]) Q E s:=by
 cases d with
 |non=>have q:=p.non;subst q;cases r;exact oQ PySem.W.kitx_none I.jL True.intro e (λz=>nomatch z) h
 |bl y=>have q:=p.bl;subst q;cases r;exact oQ PySem.W.kitx_bool I.jL True.intro e (λz=>nomatch z) h
 |int i=>have q:=p.int;subst q;obtain⟨t,rfl⟩:=r;exact oQ PySem.W.kitx_int I.jL True.intro e (λz=>nomatch z) h
 |str y=>have q:=p.str;subst q;obtain⟨t,rfl⟩:=r;exact oQ PySem.W.kitx_str I.jL True.intro e (λz=>nomatch z) h
 |tup l=>obtain⟨a,xs,rfl,ha,_⟩:=p.tup;cases r;obtain⟨aB,_,⟨o,h1,h2,_⟩,_⟩:=I.tuple ha.sq;exact oQ PySem.W.kitx_tuple I.jL ⟨o,h1,h2⟩ e (λz=>nomatch z) h
 |lst l=>obtain⟨a,xs,rfl,ha,_⟩:=p.list;cases r;obtain⟨aB,_,pl,_⟩:=I.list (cF.of ha);obtain⟨o,h1,h2,_⟩:=pl.isList;exact oQ AU I.jL ⟨o,h1,h2⟩ e (λz=>nomatch z) h
 |fix l=>obtain⟨a,xs,rfl,ha,_⟩:=p.fix;cases r;obtain⟨aB,_,pl,_⟩:=I.list ha.sq;obtain⟨o,h1,h2,_⟩:=pl.isList;exact oQ AU I.jL ⟨o,h1,h2⟩ e (λz=>nomatch z) h
 |emp=>
  cases p with
  |of q=>
   cases q with
   |emp _ ha=>cases r;obtain⟨_,_,vs,_,o,es,ep,h1,h2,_⟩:=I.hok _ _ ha;exact oQ AV I.jL ⟨o,h1,h2.1⟩ e (λz=>nomatch z) h
 |jE C=>
  cases p with
  |of q=>
   cases q with
   |jE k _ ha=>cases r;obtain⟨⟨o,h1,h2,h3,h4⟩,_⟩:=I.hok _ _ ha;exact oQ (qw k) I.jL ⟨o,h1,h2,h3,by rw[h4];trivial⟩ e (λz=>nomatch z) h
 |vY ks ds=>
  cases p with
  |of q=>
   cases q with
   |vY _ ha _ _=>cases r;obtain⟨_,_,vs,_,o,es,ep,h1,h2,_⟩:=I.hok _ _ ha;exact oQ AV I.jL ⟨o,h1,h2.1⟩ e (λz=>nomatch z) h
theorem zj:dg X (.builtin "isinstance") (λxs H Q=>∃x n M d b,xs=[x,.ty n]/\Pk X.K M H d x/\PySem.W.kitOne X.K (x9 d) (.type n)=some b/\Q (.bl b) H):=by intro ah s O H xs us Q I r h;obtain⟨x,n,M,d,b,rfl,p,e,q⟩:=h;obtain⟨u,w',rfl,r1,r2⟩:=vals2 r;cases r2;exact zh I p r1 e λtk=>⟨.bl b,H,I.tok tk,rfl,q⟩
theorem Nb(hK:z.K=X.K)(h:az X z a g r1 g1)(hp:pk r1 g1=some d)(he:∀M H v,Pk X.K M H d v->PySem.W.kitOne X.K (x9 d) (.type n)=some b)
  (hg:Gl X "isinstance") (hm:X.mg "isinstance"=none) (hv:bootBuiltins "isinstance"=some (.builtin "isinstance")) (gT:Gl X T) (mT:X.mg T=none) (vT:bootBuiltins T=some (.type n)) (nT:T≠ "__name__") (dT:(T==(~~~3))=false)
  (hs:starEach [a,.Name T pT] X.env=(false,eval a X.env)::starEach [.Name T pT] X.env):az X z (.Call (.Name "isinstance" p) [a,.Name T pT] [] pos) g (.dat (.bl b)) g1:=by
 obtain⟨t,q,k⟩:=h;have Yn:PE X (.Name T pT) (tC (.ty n)):=n6 gT mT vT rfl nT dT;refine⟨_,fE zj hg hm hv (bQ q (bQ Yn jf) hs) ⋯ ⋯ hs,λO Y M H Q s kk=>k O Y M H _ s λv H' aA M' s' st R=>?_⟩
 have p:=hK▸s'.pk (ao.refl _ _) R hp;exact⟨v,n,M',d,b,rfl,p,he _ _ _ p,kk _ H' aA M' s' st (.bl b)⟩
end
inductive Fl where
 |nx |rt (r:R) |bk |ct
def nh(z:Z)(M:List Addr)(H:Hp)(E:Ends)(g':G):Fl->Prop
 |.nx=>∀σ' aA M' H',S z g' σ' aA M' H'->ao M H M' H'->E.nx σ' H'
 |.bk=>∀σ' aA M' H',S z g' σ' aA M' H'->ao M H M' H'->E.bk σ' H'
 |.ct=>∀σ' aA M' H',S z g' σ' aA M' H'->ao M H M' H'->E.ct σ' H'
 |.rt r=>∀v σ' aA M' H',S z g' σ' aA M' H'->ao M H M' H'->cH z g' σ' aA M' H' r v->E.rt v H'
def eS(X:Cx)(z:Z)(st:Stmt)(g:G)(f:Fl)(g':G):Prop:=
 ∃t,PS X st t/\∀O Y M H E,S z g O Y M H->nh z M H E g' f->t E O H
def bZ(X:Cx)(z:Z)(fZ:List Stmt)(g:G)(f:Fl)(g':G):Prop:=
 ∃t,n5 X fZ t/\∀O Y M H E,S z g O Y M H->nh z M H E g' f->t E O H
section
variable{st:Stmt}
theorem nh.trans(st:ao M H M1 H1)(h:nh z M H E g' f):nh z M1 H1 E g' f:=by
 cases f with
 |nx=>exact λσ' aA M' H' s' st'=>h σ' aA M' H' s' (st.trans st')
 |bk=>exact λσ' aA M' H' s' st'=>h σ' aA M' H' s' (st.trans st')
 |ct=>exact λσ' aA M' H' s' st'=>h σ' aA M' H' s' (st.trans st')
 |rt r=>exact λv σ' aA M' H' s' st' R=>h v σ' aA M' H' s' (st.trans st') R
theorem Nc:bZ X z [] g .nx g:=⟨_,DT,λO Y M H E s k=>k O Y M H s (ao.refl _ _)⟩
theorem Ft(h1:eS X z st g .nx g1)(h2:bZ X z fZ g1 f g2):bZ X z (st::fZ) g f g2:=by obtain⟨t1,q1,k1⟩:=h1;obtain⟨t2,q2,k2⟩:=h2;exact⟨_,cS q1 q2,λO Y M H E s k=>k1 O Y M H _ s λσ' aA M' H' s' st'=>k2 σ' aA M' H' E s' (k.trans st')⟩
theorem Ng(h1:eS X z st g (.rt r) g1):bZ X z (st::fZ) g (.rt r) g1:=by obtain⟨t1,q1,k1⟩:=h1;exact⟨_,cS q1 bf,λO Y M H E s k=>k1 O Y M H _ s k⟩
theorem Nh(h1:eS X z st g .bk g1):bZ X z (st::fZ) g .bk g1:=by obtain⟨t1,q1,k1⟩:=h1;exact⟨_,cS q1 bf,λO Y M H E s k=>k1 O Y M H _ s k⟩
theorem Ni(h1:eS X z st g .ct g1):bZ X z (st::fZ) g .ct g1:=by obtain⟨t1,q1,k1⟩:=h1;exact⟨_,cS q1 bf,λO Y M H E s k=>k1 O Y M H _ s k⟩
theorem Nj(h:az X z e g r g1):eS X z (.Return (some e) pos) g (.rt r) g1:=by obtain⟨t,q,k⟩:=h;exact⟨_,yC q,λO Y M H E s kk=>k O Y M H _ s λv H' aA M' s' st R=>kk v O aA M' H' s' st R⟩
theorem Fv(h:az X z e g r g1)(hs:swapsWith e none pos.line X.env=pure false):eS X z (.Expr e pos) g .nx g1:=by obtain⟨t,q,k⟩:=h;exact⟨_,ux q hs,λO Y M H E s kk=>k O Y M H _ s λv H' aA M' s' st R=>kk O aA M' H' s' st⟩
theorem Km(h:bL X z c g v g1)(h2:bZ X z (if v then a else b) g1 f g2):eS X z (.If c a b pos) g f g2:=by
 obtain⟨t,q,k⟩:=h;obtain⟨t2,q2,k2⟩:=h2;cases v with
 |true=>exact⟨_,qa q q2 bf,λO Y M H E s kk=>k O Y M H _ s λH' aA M' s' st=>jD (k2 O aA M' H' E s' (kk.trans st))⟩
 |false=>exact⟨_,qa q bf q2,λO Y M H E s kk=>k O Y M H _ s λH' aA M' s' st=>oA (k2 O aA M' H' E s' (kk.trans st))⟩
theorem Fw(hN:X.N.Nodup)(hi:X.N[i]?=some x)(hx:Loc X.env.scope x)(h:az X z e g (.dat d) g1)(hs:swapsWith e (some (.Name x pos')) pos.line X.env=pure false)(hf:X.fn x=true\/X.env.scope.names.lookup x=some .local)(hb:i∉z.bor) :
  eS X z (.Assign [.Name x pos'] e pos) g .nx (g1.set i (.dat d)):=by
 obtain⟨t,q,k⟩:=h;refine⟨_,jY hN hi hx q hs hf,λO Y M H E s kk=>k O Y M H _ s λv H' aA M' s' st R=>?_⟩
 obtain⟨aO,s2⟩:=s'.gP hb R;exact kk _ aO M' H' s2 st
theorem Fy(hN:X.N.Nodup)(hi:X.N[i]?=some x)(hx:Loc X.env.scope x)(h:az X z e g (.new l) g1)(hl:i<g1.length)(hs:swapsWith e (some (.Name x pos')) pos.line X.env=pure false)(hf:X.fn x=true\/X.env.scope.names.lookup x=some .local)(hb:i∉z.bor) :
  eS X z (.Assign [.Name x pos'] e pos) g .nx (g1.set i (.own l)):=by
 obtain⟨t,q,k⟩:=h;refine⟨_,jY hN hi hx q hs hf,λO Y M H E s kk=>k O Y M H _ s λv H' aA M' s' st R=>?_⟩
 obtain⟨a,xs,rfl,hm,hA,h0,ha,rr⟩:=R;obtain⟨aO,s2⟩:=s'.oF hb hl hm hA h0 ha rr;exact kk _ aO M' H' s2 st
end
def Yo(X:Cx)(fZ:List Stmt):TS:=λE O H=>∃t,n5 X fZ t/\t E O H
theorem jO{X:Cx}{fZ:List Stmt}:n5 X fZ (Yo X fZ):=λah s O H E I h=>let ⟨t,q,k⟩:=h;q ah s O H E I k
section
theorem drop_cons{α:Type}{l:List α}{n:Nat}{a:α}(h:l[n]?=some a):l.drop n=a::l.drop (n+1):=by obtain⟨h1,h2⟩:=a9.mp h;rw[List.drop_eq_getElem_cons h1,h2]
end
noncomputable def fJ(lo:Int)(n:Nat):List D:=(List.range n).map λ(k:Nat)=>D.int (lo+(k:Int))
section
theorem zm{lo:Int}{n k:Nat}(h:k<n):(fJ lo n)[k]?=some (.int (lo+(k:Int))):=by unfold fJ;rw[nE,BO h];rfl
theorem qz{lo:Int}{n:Nat}:(fJ lo n).length=n:=by unfold fJ;simp
theorem wj(h:cI X z [a] g [‹j›] g1)(hg:Gl X "range")(hm:X.mg "range"=none)(hs:starEach [a] X.env=[(false,eval a X.env)])(h1 : -(2 ^ 62)<=j)(h2:j<2 ^ 62) :
  ∃wi,PI X tg (.Call (.Name "range" p) [a] [] rp) wi/\∀O Y M H (Q:It->Hp->Prop),S z g O Y M H->(∀H' aA M',S z g1 O aA M' H'->ao M H M' H'->Q (Li 0 j.toNat) H')->wi O H Q:=by
 obtain⟨t,q,k⟩:=h;refine⟨_,vM hg hm q hs,λO Y M H Q s kk=>k O Y M H _ s λvs H' aA M' s' st R=>?_⟩
 cases R with
 |dat r R=>cases R;cases r;exact⟨j,rfl,h1,h2,kk H' aA M' s' st⟩
theorem wm(h:cI X z [a,b] g [‹c›,‹j›] g1)(hg:Gl X "range")(hm:X.mg "range"=none)(hs:starEach [a,b] X.env=[(false,eval a X.env),(false,eval b X.env)])(hs2:starEach [b] X.env=[(false,eval b X.env)])
  (h1 : -(2 ^ 62)<=c/\c<2 ^ 62/\-(2 ^ 62)<=j/\j<2 ^ 62) {tg:Expr} :
  ∃wi,PI X tg (.Call (.Name "range" p) [a,b] [] rp) wi/\∀O Y M H (Q:It->Hp->Prop),S z g O Y M H->(∀H' aA M',S z g1 O aA M' H'->ao M H M' H'->Q (Li c (j - c).toNat) H')->wi O H Q:=by
 obtain⟨t,q,k⟩:=h;refine⟨_,vN hg hm q hs hs2,λO Y M H Q s kk=>k O Y M H _ s λvs H' aA M' s' st R=>?_⟩
 cases R with
 |dat r R=>cases R with |dat r2 R=>cases R;cases r;cases r2;exact⟨c,j,rfl,h1,kk H' aA M' s' st⟩
end
section
theorem wu(hN:X.N[i]?=some x)(hv:rZ X.env.scope x)(hd:(x==(~~~3))=false)(cB:(x==("__classdict__":Str))=false)(hg:g[i]?=some (.own l0))(h:cI X z [e] g [.dat d] g1)(Ra:g1[i]?=some (.own l))(hl:l.length<16777216)
  (hbase:attributeBase (.Name x pn) "append" X.env (eval (.Name x pn) X.env)=eval (.Name x pn) X.env)
  (hfew:((backTo cC (starEach [e] X.env)).all (λx=>!x.1)&&(backToKw cC (keywordEach [] X.env)).all (λx=>x.1.isSome)
   && decide ([e].length+([]:List Keyword).length+(if ([]:List Keyword).isEmpty then 0 else 1)<30))=true)
  (hline:(d8.endLine==cC.line)=true) (hs:starEach [e] X.env=(false,eval e X.env)::starEach [] X.env):az X z (.Call (.Attribute (.Name x pn) "append" d8) [e] [] cC) g (.dat .non) (g1.set i (.own (l++[d]))):=by
 obtain⟨t,q,k⟩:=h;refine⟨_,SQ PySem.F.plainAttrs_list PySem.F.slot_list_append PySem.F.type_list_append mX (jd hN hv hd cB) q hbase hfew hline hs rfl,λO Y M H Q s kk=>?_⟩
 obtain⟨a,xs,e1,e2,e3,e4⟩:=s.sl.at hg;refine⟨.ref a,e1,.inl ⟨rfl,xs,cF.of e3⟩,k O Y M H _ s λvs H' aA M' s' st R=>?_⟩
 obtain⟨b,ys,f1,f2,f3,f4⟩:=s'.sl.at Ra;rw[e1]at f1;injection f1 with f1;injection f1 with f1;injection f1 with f1;subst f1;cases R with
 |dat r R=>
  cases R;refine⟨a,ys,_,rfl,rfl,f3,by rw[<- f4.length];exact hl,?_⟩
  obtain⟨s2,aJ⟩:=s'.write Ra e1 (f4.append (.cons r .nil));exact kk _ _ aA M' s2 (st.trans aJ) .non
end
section
theorem Fz(hN:X.N[i]?=some x)(hv:rZ X.env.scope x)(hd:(x==(~~~3))=false)(cB:(x==("__classdict__":Str))=false)(h:az X z e g (.dat d) g1)(Ra:g1[i]?=some (.own l0))(h2:az X z ix g1 ‹k› g2)(TJ:g2[i]?=some (.own l))(hj:rY l.length k=some j)
  (ha:∀v,assign (.Subscript (.Name x pn) ix fQ) X.env v=(do
   let ov <- holding [v] (eval (.Name x pn) X.env)
   let iv <- holding [v,ov] (eval ix X.env)
   standAt fQ
   holding [v,ov,iv] (setItem ov iv v)
   release [v,ov,iv] []))
  (hs:swapsWithSole [.Subscript (.Name x pn) ix fQ] e pos.line X.env=pure false) (hw:swappedStores [.Subscript (.Name x pn) ix fQ] e X.env=pure none)
  (h1:(assignEach [.Subscript (.Name x pn) ix fQ] X.env).map (·.2)=[assign (.Subscript (.Name x pn) ix fQ) X.env]) :
  eS X z (.Assign [.Subscript (.Name x pn) ix fQ] e pos) g .nx (g2.set i (.own (l.set j d))):=by
 obtain⟨t,q,kk⟩:=h;obtain⟨t2,q2,k2⟩:=h2;refine⟨_,Lf q (Ld (jd hN hv hd cB) q2 set_list ha) hs hw h1,λO Y M H E s kE=>kk O Y M H _ s λv H1 aL M1 s1 cR R1=>?_⟩
 obtain⟨a,xs,e1,e2,e3,e4⟩:=s1.sl.at Ra;refine⟨.ref a,e1,k2 O aL M1 H1 _ s1 λw H2 aO M2 s2 aJ R2=>?_⟩
 obtain⟨b,ys,f1,f2,f3,f4⟩:=s2.sl.at TJ;rw[e1]at f1;injection f1 with f1;injection f1 with f1;injection f1 with f1;subst f1;have R2':=R2;cases R2';refine⟨a,ys,k,j,rfl,rfl,f3,by rw[<- f4.length];exact hj,?_⟩
 obtain⟨s3,fC⟩:=s2.write TJ e1 (aH.set (Rep.stay aJ R1) j f4);exact kE O aO M2 _ s3 (cR.trans (aJ.trans fC))
end
noncomputable def bM:List R->G->Option G
 | [],_=>some []
 |.dat d::rs,g=>match bM rs g with |some gs=>some (.dat d::gs) |none=>none
 |.var i::rs,g=>match g[i]? with
  |some (.own l)=>match bM rs g with |some gs=>some (.own l::gs) |none=>none
  |_=>none
 |.new _::_,_=>none
noncomputable def vars:Nat->List R->List (Nat×Nat)
 |_,[]=>[]
 |j,.var i::rs=>(j,i)::vars (j+1) rs
 |j,.dat _::rs=>vars (j+1) rs
 |j,.new _::rs=>vars (j+1) rs
noncomputable def back:List (Nat×Nat)->G->G->Option G
 | [],_,g=>some g
 | (j,i)::ps,gc,g=>match gc[j]? with
  |some (.own l)=>back ps gc (g.set i (.own l))
  |_=>none
def cu(bor:List Nat)(g':G):R->Option R
 |.dat d=>some (.dat d)
 |.new l=>some (.new l)
 |.var j=>if j∈bor then none else match g'[j]? with |some (.own l)=>some (.new l) |_=>none
noncomputable def adr(O:Sg)(i:Nat):Addr:=match O[i]? with |some (some (.ref a))=>a |_=>0
theorem gR(h:O[i]?=some (some (.ref a))):adr O i=a:=by unfold adr;rw[h]
def bJ(O:Sg)(ps:List (Nat×Nat)):List (Nat×Addr):=ps.map λp=>(p.1,adr O p.2)
noncomputable def bN(n:Nat)(gs:G):G:=gs++List.replicate (n - gs.length) .no
theorem Slots.append{K:Frag}{M:List Addr}{H:Hp}{g1 g2:G}{σ1 σ2:Sg}{A1 A2:List Addr}(p:Slots K M H g1 σ1 A1)(q:Slots K M H g2 σ2 A2):Slots K M H (g1++g2) (σ1++σ2) (A1++A2):=by
 induction p with
 |nil=>exact q
 |no p ih=>exact .no ih
 |dat r p ih=>exact .dat r ih
 |own e r p ih=>exact .own e r ih
theorem Slots.WK{K:Frag}{M:List Addr}{H:Hp}:∀(n:Nat),Slots K M H (List.replicate n .no) (List.replicate n none) []
 | 0=>.nil
 |n+1=>by rw[sT];exact .no (Slots.WK n)
section
theorem Slots.uK{K:Frag}{g:G}{O:Sg}{Y:List Addr}{i j:Nat}{a:Addr}{l l':List D}(q:Slots K M H g O Y)(nd:Y.Nodup)(e1:g[i]?=some (.own l))(e2:g[j]?=some (.own l'))(e3:O[i]?=some (some (.ref a)))(e4:O[j]?=some (some (.ref a))):i=j:=by
 induction q generalizing i j with
 |nil=>exact nomatch (show none=some (Slot.own l)from e1)
 |no q ih=>cases i with
  |zero=>exact nomatch (show some Slot.no=some (Slot.own l)from e1)
  |succ i=>cases j with
   |zero=>exact nomatch (show some Slot.no=some (Slot.own l')from e2)
   |succ j=>exact congrArg (· + 1) (ih nd e1 e2 e3 e4)
 |dat r q ih=>cases i with
  |zero=>exact nomatch (show some (Slot.dat _)=some (Slot.own l)from e1)
  |succ i=>cases j with
   |zero=>exact nomatch (show some (Slot.dat _)=some (Slot.own l')from e2)
   |succ j=>exact congrArg (· + 1) (ih nd e1 e2 e3 e4)
 |@own g O Y b xs ds h r q ih=>
  have no:∀{i:Nat}{l:List D},g[i]?=some (.own l)->O[i]?=some (some (.ref a))->b=a->False:=λ{i l} e1 e3 e=>by
   obtain⟨c,xs,h1,h2,_⟩:=q.at e1;cases (show some (some (V.ref c))=some (some (V.ref a))from h1.symm.trans e3)
   exact (eR.mp nd).1 (e▸h2)
  cases i with
  |zero=>cases j with
   |zero=>rfl
   |succ j=>cases (show some (some (V.ref b))=some (some (V.ref a))from e3);exact (no e2 e4 rfl).elim
  |succ i=>cases j with
   |zero=>cases (show some (some (V.ref b))=some (some (V.ref a))from e4);exact (no e1 e3 rfl).elim
   |succ j=>exact congrArg (· + 1) (ih (eR.mp nd).2 e1 e2 e3 e4)
theorem kD(s:S z g O Y M H)(j:Nat)(q:gQ z O M H rs vs)(e:bM rs g=some gs) :
  gs.length=vs.length/\Slots z.K M H gs (vs.map some) ((bJ O (vars j rs)).map (·.2))/\
  (∀p∈bJ O (vars j rs),∃n l,p.1=j+n/\gs[n]?=some (.own l)/\vs[n]?=some (.ref p.2))/\
  (∀n l a,gs[n]?=some (.own l)->vs[n]?=some (.ref a)->(j+n,a)∈bJ O (vars j rs))/\
  (∀p∈vars j rs,∃l a,g[p.2]?=some (.own l)/\O[p.2]?=some (some (.ref a))/\a∈Y):=by
 induction q generalizing gs j with
 |nil=>cases e;exact⟨rfl,.nil,(λp hp=>nomatch hp),(λn l a h=>by simp at h),(λp hp=>nomatch hp)⟩
 |@dat d v rs vs r q ih=>
  unfold bM at e;cases e2:bM rs g with
  |none=>rw[e2]at e;cases e
  |some gs=>
   rw[e2]at e;cases e;obtain⟨h1,h2,h3,h4,h5⟩:=ih (j+1) e2;refine⟨by simp[h1],.dat r h2,λp hp=>?_,λn l a e1 e3=>?_,h5⟩
   . obtain⟨n,l,q1,q2,q3⟩:=h3 p hp;exact⟨n+1,l,by lia,by simpa using q2,by simpa using q3⟩
   .
    cases n with
    |zero=>simp at e1
    |succ n=>
     have:=h4 n l a (by simpa using e1) (by simpa using e3)
     rw[show j+(n+1)=j+1+n by lia]
     exact this
 |@var i v rs vs r q ih=>
  unfold bM at e;split at e
  .
   rename_i l hg;cases e2:bM rs g with
   |none=>rw[e2]at e;cases e
   |some gs=>
    rw[e2]at e;cases e;obtain⟨h1,h2,h3,h4,h5⟩:=ih (j+1) e2;obtain⟨a,xs,f1,f2,f3,f4⟩:=s.sl.at hg;have ea:=gR f1;rw[r]at f1;injection f1 with f1;injection f1 with f1;subst f1;have el:bJ O (vars j (.var i::rs))=(j,a)::bJ O (vars (j+1) rs):=by show (j,adr O i)::bJ O (vars (j+1) rs)=_;rw[ea]
    rw[el];refine⟨by simp[h1],.own f3 f4 h2,λp hp=>?_,λn l' b e1 e3=>?_,λp hp=>?_⟩
    .
     rcases b0.mp hp with rfl |hp
     . exact⟨0,l,rfl,rfl,rfl⟩
     . obtain⟨n,l,q1,q2,q3⟩:=h3 p hp;exact⟨n+1,l,by lia,by simpa using q2,by simpa using q3⟩
    .
     cases n with
     |zero=>
      have e4:a=b:=by simpa using e3
      subst e4;exact dA
     |succ n=>
      have:=h4 n l' b (by simpa using e1) (by simpa using e3)
      rw[show j+(n+1)=j+1+n by lia]
      exact a8 _ this
    .
     rcases b0.mp (show p∈(j,i)::vars (j+1) rs from hp)with rfl |hp
     . exact⟨l,a,hg,r,f2⟩
     . exact h5 p hp
  . cases e
theorem nj{α β:Type}{f:α->β}:∀{l:List α},l.Nodup->(∀a∈l,∀b∈l,f a=f b->a=b)->(l.map f).Nodup
 | [],_,_=>yA
 |x::l,nd,h=>by
  refine eR.mpr ⟨λhm=>?_,nj (eR.mp nd).2 λa ha b hb=>h a (a8 _ ha) b (a8 _ hb)⟩
  obtain⟨y,hy,e⟩:=gL.mp hm;have:=h y (a8 _ hy) x dA e;exact (eR.mp nd).1 (this▸hy)
def nk(z:Z)(O:Sg)(M:List Addr)(H:Hp)(rs:List R):Z:=⟨z.K,H,M,bJ O (vars 0 rs),z.T⟩
theorem ji:(nk z O M H rs).bor=(vars 0 rs).map (·.1):=by show (bJ O (vars 0 rs)).map (·.1)=_;unfold bJ;rw[List.map_map];rfl
theorem S.enter(s:S z g O Y M H){rs:List R}{vs:List V}{gs:G}{N:List Str}(r:gQ z O M H rs vs)(e:bM rs g=some gs)(nd:((vars 0 rs).map (·.2)).Nodup) :
  S (nk z O M H rs) (bN N.length gs) (start N vs) ((bJ O (vars 0 rs)).map (·.2)) M H:=by
 obtain⟨h1,h2,h3,h4,h5⟩:=kD s 0 r e;have eB:(bJ O (vars 0 rs)).map (·.2)=((vars 0 rs).map (·.2)).map (adr O):=by unfold bJ;rw[List.map_map,List.map_map];rfl
 have mem:∀b∈(bJ O (vars 0 rs)).map (·.2),b∈Y:=λb hb=>by
  obtain⟨i,hi,e⟩:=gL.mp hb;obtain⟨p,hp,e'⟩:=gL.mp hi;obtain⟨l,a,q1,q2,q3⟩:=h5 p hp;subst e';rw[gR q2]at e;subst e;exact q3
 have pre:∀{n:Nat}{o:Slot},gs[n]?=some o->(bN N.length gs)[n]?=some o:=λ{n o} q=>by
  unfold bN;rw[d5 (a9.mp q).1];exact q
 have Yp:∀(n:Nat) (l:List D),(bN N.length gs)[n]?=some (.own l)->gs[n]?=some (.own l):=λn l q=>by
  unfold bN at q;rcases pV n gs.length with h |h
  . rw[d5 h]at q;exact q
  . rw[dE h]at q;have:=fA q;rw[t9]at this;exact absurd this.2 ⋯
 have st:∀{n:Nat}{v:V},vs[n]?=some v->(start N vs)[n]?=some (some v):=λ{n v} q=>by
  unfold L2.start;rw[d5 (by rw[eC];exact (a9.mp q).1),nE,q]
  rfl
 have st':∀{n:Nat}{v:V},(start N vs)[n]?=some (some v)->vs[n]?=some v:=λ{n v} q=>by
  unfold L2.start at q;rcases pV n vs.length with h |h
  .
   rw[d5 (by rw[eC];exact h),nE]at q
   cases e:vs[n]? with
   |none=>rw[e]at q;cases q
   |some w=>rw[e]at q;injection q with q
  .
   rw[dE (by rw[eC];exact h)]at q
   have:=fA q;rw[t9]at this;exact absurd this.2 ⋯
 refine⟨?_,?_,λa ha=>s.sub a (mem a ha),λn a l q1 q2=>.inl ?_,s.live,λb o e _ _=>e,λm hm=>hm,λm hm=>?_,λb hb=>s.sub b (mem b hb),λp hp=>?_,s.tab,λp hp=>s.gK _ (s.tm p hp),s.tt⟩
 .
  have q:=h2.append (Slots.WK (N.length - gs.length));rw[nK]at q;have e':start N vs=vs.map some++List.replicate (N.length - gs.length) none:=by unfold L2.start;rw[h1]
  rw[e'];exact q
 .
  rw[eB];refine nj nd λi hi j hj e=>?_
  obtain⟨p,hp,rfl⟩:=gL.mp hi;obtain⟨p',yc,rfl⟩:=gL.mp hj;obtain⟨l,a,q1,q2,q3⟩:=h5 p hp;obtain⟨l',a',Tf,Nk,WL⟩:=h5 p' yc;rw[gR q2,gR Nk]at e;subst e;exact s.sl.uK s.nd q1 Tf q2 Nk
 . have hm:=h4 n l a (Yp n l q1) (st' q2);rw[A6]at hm;exact⟨mM hm,mM hm⟩
 . exact λe=>s.fresh e hm
 . obtain⟨n,l,q1,q2,q3⟩:=h3 p hp;rw[A6]at q1;rw[q1];exact⟨st q3,l,pre q2⟩
theorem Slots.transfer{K:Frag}{M M2:List Addr}{H H':Hp}(st:ao M H M2 H'){g g2:G}{O:Sg}{Y:List Addr}(q:Slots K M H g O Y)(hl:g2.length=g.length)
  (h1:∀(i:Nat) (l:List D) (a:Addr),g[i]?=some (.own l)->O[i]?=some (some (.ref a))->∃l' xs',g2[i]?=some (.own l')/\H' a=some (.lst xs')/\aH K M2 H' l' xs')
  (h2:∀(i:Nat) (o:Slot),g[i]?=some o->(∀l,o≠.own l)->g2[i]?=some o):Slots K M2 H' g2 O Y:=by
 induction q generalizing g2 with
 |nil=>cases g2 with
  |nil=>exact .nil
  |cons a b=>cases hl
 |no q ih=>cases g2 with
  |nil=>cases hl
  |cons a b=>
   cases (show some a=some Slot.no from h2 0 .no rfl (λl z=>nomatch z))
   exact .no (ih (AZ hl) (λi l a e1 e2=>h1 (i+1) l a e1 e2) λi o e1 e2=>h2 (i+1) o e1 e2)
 |@dat g O Y v d r q ih=>cases g2 with
  |nil=>cases hl
  |cons a b=>
   cases (show some a=some (Slot.dat d)from h2 0 (.dat d) rfl (λl z=>nomatch z))
   exact .dat (r.stay st) (ih (AZ hl) (λi l a e1 e2=>h1 (i+1) l a e1 e2) λi o e1 e2=>h2 (i+1) o e1 e2)
 |@own g O Y a0 xs ds e0 r q ih=>cases g2 with
  |nil=>cases hl
  |cons a b=>
   obtain⟨l',xs',e1,e2,e3⟩:=h1 0 _ a0 rfl rfl;cases (show some a=some (Slot.own l')from e1)
   exact .own e2 e3 (ih (AZ hl) (λi l a e1 e2=>h1 (i+1) l a e1 e2) λi o e1 e2=>h2 (i+1) o e1 e2)
theorem nq:∀{ps:List (Nat×Nat)}{g gO:G},back ps gc g=some gO->(ps.map (·.2)).Nodup->gO.length=g.length/\
  (∀i,i∉ps.map (·.2)->gO[i]?=g[i]?)/\∀p∈ps,p.2<g.length->∃l,gc[p.1]?=some (.own l)/\gO[p.2]?=some (.own l)
 | [],g,gO,e,_=>by cases e;exact⟨rfl,λ_ _=>rfl,λp hp=>nomatch hp⟩
 | (j,i)::ps,g,gO,e,nd=>by
  unfold back at e;split at e
  .
   rename_i l hg;obtain⟨h1,h2,h3⟩:=nq e (eR.mp nd).2;refine⟨by rw[h1,wP],λk hk=>?_,λp hp nX=>?_⟩
   .
    have n1:k∉ps.map (·.2):=λz=>hk (a8 _ z)
    have n2:i≠k:=λz=>hk (z▸dA)
    rw[h2 k n1,eD n2]
   .
    rcases b0.mp hp with rfl |hp
    . refine⟨l,hg,?_⟩;have hlt':=nX;rw[h2 i (eR.mp nd).1,gN hlt']
    . exact h3 p hp (by rw[wP];exact nX)
  . cases e
theorem S.leave(s:S z g O Y M H){rs:List R}{vs:List V}{gs gc gO:G}{σc:Sg}{Ac Mc:List Addr}{Hc:Hp}{r r':R}{v:V}(rw':gQ z O M H rs vs)(e:bM rs g=some gs)(nd:((vars 0 rs).map (·.2)).Nodup)
  (sc:S (nk z O M H rs) gc σc Ac Mc Hc) (st:ao M H Mc Hc) (q:cH (nk z O M H rs) gc σc Ac Mc Hc r v) (hb:back (vars 0 rs) gc g=some gO) (hr:cu ((vars 0 rs).map (·.1)) gc r=some r') :
  ∃M2,S z gO O Y M2 Hc/\ao M H M2 Hc/\cH z gO O Y M2 Hc r' v:=by
 obtain⟨h1,h2,h3,h4,h5⟩:=kD s 0 rw' e;obtain⟨b1,b2,b3⟩:=nq hb nd;have hM:=sc.gK;have core:∀M2:List Addr,(∀m∈M,m∈M2)->(∀m∈M2,m∈Mc)->ao M H M2 Hc->S z gO O Y M2 Hc:=by
  intro M2 m1 m2 aJ;refine⟨s.sl.transfer aJ b1 (λi l a e1 e2=>?_) (λi o e1 e2=>?_),s.nd,λa ha=>m1 a (s.sub a ha),λi a l e1 e2=>?_,λm hm=>sc.live m (m2 m hm),λb o e1 e2 et=>?_,λm hm=>m1 m (s.gK m hm),s.m0,s.bm,λp hp=>⟨(s.jg p hp).1,?_⟩,sc.tab,s.tm,s.tt⟩
  .
   by_cases hi:i∈(vars 0 rs).map (·.2)
   . obtain⟨p,hp,rfl⟩:=gL.mp hi;obtain⟨l',q1,q2⟩:=b3 p hp (a9.mp e1).1;have hl:(p.1,adr O p.2)∈bJ O (vars 0 rs):=mM hp;obtain⟨c1,c2⟩:=sc.jg _ hl;obtain⟨a',xs,d1,d2,d3,d4⟩:=sc.sl.at q1;rw[c1]at d1;injection d1 with d1;injection d1 with d1;injection d1 with d1;rw[gR e2]at d1;subst d1;exact⟨l',xs,q2,d3,aH.stay (ao.less m2) d4⟩
   .
    obtain⟨a',xs,d1,d2,d3,d4⟩:=s.sl.at e1;rw[e2]at d1;injection d1 with d1;injection d1 with d1;injection d1 with d1;subst d1;refine⟨l,xs,by rw[b2 i hi];exact e1,sc.keep a _ d3 (λhB=>?_) (s.Kg d3),d4.stay aJ⟩
    obtain⟨p,hp,ep⟩:=gL.mp (show a∈(bJ O (vars 0 rs)).map (·.2)from hB);obtain⟨p',yc,rfl⟩:=gL.mp hp;obtain⟨l2,a2,q1,q2,q3⟩:=h5 p' yc;have DS:=ep;rw[gR q2]at DS;subst DS;have:=s.sl.uK s.nd e1 q1 e2 q2;exact hi (this▸mM yc)
  .
   refine (b2 i λhi=>?_).trans e1
   obtain⟨p,hp,rfl⟩:=gL.mp hi;obtain⟨l2,a2,q1,q2,q3⟩:=h5 p hp;rw[e1]at q1;injection q1 with q1;exact e2 l2 q1
  .
   by_cases hi:i∈(vars 0 rs).map (·.2)
   . obtain⟨p,hp,rfl⟩:=gL.mp hi;obtain⟨l2,a2,q1,q2,q3⟩:=h5 p hp;exact s.own p.2 a l2 q1 e2
   . rw[b2 i hi]at e1;exact s.own i a l e1 e2
  .
   have e3:=s.keep b o e1 e2 et;refine sc.keep b o e3 (λhB=>?_) et
   obtain⟨p,hp,ep⟩:=gL.mp (show b∈(bJ O (vars 0 rs)).map (·.2)from hB);obtain⟨p',yc,rfl⟩:=gL.mp hp;obtain⟨l2,a2,q1,q2,q3⟩:=h5 p' yc;have DS:=ep;rw[gR q2]at DS;subst DS;rcases s.own p'.2 a2 l2 q1 q2 with w |w
   . exact e2 w.2
   . rw[w]at e1;cases e1
  .
   by_cases hi:p.1∈(vars 0 rs).map (·.2)
   . obtain⟨p',yc,e'⟩:=gL.mp hi;have e'':=e';obtain⟨l2,a2,q1,q2,q3⟩:=h5 p' yc;obtain⟨l',Tf,Nk⟩:=b3 p' yc (a9.mp q1).1;exact⟨l',by rw[<- e''];exact Nk⟩
   . rw[b2 p.1 hi];exact (s.jg p hp).2
 have new:∀(a:Addr) (xs:List V) (l:List D),v=.ref a->a∈Mc->H a=none->Hc a=some (.lst xs)->aH z.K Mc Hc l xs->∃M2,S z gO O Y M2 Hc/\ao M H M2 Hc/\cH z gO O Y M2 Hc (.new l) v:=by
  intro a xs l ev hm h0 hx rr;have m2:∀m∈a::M,m∈Mc:=λm hm'=>(b0.mp hm').elim (λe=>e▸hm) (hM m)
  have aJ:=st.trans (ao.less m2);refine⟨a::M,core _ (λm hm'=>a8 _ hm') m2 aJ,aJ,a,xs,ev,dA,λhA=>?_,s.eK h0,hx,rr.stay (ao.less m2)⟩
  exact s.fresh h0 (s.sub a hA)
 cases r with
 |dat d=>cases hr;have aJ:=st.trans (ao.less hM);exact⟨M,core M (λm h=>h) hM aJ,aJ,Rep.stay (ao.less hM) q⟩
 |new l=>cases hr;obtain⟨a,xs,rfl,c1,c2,c3,c4,c5⟩:=q;exact new a xs l rfl c1 c3 c4 c5
 |var j=>
  obtain⟨l,q1,q2⟩:=q;have hr:(if j∈(vars 0 rs).map (·.1)then none else match gc[j]? with |some (.own l)=>some (R.new l) |_=>none)=some r':=hr
  split at hr
  . cases hr
  .
   rename_i hj;rw[q1]at hr;cases hr;obtain⟨a,xs,d1,d2,d3,d4⟩:=sc.sl.at q1;rw[q2]at d1;injection d1 with d1;injection d1 with d1;subst d1;refine new a xs l rfl (sc.sub a d2) ?_ d3 d4;rcases sc.own j a l q1 q2 with w |w
   . have w':=w.1;rw[ji]at w';exact absurd w' hj
   . exact w
end
theorem gQ.length(q:gQ z O M H rs vs):vs.length=rs.length:=by
 induction q with
 |nil=>rfl
 |dat r q ih=>exact congrArg (· + 1) ih
 |var r q ih=>exact congrArg (· + 1) ih
def Ko(K:Frag)(N:List Str)(np:Nat)(run:List Nat->G->R->G->Prop):Sp:=λvs H Q _=>
 vs.length=np/\∃(z:Z) (g g':G) (Y M:List Addr) (r:R),z.K=K/\S z g (start N vs) Y M H/\run z.bor g r g'/\
  ∀v σ' aA M' H',S z g' σ' aA M' H'->ao M H M' H'->cH z g' σ' aA M' H' r v->Q v H'
section
variable{run:List Nat->G->R->G->Prop}
theorem uL(F:gJ X.prog X.w X.K X.mg X.base sH k f fd ps (Ko X.K N ps.length run))(hK:z.K=X.K)(hr:bK k X.A)(hg:Gl X x)(hm:X.mg x=some (.ref f))(hk:PySem.W.keepIn X.K (.ref f)=true)(hb:Binds X.K fd ps [])
  (ha:cI X z (e::es) g rs g1) (aQ:rs.length=ps.length) (hl:bM rs g1=some gs) (nd:((vars 0 rs).map (·.2)).Nodup) (hrun:run ((vars 0 rs).map (·.1)) (bN N.length gs) r gc) (zo:back (vars 0 rs) gc g1=some gO) (ho:cu ((vars 0 rs).map (·.1)) gc r=some r')
  (fY:(x==(~~~3))=false) (he:starEach (e::es) X.env=(false,eval e X.env)::starEach es X.env) (cW:(backTo pos (starEach es X.env)).any (·.1)=false) :
  az X z (.Call (.Name x p) (e::es) [] pos) g r' gO:=by
 obtain⟨t,q,kk⟩:=ha;refine⟨_,uz F hr hg hm hk hb .nil Kf q fY he cW,λO Y M H Q s kq=>kk O Y M H _ s λvs H1 aL M1 s1 cR R1=>?_⟩
 have hv:=R1.length;have ee:=s1.enter (N:=N) R1 hl nd;refine⟨by rw[nK,hv];exact aQ,nk z O M1 H1 rs,bN N.length gs,gc,_,M1,r,hK,by rw[nK];exact ee,by rw[ji];exact hrun,λv σ' aA M' H' s' st' R'=>?_⟩
 obtain⟨M2,s2,aJ,R2⟩:=s1.leave R1 hl nd s' st' R' zo ho;exact kq v H' aL M2 s2 (cR.trans aJ) R2
theorem zp{P:Program}{w:World}{K:Frag}{mg:Str->Option Value}{base:Heap}{qual:Str}{st:Stmt}(F:Eo K x qual st f fd)(Sc:bE N ps (aD st))
  (h:∀(bh:Value) (A:Around) (outer:List Env) (s:Shared) (H:Hp) (E:XK),PySem.W.codeIn K bh qual=true->bK k (A.deeper (envOfC qual (aD st) s⁻¹ f bh))->
   ∀(z:Z) (g:G) (r:R) (g':G),z.K=K->run z.bor g r g'->∃fl,bZ (eH sH P w K mg base N qual (aD st) f bh A outer s H E).jM z (aU st) g fl g'/\(fl=.rt r\/(fl=.nx/\r=.dat .non))) :
  gJ P w K mg base sH (k+1) f fd ps (Ko K N ps.length run):=by
 obtain⟨oc,od,kV,doc,pm,an,bh,ct,osl,rfl,lk,cB⟩:=F.ex;refine Kd lk cB Sc (λvs H Q E q=>q.1) ?_
 rintro A outer s H vs Q E hr ⟨_,z,g,g',Y,M,r,hK,hs,hrun,hQ⟩;obtain⟨fl,⟨t,q,kk⟩,hfl⟩:=h bh A outer s H E cB hr z g r g' hK hrun;refine⟨t,q.jM,kk _ Y M H _ hs ?_⟩;rcases hfl with rfl |⟨rfl,rfl⟩
 . exact λv σ' aA M' H' s' st' R'=>hQ v σ' aA M' H' s' st' R'
 . exact λσ' aA M' H' s' st'=>hQ .non σ' aA M' H' s' st' .non
end
inductive Tg where
 |nm (i:Nat) |tp (is:List Nat)
noncomputable def jj:List Nat->List D->G->G
 |i::is,d::ds,g=>jj is ds (g.set i (.dat d))
 | [],_,g=>g
 |_::_,[],g=>g
noncomputable def Tg.ix:Tg->List Nat
 |.nm i=>[i]
 |.tp is=>is
def Tg.set:Tg->D->G->Option G
 |.nm i,d,g=>some (g.set i (.dat d))
 |.tp is,.tup ds,g=>if ds.length=is.length then some (jj is ds g)else none
 |.tp is,.lst ds,g=>if ds.length=is.length then some (jj is ds g)else none
 |.tp _,_,_=>none
def uM(is:List Nat)(O σ':Sg):Prop:=σ'.length=O.length/\∀j,j∉is->σ'[j]?=O[j]?
theorem uM.refl(is:List Nat)(O:Sg):uM is O O:=⟨rfl,λ_ _=>rfl⟩
theorem uM.trans{is:List Nat}{O σ1 σ2:Sg}(a:uM is O σ1)(b:uM is σ1 σ2):uM is O σ2:=⟨b.1.trans a.1,λj h=>(b.2 j h).trans (a.2 j h)⟩
theorem uM.mono(h:∀i∈is,i∈js)(a:uM is O σ'):uM js O σ':=⟨a.1,λj hj=>a.2 j λz=>hj (h j z)⟩
def kF(X:Cx)(z:Z)(tg:Expr)(T:Tg):Prop:=∃t,PG X tg t/\∀d g g',T.set d g=some g'->∀v O Y M H (Q:Sg->Hp->Prop),S z g O Y M H->Rep z.K M H d v->(∀σ' aA,S z g' σ' aA M H->uM T.ix O σ'->Q σ' H)->t v O H Q
structure FG(X:Cx)(x:Str)(i:Nat):Prop where
 nd:X.N.Nodup
 ix:X.N[i]?=some x
 lc:Loc X.env.scope x
 fn:X.fn x=true\/X.env.scope.names.lookup x=some .local
section
theorem TL(h:FG X x i)(hb:i∉z.bor):kF X z (.Name x pos) (.nm i):=
 ⟨_,uy h.nd h.ix h.lc h.fn,λd g g' e v O Y M H Q s r k=>by
  cases e;obtain⟨aA,s'⟩:=s.gP hb r;exact k _ aA s' ⟨by rw[wP],λj hj=>by rw[eD (λe=>hj (by rw[<- e];exact eP.mpr rfl))]⟩⟩
inductive iI(X:Cx):List Expr->List Nat->Prop
 |nil:iI X [] []
 |cons {x:Str}{p:Pos}{i:Nat}{es:List Expr}{is:List Nat}:FG X x i->iI X es is->iI X (.Name x p::es) (i::is)
theorem iI.plain(h:iI X es is):(assignEach es X.env).length=is.length/\(assignEach es X.env).findIdx? (·.1)=none:=by
 induction h with
 |nil=>exact⟨rfl,rfl⟩
 |cons _ _ ih=>
  refine⟨?_,?_⟩
  . show (assignEach _ X.env).length+1=_;rw[ih.1];rfl
  . show List.findIdx? _ ((false,assign _ X.env)::assignEach _ X.env)=none;rw[List.findIdx?_cons,ih.2];rfl
theorem iI.pgs(h:iI X es is)(hb:∀i∈is,i∉z.bor):∃t,Q7 X es t/\∀ds vs g O Y M H (Q:Sg->Hp->Prop),ds.length=is.length->S z g O Y M H->aH z.K M H ds vs->(∀σ' aA,S z (jj is ds g) σ' aA M H->uM is O σ'->Q σ' H)->t vs O H Q:=by
 induction h with
 |nil=>
  refine⟨_,DX,λds vs g O Y M H Q hl s r k=>?_⟩
  cases r with
  |nil=>exact⟨rfl,k O Y s (uM.refl _ _)⟩
  |cons _ _=>simp at hl
 |@cons x p i es is hn hs ih=>
  obtain⟨t,q,kk⟩:=ih λj hj=>hb j (a8 _ hj)
  refine⟨_,yF (uy hn.nd hn.ix hn.lc hn.fn) q rfl,λds vs g O Y M H Q hl s r k=>?_⟩
  cases r with
  |nil=>simp at hl
  |@cons d ds v vs r rs=>
   obtain⟨aL,s1⟩:=s.gP (hb i dA) r;refine⟨v,vs,rfl,kk ds vs _ _ aL M H Q (by simpa using hl) s1 rs λσ' aA s' a=>k σ' aA s' ?_⟩
   refine uM.trans ⟨by rw[wP],λj hj=>?_⟩ (a.mono λj hj=>a8 _ hj)
   rw[eD (λe=>hj (by rw[<- e];exact dA))]
theorem sN(ne:l≠it)(n:Nat):∀(i:Nat) (s:Shared) (Q:List Value->Shared->Prop),s.heap.IsListIter it l i->s.heap.IsList l xs->i+n=xs.size->
  (∀h',h'.IsListIter it l xs.size->Heap.SameBut it s.heap h'->Q (xs.toList.drop i) { s with heap:=h'})->wpAny (model prog w) A (draw (.ref it) n) Q E s:=by
 induction n with
 |zero=>
  intro i s Q hit _ hi k;have e:xs.toList.drop i=[]:=List.drop_eq_nil_of_le (by rw[w8];lia)
  have q:=k s.heap (by rw[<- hi];exact hit) (Heap.SameBut.refl ..)
  rw[e]at q;exact dS q
 |succ n ih=>
  intro i s Q hit hl hi k;have nX:i<xs.size:=by lia
  refine aS (wpAny_pyNext_list_item hit hl (x:=xs[i]) (by simp[nX]) λh1 b1 c1=>?_)
  refine aS (mB (ih (i+1) _ _ b1 (hl.extBut c1.extBut ne) ⋯ λh2 b2 c2=>dS ?_))
  have q:=k h2 b2 (c1.trans c2);rw[List.drop_eq_getElem_cons (by rw[w8];exact nX)]at q
  exact q
theorem qA(hh:A.handled=none)(hl:s.heap.IsList l xs)
  (k:∀h',Heap.ExtBut s⁻¹ s.heap h'->Q xs.toList { s with heap:=h'}):wpAny (model prog w) A (unpackItems (.ref l) xs.size none) Q E s:=by
 have ne:l≠s⁻¹:=by obtain⟨o,ho,_⟩:=hl;exact fN (dL ho)
 refine aS ?_;refine aS (wpAny_specialOf hl.typeIs slot_list_iter.lookup ?_);refine dS ?_;refine aS (mB (v6 hl ?_));refine aS (mB (sN ne xs.size 0 _ _ ⟨_,dC _ rfl,rfl,rfl⟩ (hl.push _) (A6 _) λh1 b1 c1=>?_))
 rw[i8 ⋯];refine aS (mB (wpAny_pyNext_list_end hh b1 ((hl.push _).extBut c1.extBut ne) ⋯ λh2 e2=>?_))
 exact dS (k h2 λb o nb e=>e2 b o nb (c1.extBut b o nb (a7 _ e)))
def Yq(K:Frag)(n:Nat)(t:La):TG:=λv O H Q=>∃a xs,v=.ref a/\(ig K H a xs\/cF K H a xs)/\xs.length=n/\t xs O H Q
theorem Nm(hc:X.calm=true)(h:Q7 X es t)(hn:(assignEach es X.env).length=n)(cD:(assignEach es X.env).findIdx? (·.1)=none):PG X (.Tuple es k pos) (Yq X.K n t):=by
 intro ah s O H v u Q I r hw;obtain⟨a,xs,e1,hq,hl,hw⟩:=hw;rcases hq with hq |hq
 . exact Lc hc h hn cD ah s O H v u Q I r ⟨a,xs,e1,hq,hl,hw⟩
 .
  subst e1;cases r;obtain⟨aB,rv,pl,hz⟩:=I.list hq;refine aS (BD ?_);unfold unpack;rw[cD,show (assignEach es X.env).length=aB.toArray.size by rw[hn,<- hl,rv.length,bP]]
  refine aS (mB (qA (I.ok.hd hc) pl.isList λh' hx=>?_))
  have I1:=I.kept (t':=s.toks) λb o e=>hx b o (fN (dL e)) e
  exact h ah _ O H xs _ Q I1 (by simpa using rv) hw
theorem TQ(hc:X.calm=true)(hK:z.K=X.K)(h:iI X es is)(hb:∀i∈is,i∉z.bor):kF X z (.Tuple es k pos) (.tp is):=by
 obtain⟨t,q,kk⟩:=h.pgs hb;refine⟨_,Nm hc q h.plain.1 h.plain.2,λd g g' e v O Y M H Q s r k=>?_⟩
 cases d with
 |tup ds=>
  have e:(if ds.length=is.length then some (jj is ds g)else none)=some g':=e
  by_cases hl:ds.length=is.length
  .
   rw[lL hl]at e;cases e;cases r with
   |@tup _ a xs ha rr=>exact⟨a,xs,rfl,.inl (hK▸ha.sq),by rw[<- rr.length];exact hl,kk ds xs g O Y M H Q hl s rr k⟩
  . rw[i8 hl]at e;cases e
 |lst ds=>
  have e:(if ds.length=is.length then some (jj is ds g)else none)=some g':=e
  by_cases hl:ds.length=is.length
  .
   rw[lL hl]at e;cases e;cases r with
   |@lst _ a xs ha rr=>exact⟨a,xs,rfl,.inr (cF.of ha.2),by rw[<- rr.length];exact hl,kk ds xs g O Y M H Q hl s rr k⟩
  . rw[i8 hl]at e;cases e
 |_=>cases e
def Jt(J:It)(aj:List D)(K:Frag)(M1:List Addr)(H1:Hp):Prop:=
 ∀M2 H2,ao M1 H1 M2 H2->(∀n d,aj[n]?=some d->J.go n H2/\∀x H',J.Wv n H2 x H'->∀(z:Z) g O Y,z.K=K->S z g O Y M2 H2->S z g O Y M2 H'/\ao M2 H2 M2 H'/\Rep K M2 H' d x)/\J.stop aj.length H2
def cX(X:Cx)(z:Z)(tg iter:Expr)(g:G)(aj:List D)(g1:G):Prop:=
 ∃wi,PI X tg iter wi/\∀O Y M H (R:It->Hp->Prop),S z g O Y M H->(∀J H' aA M',S z g1 O aA M' H'->ao M H M' H'->Jt J aj z.K M' H'->R J H')->wi O H R
theorem Np(hK:z.K=X.K)(h:az X z iter g (.dat (.tup l)) g1):cX X z tg iter g l g1:=by
 obtain⟨t,q,k⟩:=h;refine⟨_,Lj q,λO Y M H R s kk=>k O Y M H _ s λv H1 aL M1 s1 cR r=>?_⟩
 have r':=r;cases r' with
 |@tup _ a xs ha rr=>
  refine⟨a,rfl,⟨xs,hK▸ha.sq⟩,kk _ H1 aL M1 s1 cR λM2 H2 aJ=>?_⟩
  have ha2:TupAt z.K M2 H2 a xs:=by
   rcases ha with ⟨na,hr⟩ |hk
   . exact .inl (aJ.rd na hr)
   . exact .inr hk
  have yd:=rr.stay aJ;refine⟨λn d hd=>?_,xs,hK▸ha2.sq,by rw[rr.length];exact eA _⟩
  obtain⟨x,e1,e2⟩:=yd.get hd;refine⟨⟨xs,x,hK▸ha2.sq,e1⟩,λy H' hy z' g' σ' aA _ s'=>?_⟩
  obtain⟨rfl,hy⟩:=hy;have:=hy xs (hK▸ha2.sq);rw[e1]at this;cases this;exact⟨s',ao.refl _ _,e2⟩
theorem Nq(h:az X z iter g (.dat (.lst l)) g1):cX X z tg iter g l g1:=by
 obtain⟨t,q,k⟩:=h;refine⟨_,n9 q,λO Y M H R s kk=>k O Y M H _ s λv H1 aL M1 s1 cR r=>?_⟩
 have r':=r;cases r' with
 |@lst _ a xs ha rr=>
  refine⟨a,rfl,⟨xs,cF.of ha.2⟩,kk _ H1 aL M1 s1 cR λM2 H2 aJ=>?_⟩
  have ha2:=(aJ _ _ ha.2 ha.1).1;have yd:=rr.stay aJ;refine⟨λn d hd=>?_,xs,cF.of ha2,by rw[rr.length];exact eA _⟩
  obtain⟨x,e1,e2⟩:=yd.get hd;refine⟨⟨xs,x,cF.of ha2,e1⟩,λy H' hy z' g' σ' aA _ s'=>?_⟩
  obtain⟨rfl,hy⟩:=hy;have:=hy xs (cF.of ha2);rw[e1]at this;cases this;exact⟨s',ao.refl _ _,e2⟩
theorem Nr(hK:z.K=X.K)(h:az X z iter g (.dat (.fix l)) g1):cX X z tg iter g l g1:=by
 obtain⟨t,q,k⟩:=h;refine⟨_,n9 q,λO Y M H R s kk=>k O Y M H _ s λv H1 aL M1 s1 cR r=>?_⟩
 have r':=r;cases r' with
 |@fix _ a xs ha rr=>
  refine⟨a,rfl,⟨xs,hK▸ha.sq⟩,kk _ H1 aL M1 s1 cR λM2 H2 aJ=>?_⟩
  have ha2:iE z.K M2 H2 a xs:=by
   rcases ha with ⟨na,o,hr⟩ |hk
   . exact .inl ⟨(aJ _ _ hr na).2,o,(aJ _ _ hr na).1⟩
   . exact .inr hk
  have yd:=rr.stay aJ;refine⟨λn d hd=>?_,xs,hK▸ha2.sq,by rw[rr.length];exact eA _⟩
  obtain⟨x,e1,e2⟩:=yd.get hd;refine⟨⟨xs,x,hK▸ha2.sq,e1⟩,λy H' hy z' g' σ' aA _ s'=>?_⟩
  obtain⟨rfl,hy⟩:=hy;have:=hy xs (hK▸ha2.sq);rw[e1]at this;cases this;exact⟨s',ao.refl _ _,e2⟩
theorem zq{lo:Int}{n:Nat}{K:Frag}{M:List Addr}{H:Hp}:Jt (Li lo n) (fJ lo n) K M H:=λM2 H2 _=>by
 refine⟨λk d hd=>?_,?_⟩
 .
  have hk:k<n:=by have:=(a9.mp hd).1;rw[qz]at this;exact this
  rw[zm hk]at hd;cases hd;refine⟨hk,λx H' hx z' g' σ' aA _ s'=>?_⟩
  obtain⟨rfl,rfl⟩:=hx;exact⟨s',ao.refl _ _,.int _⟩
 . show n<=(fJ lo n).length;rw[qz];exact eA _
theorem FH(h:cI X z [a] g [‹j›] g1)(hg:Gl X "range")(hm:X.mg "range"=none)(hs:starEach [a] X.env=[(false,eval a X.env)])(h1 : -(2 ^ 62)<=j)(h2:j<2 ^ 62) :
  cX X z tg (.Call (.Name "range" p) [a] [] rp) g (fJ 0 j.toNat) g1:=by
 obtain⟨wi,q,k⟩:=wj h hg hm hs h1 h2;exact⟨wi,q,λO Y M H R s kk=>k O Y M H _ s λH' aA M' s' st=>kk _ H' aA M' s' st zq⟩
theorem FJ(h:cI X z [a,b] g [‹c›,‹j›] g1)(hg:Gl X "range")(hm:X.mg "range"=none)(hs:starEach [a,b] X.env=[(false,eval a X.env),(false,eval b X.env)])(hs2:starEach [b] X.env=[(false,eval b X.env)])
  (h1 : -(2 ^ 62)<=c/\c<2 ^ 62/\-(2 ^ 62)<=j/\j<2 ^ 62):cX X z tg (.Call (.Name "range" p) [a,b] [] rp) g (fJ c (j - c).toNat) g1:=by
 obtain⟨wi,q,k⟩:=wm h hg hm hs hs2 h1;exact⟨wi,q,λO Y M H R s kk=>k O Y M H _ s λH' aA M' s' st=>kk _ H' aA M' s' st zq⟩
inductive cT(X:Cx)(z:Z)(body:List Stmt)(T:Tg):List D->G->Fl->G->Prop
 |nil {g:G}:cT X z body T [] g .nx g
 |next {d:D}{l:List D}{g g0 g1 g2:G}{f:Fl}:T.set d g=some g0->bZ X z body g0 .nx g1->cT X z body T l g1 f g2->cT X z body T (d::l) g f g2
 |cont {d:D}{l:List D}{g g0 g1 g2:G}{f:Fl}:T.set d g=some g0->bZ X z body g0 .ct g1->cT X z body T l g1 f g2->cT X z body T (d::l) g f g2
 |brk {d:D}{l:List D}{g g0 g1:G}:T.set d g=some g0->bZ X z body g0 .bk g1->cT X z body T (d::l) g .nx g1
 |ret {d:D}{l:List D}{g g0 g1:G}{r:R}:T.set d g=some g0->bZ X z body g0 (.rt r) g1->cT X z body T (d::l) g (.rt r) g1
theorem Nt(hp:PassesOwn (~~~2) X.A X.env X.xe)(hc:X.calm=true)(hw:cX X z tg iter g aj g1)(ht:kF X z tg T)(hb:cT X z body T aj g1 f g')(hs:∀y,foldedSetIterable iter X.env y=pure y) :
  eS X z (.For tg iter body [] pos) g f g':=by
 obtain⟨wi,q,k⟩:=hw;obtain⟨t,qt,kt⟩:=ht;refine⟨_,su hp hc q qt jO hs,λO Y M H E s kk=>k O Y M H _ s λJ H1 aL M1 s1 cR hJ=>?_⟩
 refine⟨λi m σ2 H2=>i+m=aj.length/\∃g2 aO M2,S z g2 σ2 aO M2 H2/\ao M1 H1 M2 H2/\cT X z body T (aj.drop i) g2 f g',⟨aj.length,by lia,g1,aL,M1,s1,ao.refl _ _,by simpa using hb⟩,?_⟩
 rintro i m σ2 H2 ⟨Z7,g2,aO,M2,s2,aJ,lo⟩;obtain⟨hgo,hstop⟩:=hJ M2 H2 aJ;cases e:aj[i]? with
 |none=>
  have hi:i=aj.length:=by have:=u8.mp e;lia
  subst hi;rw[List.drop_length]at lo;refine .inl ⟨hstop,?_⟩;cases lo;exact kk σ2 aO M2 H2 s2 (cR.trans aJ)
 |some d=>
  obtain⟨go,yl⟩:=hgo i d e;rw[drop_cons e]at lo;have hi:=(a9.mp e).1;refine .inr ⟨go,λσ' H'=>∃g3 iZ M3,S z g3 σ' iZ M3 H'/\ao M1 H1 M3 H'/\cT X z body T (aj.drop (i+1)) g3 f g',by rintro σ' H' ⟨g3,iZ,M3,w1,w2,w3⟩;exact⟨m - 1,by lia,by lia,g3,iZ,M3,w1,w2,w3⟩,λx H' hx=>?_⟩
  obtain⟨s3,fC,rx⟩:=yl x H' hx z g2 σ2 aO rfl s2;have Z8:=(kk.trans cR).trans (aJ.trans fC);have wz:=aJ.trans fC;cases lo with
  |next e0 b h=>
   refine kt d g2 _ e0 x σ2 aO M2 H' _ s3 rx λσ' aA s' _=>?_
   obtain⟨t,q,kb⟩:=b;exact⟨t,q,kb _ aA M2 H' _ s' λσ4 jk M4 H4 s4 oH=>⟨_,jk,M4,s4,wz.trans oH,h⟩⟩
  |cont e0 b h=>
   refine kt d g2 _ e0 x σ2 aO M2 H' _ s3 rx λσ' aA s' _=>?_
   obtain⟨t,q,kb⟩:=b;exact⟨t,q,kb _ aA M2 H' _ s' λσ4 jk M4 H4 s4 oH=>⟨_,jk,M4,s4,wz.trans oH,h⟩⟩
  |brk e0 b=>
   refine kt d g2 _ e0 x σ2 aO M2 H' _ s3 rx λσ' aA s' _=>?_
   obtain⟨t,q,kb⟩:=b;exact⟨t,q,kb _ aA M2 H' _ s' λσ4 jk M4 H4 s4 oH=>Z8 σ4 jk M4 H4 s4 oH⟩
  |ret e0 b=>
   refine kt d g2 _ e0 x σ2 aO M2 H' _ s3 rx λσ' aA s' _=>?_
   obtain⟨t,q,kb⟩:=b;exact⟨t,q,kb _ aA M2 H' _ s' λv σ4 jk M4 H4 s4 oH R=>Z8 v σ4 jk M4 H4 s4 oH R⟩
end
noncomputable def gC(k:Nat)(g:G):G:=g++(List.replicate k .no++[.own []])
def gH(X:Cx)(z:Z)(ifs:List Expr)(g:G)(b:Bool)(g':G):Prop:=
 ∃t,qi X ifs t/\∀O Y M H (Q:Bool->Hp->Prop),S z g O Y M H->(∀H' aA M',S z g' O aA M' H'->ao M H M' H'->Q b H')->t O H Q
theorem FN:gH X z [] g true g:=⟨_,yQ,λO Y M H Q s k=>k H Y M s (ao.refl _ _)⟩
theorem FP(h:bL X z c g b g'):gH X z [c] g b g':=let ⟨t,q,k⟩:=h;⟨t,yR q,k⟩
inductive jG(T:Tg)(last:Nat)(Nu:G->Bool->G->Prop)(Rb:G->D->G->Prop):List D->G->G->Prop
 |nil {g:G}:jG T last Nu Rb [] g g
 |skip:T.set d g=some g1->Nu g1 false g2->jG T last Nu Rb l g2 g'->jG T last Nu Rb (d::l) g g'
 |take:T.set d g=some g1->Nu g1 true g2->Rb g2 e g3->g3[last]?=some (.own acc)->acc.length<16777216->jG T last Nu Rb l (g3.set last (.own (acc++[e]))) g'->jG T last Nu Rb (d::l) g g'
section
theorem S.extend(s:S z g O Y M H)(hm:a∈M)(hA:a∉Y)(h0:z.H0 a=none)(h:H a=some (.lst xs))(r:aH z.K M H l xs) :
  S z (g++(List.replicate k .no++[.own l])) (O++(List.replicate k none++[some (.ref a)])) (Y++([]++[a])) M H:=by
 have hl:=s.sl.length;refine⟨s.sl.append ((Slots.WK k).append (.own h r .nil)),?_,λb hb=>?_,λi b l' e1 e2=>?_,s.live,s.keep,s.gK,s.m0,s.bm,λp hp=>?_,s.tab,s.tm,s.tt⟩
 .
  rw[AJ];refine List.nodup_append.mpr ⟨s.nd,eR.mpr ⟨by simp,yA⟩,λx hx y hy e=>?_⟩
  rw[eP.mp hy]at e;exact hA (e▸hx)
 .
  rcases yB.mp hb with q |q
  . exact s.sub b q
  . rw[AJ]at q;rw[eP.mp q];exact hm
 .
  rcases pV i g.length with hi |hi
  . rw[d5 hi]at e1;rw[d5 ⋯]at e2;exact s.own i b l' e1 e2
  .
   rw[dE hi]at e1;rw[dE ⋯]at e2;rcases pV (i - g.length) k with hk |hk
   .
    rw[d5 (by rw[i7];exact hk)]at e1
    have:=fA e1;rw[t9]at this;exact absurd this.2 ⋯
   .
    rw[dE (by rw[i7];lia),i7]at e2
    have e3:i - O.length - k=0:=by
     rcases Nat.eq_zero_or_pos (i - O.length - k)with q |q
     . exact q
     . rw[y7 (Nat.succ_le_of_lt q)]at e2;cases e2
    rw[e3]at e2;have e4:=e2;injection e4 with e4;injection e4 with e4;injection e4 with e4;exact .inr (e4▸h0)
 . obtain⟨q1,l',q2⟩:=s.jg p hp;exact⟨by rw[d5 (a9.mp q1).1];exact q1,l',by rw[d5 (a9.mp q2).1];exact q2⟩
theorem Slots.split{K:Frag}{g1 g2:G}{O:Sg}{Y:List Addr}(q:Slots K M H (g1++g2) O Y):∃σ1 σ2 A1 A2,O=σ1++σ2/\Y=A1++A2/\Slots K M H g1 σ1 A1/\Slots K M H g2 σ2 A2:=by
 induction g1 generalizing O Y with
 |nil=>exact⟨[],_,[],_,rfl,rfl,.nil,q⟩
 |cons o g1 ih=>cases q with
  |no q=>obtain⟨s1,s2,a1,a2,rfl,rfl,h1,h2⟩:=ih q;exact⟨_::s1,s2,a1,a2,rfl,rfl,.no h1,h2⟩
  |dat r q=>obtain⟨s1,s2,a1,a2,rfl,rfl,h1,h2⟩:=ih q;exact⟨_::s1,s2,a1,a2,rfl,rfl,.dat r h1,h2⟩
  |own e r q=>obtain⟨s1,s2,a1,a2,rfl,rfl,h1,h2⟩:=ih q;exact⟨_::s1,s2,_::a1,a2,rfl,rfl,.own e r h1,h2⟩
theorem S.shrink{gb:G}{τ:Sg}{l:List D}{i:Nat}{a:Addr}(s:S z gb (O++τ) Y M H)(hz:∀p∈z.lent,p.1<O.length)(hi:O.length<=i)(e1:gb[i]?=some (.own l))(e2:(O++τ)[i]?=some (some (.ref a))) :
  ∃A1,S z (gb.take O.length) O A1 M H/\a∈M/\a∉A1:=by
 have hl:=s.sl.length;rw[i4]at hl;have q:=s.sl;rw[<- List.take_append_drop O.length gb]at q;obtain⟨σ1,σ2,A1,A2,h1,h2,h3,h4⟩:=q.split;have l1:=h3.length;rw[xI,Nat.min_eq_left ⋯]at l1;obtain⟨rfl,rfl⟩:=List.append_inj h1 l1;subst h2;have Z9:a∈A2:=by
  obtain⟨b,xs,f1,f2,_⟩:=h4.at (by rw[List.getElem?_drop,Nat.add_sub_cancel' hi];exact e1)
  rw[dE hi]at e2;rw[e2]at f1;injection f1 with f1;injection f1 with f1;injection f1 with f1;exact f1▸f2
 have tk:∀(j:Nat) (o:Slot),(gb.take O.length)[j]?=some o->gb[j]?=some o/\j<O.length:=λj o e=>by
  have hj:=(a9.mp e).1;rw[xI]at hj;have hj':=eJ hj (Nat.min_le_left _ _);rw[wE hj']at e;exact⟨e,hj'⟩
 refine⟨A1,⟨h3,(List.nodup_append.mp s.nd).1,λb hb=>s.sub b (AA _ hb),λj b l' c1 c2=>?_,s.live,s.keep,s.gK,s.m0,s.bm,λp hp=>?_,s.tab,s.tm,s.tt⟩,s.sub a (hU _ Z9),λhA=>(List.nodup_append.mp s.nd).2.2 a hA a Z9 rfl⟩
 . obtain⟨c3,c4⟩:=tk j _ c1;exact s.own j b l' c3 (by rw[d5 c4];exact c2)
 . obtain⟨c1,l',c2⟩:=s.jg p hp;have yc:=hz p hp;rw[d5 yc]at c1;exact⟨c1,l',by rw[wE yc];exact c2⟩
theorem kG(h:uM is (O++τ) σ')(hi:∀i∈is,O.length<=i):∃τ',σ'=O++τ':=by
 refine⟨σ'.drop O.length,?_⟩;have e:σ'.take O.length=O:=by
  apply List.ext_getElem?;intro j;rcases pV j O.length with hj |hj
  . rw[wE hj,h.2 j (λz=>Nat.not_lt.mpr (hi j z) hj),d5 hj]
  . rw[y7 (by rw[xI];exact eM (Nat.min_le_left _ _) hj),y7 hj]
 have:=(List.take_append_drop O.length σ').symm;rw[e]at this;exact this
end
section
def TV(X:Cx)(tg:Expr):TG:=λv O H Q=>∃t,PG X tg t/\t v O H Q
theorem sO:PG X tg (TV X tg):=λah s O H v u Q I r h=>let ⟨t,q,k⟩:=h;q ah s O H v u Q I r k
def TX(X:Cx)(ifs:List Expr):TT:=λO H Q=>∃t,qi X ifs t/\t O H Q
theorem zu:qi X ifs (TX X ifs):=λah s O H Q I h=>let ⟨t,q,k⟩:=h;q ah s O H Q I k
def TY(X:Cx)(e:Expr):TE:=λO H Q=>∃t,PE X e t/\t O H Q
theorem zz:PE X e (TY X e):=λah s O H Q I h=>let ⟨t,q,k⟩:=h;q ah s O H Q I k
theorem kI(hw:cX X z tg iter g aj g1)(ht:∀b:Bk,kF (X.blk N' scope b) z tg T)(hT:∀i∈T.ix,g1.length<=i/\i<g1.length+k)
  (hcp:jG T (g1.length+k) (λg b g'=>∀bk:Bk,gH (X.blk N' scope bk) z ifs g b g') (λg d g'=>∀bk:Bk,az (X.blk N' scope bk) z jV g (.dat d) g') aj (gC k g1) gE) (hacc:gE[g1.length+k]?=some (.own acc)) :
  ∃wi,PI X tg iter wi/\∀O Y M H Q,S z g O Y M H->Kn z (gE.take g1.length) O M H (.new acc) Q->yU X k wi (λb=>TV (X.blk N' scope b) tg) (λb=>TX (X.blk N' scope b) ifs) (λD b=>Ep D (TY (X.blk N' scope b) jV)) O H Q:=by
 obtain⟨wi,q,kw⟩:=hw;refine⟨wi,q,λO Y M H Q s kq=>kw O Y M H _ s λJ H1 aL M1 s1 cR hJ D hD=>?_⟩
 have hl:=s1.sl.length;have hz:∀p∈z.lent,p.1<O.length:=λp hp=>(a9.mp (s1.jg p hp).1).1
 have T3:∀i∈T.ix,O.length<=i:=λi hi=>by rw[<- hl];exact (hT i hi).1
 have iJ:g1.length+k∉T.ix:=λh=>nS _ (hT _ h).2
 have s1':=s1.bA (xs:=[]) hD;have h0:=s1.eK hD;have nA:D∉aL:=λh=>s1.fresh hD (s1.sub D h)
 have sb:=s1'.extend (k:=k) dA nA h0 aE .nil;have T4:(O++(List.replicate k none++[some (V.ref D)]))[g1.length+k]?=some (some (V.ref D)):=by
  rw[hl,dE (Nat.le_add_right _ _),sK,dE (by rw[i7];exact eA _),i7,wT]
  rfl
 refine⟨λi m σ' H'=>i+m=aj.length/\∃gb Ab Mb τ,S z gb σ' Ab Mb H'/\ao M1 H1 Mb H'/\σ'=O++τ/\σ'[g1.length+k]?=some (some (.ref D))/\jG T (g1.length+k) (λg b g'=>∀bk:Bk,gH (X.blk N' scope bk) z ifs g b g') (λg d g'=>∀bk:Bk,az (X.blk N' scope bk) z jV g (.dat d) g') (aj.drop i) gb gE,
  ⟨aj.length,by lia,_,_,_,_,sb,ao.bA hD,rfl,T4,hcp⟩,?_⟩
 rintro i m σ' H' ⟨Z7,gb,Ab,Mb,τ,s2,aJ,rfl,WM,cp⟩;obtain⟨hgo,hstop⟩:=hJ Mb H' aJ;cases e:aj[i]? with
 |none=>
  have hi:i=aj.length:=by have:=u8.mp e;lia
  subst hi;rw[List.drop_length]at cp;cases cp;refine .inl ⟨hstop,?_⟩;obtain⟨a,xs,f1,f2,f3,f4⟩:=s2.sl.at hacc;rw[WM]at f1;injection f1 with f1;injection f1 with f1;injection f1 with f1;subst f1;obtain⟨A1,s3,m3,n3⟩:=s2.shrink hz ⋯ hacc WM;rw[<- hl]at s3;exact kq _ H' A1 Mb s3 (cR.trans aJ) ⟨D,xs,rfl,m3,n3,h0,f3,f4⟩
 |some d=>
  obtain⟨go,yl⟩:=hgo i d e;rw[drop_cons e]at cp;have hi:=(a9.mp e).1;refine .inr ⟨go,λσ' H'=>∃gb Ab Mb τ,S z gb σ' Ab Mb H'/\ao M1 H1 Mb H'/\σ'=O++τ/\σ'[g1.length+k]?=some (some (.ref D))/\jG T (g1.length+k) (λg b g'=>∀bk:Bk,gH (X.blk N' scope bk) z ifs g b g') (λg d g'=>∀bk:Bk,az (X.blk N' scope bk) z jV g (.dat d) g') (aj.drop (i+1)) gb gE,
   λX8 Yb hN=>⟨m - 1,by lia,by lia,hN⟩,λx H2 hx bk _=>?_⟩
  obtain⟨s3,fC,rx⟩:=yl x H2 hx z gb (O++τ) Ab rfl s2;obtain⟨t,qt,kt⟩:=ht bk;cases cp with
  |skip e0 hc rest=>
   refine⟨t,qt,kt d gb _ e0 x _ Ab Mb H2 _ s3 rx λσ4 jk s4 ag=>?_⟩
   obtain⟨τ',rfl⟩:=kG ag T3;obtain⟨t2,q2,k2⟩:=hc bk;refine⟨t2,q2,k2 _ jk Mb H2 _ s4 λH5 Nv M5 s5 vP=>?_⟩
   refine oA ⟨_,Nv,M5,τ',s5,(aJ.trans fC).trans vP,rfl,?_,rest⟩;rw[ag.2 _ iJ];exact WM
  |take e0 hc he ha hz' rest=>
   refine⟨t,qt,kt d gb _ e0 x _ Ab Mb H2 _ s3 rx λσ4 jk s4 ag=>?_⟩
   obtain⟨τ',rfl⟩:=kG ag T3;obtain⟨t2,q2,k2⟩:=hc bk;obtain⟨t3,q3,k3⟩:=he bk;have Yr:(O++τ')[g1.length+k]?=some (some (V.ref D)):=by rw[ag.2 _ iJ];exact WM
   refine⟨t2,q2,k2 _ jk Mb H2 _ s4 λH5 Nv M5 s5 vP=>jD ⟨t3,q3,k3 _ Nv M5 H5 _ s5 λv H6 As6 M6 s6 Ys R6=>?_⟩⟩
   obtain⟨a,xs,f1,f2,f3,f4⟩:=s6.sl.at ha;rw[Yr]at f1;injection f1 with f1;injection f1 with f1;injection f1 with f1;subst f1;obtain⟨s7,Yt⟩:=s6.write ha Yr (f4.append (.cons R6 .nil));refine⟨xs,f3,by rw[<- f4.length];exact hz',_,As6,M6,τ',s7,(((aJ.trans fC).trans vP).trans Ys).trans Yt,rfl,Yr,rest⟩
theorem FQ(B:bR X.env.scope scope)(hc:X.calm=true)(hN:Names X.N N' scope k)(hw:cX X z tg iter g aj g1)(ht:∀b:Bk,kF (X.blk N' scope b) z tg T)(hT:∀i∈T.ix,g1.length<=i/\i<g1.length+k)
  (hcp:jG T (g1.length+k) (λg b g'=>∀bk:Bk,gH (X.blk N' scope bk) z ifs g b g') (λg d g'=>∀bk:Bk,az (X.blk N' scope bk) z jV g (.dat d) g') aj (gC k g1) gE) (hacc:gE[g1.length+k]?=some (.own acc))
  (hs:∀x,foldedSetIterable iter X.env x=pure x):az X z (.ListComp jV [⟨tg,iter,ifs,0⟩] scope pos) g (.new acc) (gE.take g1.length):=by
 obtain⟨wi,q,kk⟩:=kI hw ht hT hcp hacc;exact⟨_,Et B hc hN q (λb=>⟨sO,zu,zz⟩) hs,kk⟩
theorem FT(B:bR X.env.scope scope)(hc:X.calm=true)(hN:Names X.N N' scope k)(hw:cX X z tg iter g aj g1)(ht:∀b:Bk,kF (X.blk N' scope b) z tg T)(hT:∀i∈T.ix,g1.length<=i/\i<g1.length+k)
  (hcp:jG T (g1.length+k) (λg b g'=>∀bk:Bk,gH (X.blk N' scope bk) z ifs g b g') (λg d g'=>∀bk:Bk,az (X.blk N' scope bk) z jV g (.dat d) g') aj (gC k g1) gE) (hacc:gE[g1.length+k]?=some (.own acc))
  (Ti:X.N.Nodup) (hy:X.N[i]?=some y) (hl:X.env.scope.names.lookup y=some .local) (hb:i∉z.bor) (hi:i<(gE.take g1.length).length)
  (hsw:swapsWith (.ListComp jV [⟨tg,iter,ifs,0⟩] scope pos) (some (.Name y py)) fQ.line X.env=pure true)
  (hs:∀x,foldedSetIterable iter X.env x=pure x):eS X z (.Assign [.Name y py] (.ListComp jV [⟨tg,iter,ifs,0⟩] scope pos) fQ) g .nx ((gE.take g1.length).set i (.own acc)):=by
 obtain⟨wi,q,kk⟩:=kI hw ht hT hcp hacc;refine⟨_,Eu B hc hN q (λb=>⟨sO,zu,zz⟩) Ti hy hl hsw hs,λO Y M H E s kE=>kk O Y M H _ s λv H' aA M' s' st R=>?_⟩
 obtain⟨a,xs,rfl,hm,hA,h0,ha,rr⟩:=R;obtain⟨aO,s2⟩:=s'.oF hb hi hm hA h0 ha rr;exact kE _ aO M' H' s2 st
end
section
theorem az.run(he:az X z e g r g1)(I:L2.Inv X ah O H s)(st:S z g O Y M H)
  (k:∀v u s1 H1 aL M1,L2.Inv X ah O H1 s1->RelV v u->S z g1 O aL M1 H1->ao M H M1 H1->cH z g1 O aL M1 H1 r v->Post u s1):wpAny (~~~2) X.A (eval e X.env) Post X.xe s:=by
 obtain⟨t,q,kt⟩:=he;exact bC (q ah s O H (λv H1=>∃aL M1,S z g1 O aL M1 H1/\ao M H M1 H1/\cH z g1 O aL M1 H1 r v) I (kt O Y M H _ st λv H1 aL M1 s1 cR R=>⟨aL,M1,s1,cR,R⟩)) (by rintro u s1 ⟨v,H1,I1,r1,aL,M1,q1,q2,q3⟩;exact k v u s1 H1 aL M1 I1 r1 q1 q2 q3)
theorem lV.run(ho:lV X z f d1 d2 r)(I:L2.Inv X ah O H s)(st:S z g O Y M H)(p1:Pk z.K M H d1 v1)(p2:Pk z.K M H d2 v2)(r1:RelV v1 u1)(r2:RelV v2 u2)
  (k:∀v u s1 H1 aL M1,L2.Inv X ah O H1 s1->RelV v u->S z g O aL M1 H1->ao M H M1 H1->cH z g O aL M1 H1 r v->Post u s1):wpAny (~~~2) X.A (f u1 u2) Post X.xe s:=by
 obtain⟨rr,o,ko⟩:=ho;exact bC (o ah s O H v1 v2 u1 u2 (λv H1=>∃aL M1,S z g O aL M1 H1/\ao M H M1 H1/\cH z g O aL M1 H1 r v) I r1 r2 (ko g O Y M H v1 v2 _ st p1 p2 λv H1 aL M1 s1 cR R=>⟨aL,M1,s1,cR,R⟩)) (by rintro u s1 ⟨v,H1,I1,r1,aL,M1,q1,q2,q3⟩;exact k v u s1 H1 aL M1 I1 r1 q1 q2 q3)
theorem az.of (h:∀(ah: ~~~1) (s:Shared) (O:Sg) (Y M:List Addr) (H:Hp) (Post:Value->Shared->Prop),L2.Inv X ah O H s->S z g O Y M H->
  (∀v u s1 H1 aL M1,L2.Inv X ah O H1 s1->RelV v u->S z g1 O aL M1 H1->ao M H M1 H1->cH z g1 O aL M1 H1 r v->Post u s1)->wpAny (~~~2) X.A (eval e X.env) Post X.xe s):az X z e g r g1:=
 ⟨λO H Q=>∃Y M,S z g O Y M H/\Kn z g1 O M H r Q,by rintro ah s O H Q I ⟨Y,M,st,k⟩;exact h ah s O Y M H _ I st λv u s1 H1 aL M1 I1 r1 q1 q2 q3=>⟨v,H1,I1,r1,k v H1 aL M1 q1 q2 q3⟩,λO Y M H Q s k=>⟨Y,M,s,k⟩⟩
theorem bL.of (h:∀(ah: ~~~1) (s:Shared) (O:Sg) (Y M:List Addr) (H:Hp) (Post:Bool->Shared->Prop),L2.Inv X ah O H s->S z g O Y M H->
  (∀s1 H1 aL M1,L2.Inv X ah O H1 s1->S z g1 O aL M1 H1->ao M H M1 H1->Post b s1)->wpAny (~~~2) X.A (isTrue e X.env (eval e X.env)) Post X.xe s):bL X z e g b g1:=
 ⟨λO H Q=>∃Y M,S z g O Y M H/\(∀H' aA M',S z g1 O aA M' H'->ao M H M' H'->Q b H'),by rintro ah s O H Q I ⟨Y,M,st,k⟩;exact h ah s O Y M H _ I st λs1 H1 aL M1 I1 q1 q2=>⟨H1,I1,k H1 aL M1 q1 q2⟩,λO Y M H Q s k=>⟨Y,M,s,k⟩⟩
inductive oJ(X:Cx)(z:Z):D->List CmpOp->List Expr->G->Bool->G->Prop
 |last {d1 d2:D}{op:CmpOp}{b:Expr}{g g1:G}{c:Bool}:az X z b g (.dat d2) g1->lV X z (compareOp op) d1 d2 (.dat (.bl c))->oJ X z d1 [op] [b] g c g1
 |stop {d1 d2:D}{op op':CmpOp}{ops:List CmpOp}{b b':Expr}{bs:List Expr}{g g1:G}:az X z b g (.dat d2) g1->lV X z (compareOp op) d1 d2 (.dat (.bl false))->oJ X z d1 (op::op'::ops) (b::b'::bs) g false g1
 |link {d1 d2:D}{op op':CmpOp}{ops:List CmpOp}{b b':Expr}{bs:List Expr}{g g1 g2:G}{c:Bool}:az X z b g (.dat d2) g1->lV X z (compareOp op) d1 d2 (.dat (.bl true))->oJ X z d2 (op'::ops) (b'::bs) g1 c g2->oJ X z d1 (op::op'::ops) (b::b'::bs) g c g2
theorem Nx(h:oJ X z d1 ops bs g c g'):∀(ah: ~~~1) (s:Shared) (O:Sg) (H:Hp) (Y M:List Addr) (Post:Value->Shared->Prop) (v1:V) (u1:Value),L2.Inv X ah O H s->S z g O Y M H->Rep z.K M H d1 v1->RelV v1 u1->
  (∀s1 H' aA M',L2.Inv X ah O H' s1->S z g' O aA M' H'->ao M H M' H'->Post (.bool c) s1)->wpAny (~~~2) X.A (compareChain pos u1 ops (evalEach bs X.env)) Post X.xe s:=by
 induction h with
 |@last d1 d2 op b g g1 c he ho=>
  intro ah s O H Y M Post v1 u1 I st r rv k;refine chain_last (he.run I st λv u s1 H1 aL M1 I1 r1 q1 q2 q3=>ho.run I1 q1 (.of (r.stay q2)) (.of q3) rv r1 λv' u' s2 H2 aO M2 I2 r2 p1 p2 p3=>?_)
  rw[dH p3]at r2;cases r2;exact k s2 H2 aO M2 I2 p1 (q2.trans p2)
 |@stop d1 d2 op op' ops b b' bs g g1 he ho=>
  intro ah s O H Y M Post v1 u1 I st r rv k;refine chain_link (he.run I st λv u s1 H1 aL M1 I1 r1 q1 q2 q3=>ho.run I1 q1 (.of (r.stay q2)) (.of q3) rv r1 λv' u' s2 H2 aO M2 I2 r2 p1 p2 p3=>?_)
  rw[dH p3]at r2;cases r2;exact l7 (ite_ff (k s2 H2 aO M2 I2 p1 (q2.trans p2)))
 |@link d1 d2 op op' ops b b' bs g g1 g2 c he ho hch ih=>
  intro ah s O H Y M Post v1 u1 I st r rv k;refine chain_link (he.run I st λv u s1 H1 aL M1 I1 r1 q1 q2 q3=>ho.run I1 q1 (.of (r.stay q2)) (.of q3) rv r1 λv' u' s2 H2 aO M2 I2 r2 p1 p2 p3=>?_)
  rw[dH p3]at r2;cases r2;exact l7 (ite_tt (ih ah s2 O H2 aO M2 Post v u I2 p1 (Rep.stay p2 q3) r1 λs3 H3 iZ M3 I3 w1 w2=>k s3 H3 iZ M3 I3 w1 ((q2.trans p2).trans w2)))
theorem FW(h:oJ X z d1 ops bs g c g'):∀(ah: ~~~1) (s:Shared) (O:Sg) (H:Hp) (Y M:List Addr) (Post:Bool->Shared->Prop) (v1:V) (u1:Value),L2.Inv X ah O H s->S z g O Y M H->Rep z.K M H d1 v1->RelV v1 u1->
  (∀s1 H' aA M',L2.Inv X ah O H' s1->S z g' O aA M' H'->ao M H M' H'->Post c s1)->wpAny (~~~2) X.A (testChain pos u1 ops (evalEach bs X.env)) Post X.xe s:=by
 induction h with
 |@last d1 d2 op b g g1 c he ho=>
  intro ah s O H Y M Post v1 u1 I st r rv k;refine test_last (he.run I st λv u s1 H1 aL M1 I1 r1 q1 q2 q3=>ho.run I1 q1 (.of (r.stay q2)) (.of q3) rv r1 λv' u' s2 H2 aO M2 I2 r2 p1 p2 p3=>?_)
  rw[dH p3]at r2;cases r2;exact l7 (k s2 H2 aO M2 I2 p1 (q2.trans p2))
 |@stop d1 d2 op op' ops b b' bs g g1 he ho=>
  intro ah s O H Y M Post v1 u1 I st r rv k;refine test_link (he.run I st λv u s1 H1 aL M1 I1 r1 q1 q2 q3=>ho.run I1 q1 (.of (r.stay q2)) (.of q3) rv r1 λv' u' s2 H2 aO M2 I2 r2 p1 p2 p3=>?_)
  rw[dH p3]at r2;cases r2;exact l7 (ite_ff (k s2 H2 aO M2 I2 p1 (q2.trans p2)))
 |@link d1 d2 op op' ops b b' bs g g1 g2 c he ho hch ih=>
  intro ah s O H Y M Post v1 u1 I st r rv k;refine test_link (he.run I st λv u s1 H1 aL M1 I1 r1 q1 q2 q3=>ho.run I1 q1 (.of (r.stay q2)) (.of q3) rv r1 λv' u' s2 H2 aO M2 I2 r2 p1 p2 p3=>?_)
  rw[dH p3]at r2;cases r2;exact l7 (ite_tt (ih ah s2 O H2 aO M2 Post v u I2 p1 (Rep.stay p2 q3) r1 λs3 H3 iZ M3 I3 w1 w2=>k s3 H3 iZ M3 I3 w1 ((q2.trans p2).trans w2)))
theorem zA(ha:az X z a g (.dat d1) g1)(h:oJ X z d1 (Ny::Nz::ops) (b1::b2::bs) g1 c g2)(hm:lastMarks (Ny::Nz::ops) (b1::b2::bs)=false):az X z (.Compare a (Ny::Nz::ops) (b1::b2::bs) pos) g (.dat (.bl c)) g2:=
 az.of λah s O Y M H Post I st k=>Compare_chain (ha.run I st λv u s1 H1 aL M1 I1 r1 q1 q2 q3=>Nx h ah s1 O H1 aL M1 Post v u I1 q1 q3 r1 λs2 H2 aO M2 I2 p1 p2=>k (.bl c) (.bool c) s2 H2 aO M2 I2 rfl p1 (q2.trans p2) (.bl c)) hm
theorem zB(ha:az X z a g (.dat d1) g1)(h:oJ X z d1 (Ny::Nz::ops) (b1::b2::bs) g1 c g2)(hm:lastMarks (Ny::Nz::ops) (b1::b2::bs)=false):bL X z (.Compare a (Ny::Nz::ops) (b1::b2::bs) pos) g c g2:=
 bL.of λah s O Y M H Post I st k=>isTrue_chain (ha.run I st λv u s1 H1 aL M1 I1 r1 q1 q2 q3=>FW h ah s1 O H1 aL M1 Post v u I1 q1 q3 r1 λs2 H2 aO M2 I2 p1 p2=>k s2 H2 aO M2 I2 p1 (q2.trans p2)) hm
inductive jH(X:Cx)(z:Z)(c:Expr)(body:List Stmt):Nat->G->Fl->G->Prop
 |done {n:Nat}{g g1:G}:bL X z c g false g1->jH X z c body n g .nx g1
 |next {n:Nat}{g g1 g2 g3:G}{f:Fl}:bL X z c g true g1->bZ X z body g1 .nx g2->jH X z c body n g2 f g3->jH X z c body (n+1) g f g3
 |cont {n:Nat}{g g1 g2 g3:G}{f:Fl}:bL X z c g true g1->bZ X z body g1 .ct g2->jH X z c body n g2 f g3->jH X z c body (n+1) g f g3
 |brk {n:Nat}{g g1 g2:G}:bL X z c g true g1->bZ X z body g1 .bk g2->jH X z c body n g .nx g2
 |ret {n:Nat}{g g1 g2:G}{r:R}:bL X z c g true g1->bZ X z body g1 (.rt r) g2->jH X z c body n g (.rt r) g2
def T5(X:Cx)(e:Expr):TT:=λO H Q=>∃t,PT X e t/\t O H Q
theorem NB{e:Expr}:PT X e (T5 X e):=λah s O H Q I h=>let ⟨t,q,k⟩:=h;q ah s O H Q I k
theorem zC{ce:Expr}{body:List Stmt}{n:Nat}{f:Fl}{g':G}(hp:PassesOwn (~~~2) X.A X.env X.xe)(h:jH X z ce body n g f g'):eS X z (.While ce body [] pos) g f g':=by
 refine⟨_,yG hp NB jO,λO Y M H E s k=>?_⟩
 refine⟨λm σ2 H2=>∃g2 aO M2,S z g2 σ2 aO M2 H2/\ao M H M2 H2/\jH X z ce body m g2 f g',⟨n,g,Y,M,s,ao.refl _ _,h⟩,?_⟩
 rintro m σ2 H2 ⟨g2,aO,M2,s2,aJ,w⟩;cases w with
 |done hc=>obtain⟨t,q,kt⟩:=hc;exact⟨t,q,kt σ2 aO M2 H2 _ s2 λH3 iZ M3 s3 fC=>oA (k σ2 iZ M3 H3 s3 (aJ.trans fC))⟩
 |@next m' _ g3 g4 _ _ hc hb w'=>
  obtain⟨t,q,kt⟩:=hc;obtain⟨tb,qb,kb⟩:=hb;refine⟨t,q,kt σ2 aO M2 H2 _ s2 λH3 iZ M3 s3 fC=>jD ⟨λσ' H'=>∃g2 aO M2,S z g2 σ' aO M2 H'/\ao M H M2 H'/\jH X z ce body m' g2 f g',λσ' H' hN=>⟨m',xL _,hN⟩,tb,qb,kb σ2 iZ M3 H3 _ s3 λσ4 jk M4 H4 s4 oH=>?_⟩⟩
  exact⟨g4,jk,M4,s4,(aJ.trans fC).trans oH,w'⟩
 |@cont m' _ g3 g4 _ _ hc hb w'=>
  obtain⟨t,q,kt⟩:=hc;obtain⟨tb,qb,kb⟩:=hb;refine⟨t,q,kt σ2 aO M2 H2 _ s2 λH3 iZ M3 s3 fC=>jD ⟨λσ' H'=>∃g2 aO M2,S z g2 σ' aO M2 H'/\ao M H M2 H'/\jH X z ce body m' g2 f g',λσ' H' hN=>⟨m',xL _,hN⟩,tb,qb,kb σ2 iZ M3 H3 _ s3 λσ4 jk M4 H4 s4 oH=>?_⟩⟩
  exact⟨g4,jk,M4,s4,(aJ.trans fC).trans oH,w'⟩
 |brk hc hb=>obtain⟨t,q,kt⟩:=hc;obtain⟨tb,qb,kb⟩:=hb;exact⟨t,q,kt σ2 aO M2 H2 _ s2 λH3 iZ M3 s3 fC=>jD ⟨λ_ _=>False,λσ' H' hN=>hN.elim,tb,qb,kb σ2 iZ M3 H3 _ s3 λσ4 jk M4 H4 s4 oH=>k σ4 jk M4 H4 s4 ((aJ.trans fC).trans oH)⟩⟩
 |ret hc hb=>obtain⟨t,q,kt⟩:=hc;obtain⟨tb,qb,kb⟩:=hb;exact⟨t,q,kt σ2 aO M2 H2 _ s2 λH3 iZ M3 s3 fC=>jD ⟨λ_ _=>False,λσ' H' hN=>hN.elim,tb,qb,kb σ2 iZ M3 H3 _ s3 λv σ4 jk M4 H4 s4 oH R=>k v σ4 jk M4 H4 s4 ((aJ.trans fC).trans oH) R⟩⟩
noncomputable def FZ:D->Option Bool
 |.bl b=>some b
 |.non=>some false
 |.int i=>some (i != 0)
 |.lst l=>some (!l.isEmpty)
 |.tup l=>some (!l.isEmpty)
 |.fix l=>some (!l.isEmpty)
 |_=>none
end
end Ev
namespace HT
section
theorem gq{t sl:Addr}{aj:Array Value}{vl vu:Value}{lo hi:Option Int}{Q:Value->Shared->Prop}(ht:IsTup s.heap t aj)(hs:s.heap.IsSliceOf sl vl vu .none)(pl:IsPart vl lo)(pu:IsPart vu hi)
  (hw:bB aj.size 0 lo=0/\bB aj.size aj.size hi=aj.size)
  (h:Q (.ref t) s):wpAny (model prog w) A (getItem (.ref t) (.ref sl)) Q E s:=by
 obtain⟨os,hos,hcs,hds⟩:=id hs;have Wy:s.TypeIs (.ref sl) "slice" :=⟨os,hos,hcs⟩;unfold getItem
 try with_reducible refine mB ?_
 first |refine aS (dS ?_) |skip
 refine aS (wpAny_sequenceKey ht.typeIs ⋯ ?_);refine aS (oD ht.typeIs oS
  (tP oS ht.typeIs entry_tuple_getitem ?_ (args_tuple_getitem _ _)))
 show wpAny _ _ (Builtin.Tuple.tupleItemsOf (.ref t) >>= _) _ _ s;refine aS (tupleItemsOf_ ht ?_);refine aS (wpAny_typeOf Wy ?_);refine aS (dF hs pl pu ?_);have hyes:(((bB aj.size 0 lo:Nat):Int)==0&&(1:Int)==1&&(bB aj.size aj.size hi - bB aj.size 0 lo)==aj.size)=true:=by rw[hw.1,hw.2];simp
 show wpAny _ _ (if (((bB aj.size 0 lo:Nat):Int)==0&&(1:Int)==1&&(bB aj.size aj.size hi - bB aj.size 0 lo)==aj.size)=true then _ else _) _ _ s
 rw[lL hyes];refine aS (aS (wpAny_typeOf ht.typeIs (dS ?_)));exact aS (wpAny_rule (dS ⟨_,rfl,dS h⟩))
end
end HT
namespace Ev
open L2
def fK{α:Type}(xs:List α)(lo hi:Option Int):List α:=(xs.drop (HT.bB xs.length 0 lo)).take (HT.bB xs.length xs.length hi - HT.bB xs.length 0 lo)
theorem sP{α:Type}{xs:List α}{lo hi:Option Int}(h:HT.bB xs.length 0 lo=0/\HT.bB xs.length xs.length hi=xs.length):fK xs lo hi=xs:=by unfold fK;rw[h.1,h.2,List.drop_zero,Nat.sub_zero,List.take_length]
section
variable{lo hi:Option Expr}
def Yu(K:Frag):V->Option Int->Option Int->Hp->VK->Prop:=λx lo hi H Q=>∃a xs,x=.ref a/\ig K H a xs/\
 ((HT.bB xs.length 0 lo=0/\HT.bB xs.length xs.length hi=xs.length/\Q (.ref a) H)\/(¬ (HT.bB xs.length 0 lo=0/\HT.bB xs.length xs.length hi=xs.length)/\∀p,H p=none->Q (.ref p) (upd H p (.tup (sF xs lo hi)))))
theorem Ga:Wz X (Yu X.K):=by
 intro ah s O H x v vl vu lo hi sl Q I rx hs pl pu h;obtain⟨a,xs,rfl,hx,h⟩:=h;rcases h with ⟨h1,h2,q⟩ |⟨h1,q⟩
 .
  cases rx;obtain⟨aB,r,ht,hz⟩:=I.tuple hx;have aQ:aB.toArray.size=xs.length:=by rw[bP];exact r.length.symm
  refine⟨"tuple",_,PyProof.Rows.slot_tuple_getitem.lookup,ht.typeIs,?_⟩;exact HT.gq ht hs pl pu (by rw[aQ];exact⟨h1,h2⟩) ⟨.ref a,H,I,rfl,q⟩
 . exact LK ah s O H (.ref a) v vl vu lo hi sl Q I rx hs pl pu ⟨a,xs,rfl,hx,h1,q⟩
def oK(X:Cx)(z:Z)(e:Option Expr)(g:G)(o:Option Int)(g':G):Prop:=
 ∃t,PO X e t/\∀O Y M H (Q:Option Int->Hp->Prop),S z g O Y M H->(∀H' aA M',S z g' O aA M' H'->ao M H M' H'->Q o H')->t O H Q
theorem wA:oK X z none g none g:=⟨_,Ej,λO Y M H Q s k=>k H Y M s (ao.refl _ _)⟩
theorem wB(h:az X z e g ‹i› g1):oK X z (some e) g (some i) g1:=by
 obtain⟨t,q,k⟩:=h;refine⟨_,Ek q,λO Y M H Q s kk=>k O Y M H _ s λv H' aA M' s' st R=>?_⟩
 have R':=R;cases R';exact⟨i,rfl,kk H' aA M' s' st⟩
theorem aH.cut{K:Frag}{M:List Addr}{H:Hp}{ds:List D}{vs:List V}(r:aH K M H ds vs)(l u:Option Int):aH K M H (fK ds l u) (sF vs l u):=by unfold fK sF;rw[r.length];exact aH.take _ (aH.drop _ r)
theorem wC{r:R}{l:List D}{d:D}{i j:Option Int}(hK:z.K=X.K)(h:az X z a g r g1)(h1:oK X z lo g1 i g2)(h2:oK X z hi g2 j g3)(hp:pk r g3=some (.lst l)):az X z (.Subscript a (.Slice lo hi none p2) pos) g (.new (fK l i j)) g3:=by
 obtain⟨t,q,k⟩:=h;obtain⟨t1,q1,k1⟩:=h1;obtain⟨t2,q2,k2⟩:=h2;refine⟨_,j5 uF q q1 q2,λO Y M H Q s kk=>k O Y M H _ s λv H1 aL M1 s1 cR R=>k1 O aL M1 H1 _ s1 λH2 aO M2 s2 aJ=>k2 O aO M2 H2 _ s2 λH3 iZ M3 s3 fC=>?_⟩
 obtain⟨b,xs,rfl,e1,e2⟩:=(s3.pk (aJ.trans fC) R hp).list;refine⟨b,xs,rfl,cF.of e1,λp hp=>?_⟩
 exact kk _ _ iZ (p::M3) (s3.bA hp) (((cR.trans aJ).trans fC).trans (ao.bA hp)) ⟨p,_,rfl,dA,λhA=>s3.fresh hp (s3.sub p hA),s3.eK hp,aE,(e2.cut i j).stay (ao.bA hp)⟩
theorem wD(hK:z.K=X.K)(h:az X z a g (.dat (.fix l)) g1)(h1:oK X z lo g1 i g2)(h2:oK X z hi g2 j g3):az X z (.Subscript a (.Slice lo hi none p2) pos) g (.new (fK l i j)) g3:=by
 obtain⟨t,q,k⟩:=h;obtain⟨t1,q1,k1⟩:=h1;obtain⟨t2,q2,k2⟩:=h2;refine⟨_,j5 uF q q1 q2,λO Y M H Q s kk=>k O Y M H _ s λv H1 aL M1 s1 cR R=>k1 O aL M1 H1 _ s1 λH2 aO M2 s2 aJ=>k2 O aO M2 H2 _ s2 λH3 iZ M3 s3 fC=>?_⟩
 have R':=Rep.stay (aJ.trans fC) R;cases R' with
 |@fix _ b xs e1 e2=>
  refine⟨b,xs,rfl,hK▸e1.sq,λp hp=>?_⟩
  exact kk _ _ iZ (p::M3) (s3.bA hp) (((cR.trans aJ).trans fC).trans (ao.bA hp)) ⟨p,_,rfl,dA,λhA=>s3.fresh hp (s3.sub p hA),s3.eK hp,aE,(e2.cut i j).stay (ao.bA hp)⟩
theorem wF(hK:z.K=X.K)(h:az X z a g (.dat (.tup l)) g1)(h1:oK X z lo g1 i g2)(h2:oK X z hi g2 j g3):az X z (.Subscript a (.Slice lo hi none p2) pos) g (.dat (.tup (fK l i j))) g3:=by
 obtain⟨t,q,k⟩:=h;obtain⟨t1,q1,k1⟩:=h1;obtain⟨t2,q2,k2⟩:=h2;refine⟨_,j5 Ga q q1 q2,λO Y M H Q s kk=>k O Y M H _ s λv H1 aL M1 s1 cR R=>k1 O aL M1 H1 _ s1 λH2 aO M2 s2 aJ=>k2 O aO M2 H2 _ s2 λH3 iZ M3 s3 fC=>?_⟩
 have R':=Rep.stay (aJ.trans fC) R;cases R' with
 |@tup _ b xs e1 e2=>
  refine⟨b,xs,rfl,hK▸e1.sq,?_⟩;by_cases hw:HT.bB xs.length 0 i=0/\HT.bB xs.length xs.length j=xs.length
  .
   refine .inl ⟨hw.1,hw.2,kk _ _ iZ M3 s3 ((cR.trans aJ).trans fC) ?_⟩;have e:=sP (by rw[e2.length];exact hw)
   rw[e];exact .tup e1 e2
  . exact .inr ⟨hw,λp hp=>kk _ _ iZ M3 (s3.laid hp) (((cR.trans aJ).trans fC).trans (ao.laid hp)) (.tup (.inl ⟨s3.fresh hp,.inl aE⟩) ((e2.cut i j).stay (ao.laid hp)))⟩
theorem zD(hK:z.K=X.K)(h:az X z e g r g1)(hp:pk r g1=some d)(hb:FZ d=some b)(he:∀whole,isTrue e X.env whole=(do let v <- whole;standAt e.pos;holding [v] (truthy v))):bL X z e g b g1:=by
 obtain⟨t,q,k⟩:=h;refine⟨_,yJ q he,λO Y M H Q s kk=>k O Y M H _ s λv H1 aL M1 s1 cR R=>⟨b,?_,kk H1 aL M1 s1 cR⟩⟩
 have p:=s1.pk (ao.refl _ _) R hp;cases d with
 |non=>rw[p.non];cases hb;rfl
 |bl c=>rw[p.bl];cases hb;rfl
 |int i=>rw[p.int];cases hb;rfl
 |str x=>cases hb
 |emp=>cases hb
 |jE _=>cases hb
 |vY _ _=>cases hb
 |lst l=>obtain⟨a,xs,rfl,e1,e2⟩:=p.list;cases hb;refine .inl ⟨xs,cF.of e1,?_⟩;cases e2 <;> rfl
 |tup l=>obtain⟨a,xs,rfl,e1,e2⟩:=p.tup;cases hb;refine .inr (.inl ⟨xs,hK▸e1.sq,?_⟩);cases e2 <;> rfl
 |fix l=>obtain⟨a,xs,rfl,e1,e2⟩:=p.fix;cases hb;refine .inl ⟨xs,hK▸e1.sq,?_⟩;cases e2 <;> rfl
end
section
theorem NC(I:L2.Inv X ah O H s)(p:Pk X.K M H d v)(r:RelV v u):∃Hh,PySem.W.KitX X.K u (x9 d) Hh/\Hh s.heap/\u≠.builtin "__main__.__loader__#opaque" :=by
 cases d with
 |non=>have q:=p.non;subst q;cases r;exact⟨_,PySem.W.kitx_none,True.intro,λz=>nomatch z⟩
 |bl y=>have q:=p.bl;subst q;cases r;exact⟨_,PySem.W.kitx_bool,True.intro,λz=>nomatch z⟩
 |int i=>have q:=p.int;subst q;obtain⟨t,rfl⟩:=r;exact⟨_,PySem.W.kitx_int,True.intro,λz=>nomatch z⟩
 |str y=>have q:=p.str;subst q;obtain⟨t,rfl⟩:=r;exact⟨_,PySem.W.kitx_str,True.intro,λz=>nomatch z⟩
 |tup l=>obtain⟨a,xs,rfl,ha,_⟩:=p.tup;cases r;obtain⟨aB,_,⟨o,h1,h2,_⟩,_⟩:=I.tuple ha.sq;exact⟨_,PySem.W.kitx_tuple,⟨o,h1,h2⟩,λz=>nomatch z⟩
 |lst l=>obtain⟨a,xs,rfl,ha,_⟩:=p.list;cases r;obtain⟨aB,_,pl,_⟩:=I.list (cF.of ha);obtain⟨o,h1,h2,_⟩:=pl.isList;exact⟨_,AU,⟨o,h1,h2⟩,λz=>nomatch z⟩
 |fix l=>obtain⟨a,xs,rfl,ha,_⟩:=p.fix;cases r;obtain⟨aB,_,pl,_⟩:=I.list ha.sq;obtain⟨o,h1,h2,_⟩:=pl.isList;exact⟨_,AU,⟨o,h1,h2⟩,λz=>nomatch z⟩
 |emp=>
  cases p with
  |of q=>
   cases q with
   |emp _ ha=>cases r;obtain⟨_,_,vs,_,o,es,ep,h1,h2,_⟩:=I.hok _ _ ha;exact⟨_,AV,⟨o,h1,h2.1⟩,λz=>nomatch z⟩
 |jE C=>
  cases p with
  |of q=>
   cases q with
   |jE k _ ha=>cases r;obtain⟨⟨o,h1,h2,h3,h4⟩,_⟩:=I.hok _ _ ha;exact⟨_,qw k,⟨o,h1,h2,h3,by rw[h4];trivial⟩,λz=>nomatch z⟩
 |vY ks ds=>
  cases p with
  |of q=>
   cases q with
   |vY _ ha _ _=>cases r;obtain⟨_,_,vs,_,o,es,ep,h1,h2,_⟩:=I.hok _ _ ha;exact⟨_,AV,⟨o,h1,h2.1⟩,λz=>nomatch z⟩
theorem uN:∀{ns:List String}{us:List Value},Vals (ns.map V.ty) us->us=ns.map Value.type
 | [],_,r=>by rw[List.map_nil]at r;cases r;rfl
 |n::ns,_,r=>by
  cases r with
  |cons r1 r2=>cases r1;rw[uN r2];rfl
theorem wG:dg X (.builtin "isinstance") (λxs H Q=>∃(x:V) (p:Addr) (ns:List String) (M:List Addr) (d:D) (b:Bool),xs=[x,.ref p]/\Pk X.K M H d x/\ig X.K H p (ns.map V.ty)/\PySem.W.kitAny X.K (x9 d) (ns.map Value.type)=some b/\Q (.bl b) H):=by intro ah s O H xs us Q I r h;obtain⟨x,p,ns,M,d,b,rfl,pk,hp,e,q⟩:=h;obtain⟨u,w',rfl,r1,r2⟩:=vals2 r;cases r2;obtain⟨Hh,Zk,hH,hx⟩:=NC I pk r1;obtain⟨aB,rv,⟨o,h1,h2,n,h3⟩,_⟩:=I.tuple hp;rw[uN rv]at h3;obtain⟨c,dd,dt,sl⟩:=o;have h2':=h2;have h3':=h3;subst h2' h3';exact PySem.W.kia_tup Zk I.jL hH h1 e hx λtk=>⟨.bl b,H,I.tok tk,rfl,q⟩
structure Yv(X:Cx)(T:Str)(n:String):Prop where
 gl:Gl X T
 mg:X.mg T=none
 bt:bootBuiltins T=some (.type n)
 nn:T≠ "__name__"
 db:(T==(~~~3))=false
inductive kJ(X:Cx):List Expr->List String->Prop
 |nil:kJ X [] []
 |cons {T:Str}{n:String}{p:Pos}{es:List Expr}{ns:List String}:Yv X T n->kJ X es ns->kJ X (.Name T p::es) (n::ns)
theorem kJ.pa(h:kJ X es ns):∃t,PA X es t/\∀O H (Q:List V->Hp->Prop),Q (ns.map V.ty) H->t O H Q:=by
 induction h with
 |nil=>exact⟨_,jf,λO H Q q=>q⟩
 |@cons T n p es ns h _ ih=>obtain⟨t,q,k⟩:=ih;have pT:PE X (.Name T p) (tC (.ty n)):=n6 h.gl h.mg h.bt rfl h.nn h.db;exact⟨_,bQ pT q rfl,λO H Q hq=>k O H _ hq⟩
theorem Gb(hK:z.K=X.K)(h:az X z a g r1 g1)(hp:pk r1 g1=some d)(ht:kJ X es ns)(hl:ns.length<=16777216)(he:∀M H v,Pk X.K M H d v->PySem.W.kitAny X.K (x9 d) (ns.map Value.type)=some b)
  (hg:Gl X "isinstance") (hm:X.mg "isinstance"=none) (hv:bootBuiltins "isinstance"=some (.builtin "isinstance"))
  (hs:starEach [a,.Tuple es k pT] X.env=(false,eval a X.env)::starEach [.Tuple es k pT] X.env):az X z (.Call (.Name "isinstance" p) [a,.Tuple es k pT] [] pos) g (.dat (.bl b)) g1:=by
 obtain⟨t,q,kk⟩:=h;obtain⟨tt,qt,kt⟩:=ht.pa;refine⟨_,fE wG hg hm hv (bQ q (bQ (yL qt) jf) hs) ⋯ ⋯ hs,λO Y M H Q s kq=>kk O Y M H _ s λv H' aA M' s' st R=>kt O H' _ ⟨by rw[eC];exact ng hl,λa ha=>?_⟩⟩
 have s2:=s'.laid (o:=.tup (ns.map V.ty)) ha;have pp:=s'.pk (ao.refl _ _) R hp;refine⟨v,a,ns,M',d,b,rfl,?_,.inl (.inl aE),he _ _ _ (hK▸pp),kq _ _ aA M' s2 (st.trans (ao.laid ha)) (.bl b)⟩;rw[<- hK];cases pp with
 |of r=>exact .of (r.stay (ao.laid ha))
 |lst e1 e2=>exact .lst (by rw[au (aG e1 ha)];exact e1) (e2.stay (ao.laid ha))
end
noncomputable def ins(a:Int): ~~~0->List Int
 | []=>[a]
 |b::l=>if a<=b then a::b::l else b::ins a l
def cz: ~~~0->List Int
 | []=>[]
 |a::l=>ins a (cz l)
theorem kK(a:Int):∀l:List Int,(ins a l).Perm (a::l)
 | []=>List.Perm.refl _
 |b::l=>by
  unfold ins;split
  . exact List.Perm.refl _
  . exact ((kK a l).cons b).trans (List.Perm.swap a b l)
theorem cU:∀l:List Int,(cz l).Perm l
 | []=>List.Perm.refl _
 |a::l=>(kK a _).trans ((cU l).cons a)
theorem kL(a:Int):∀{l: ~~~0},l.Pairwise (· <= ·)->(ins a l).Pairwise (· <= ·)
 | [],_=>List.pairwise_singleton _ _
 |b::l,h=>by
  obtain⟨h1,h2⟩:=List.pairwise_cons.mp h;unfold ins;split
  .
   rename_i hab;refine List.pairwise_cons.mpr ⟨λx hx=>?_,h⟩
   rcases b0.mp hx with rfl |hx
   . exact hab
   . exact Int.le_trans hab (h1 x hx)
  .
   rename_i hab;refine List.pairwise_cons.mpr ⟨λx hx=>?_,kL a h2⟩
   rcases b0.mp ((kK a l).mem_iff.mp hx)with rfl |hx
   . lia
   . exact h1 x hx
theorem iK:∀l:List Int,(cz l).Pairwise (· <= ·)
 | []=>List.Pairwise.nil
 |a::l=>kL a (iK l)
theorem sQ(hp:m.Perm l)(hs:m.Pairwise (· <= ·)):m=cz l:=
 (hp.trans (cU l).symm).eq_of_pairwise (λx y _ _ h1 h2=>Int.le_antisymm h1 h2) hs (iK l)
section
theorem lY(hl:IsTup s.heap l vs.toArray)
  (h:Q vs { s with heap:=(s.heap.push (seqObj "list" #[] 0)).update s⁻¹ (Obj.mapSeq (· ++ vs.toArray))}) (iu:vs.length<=sizeLine) :
  wpAny (model prog w) A (collect (.ref l)) Q E s:=by
 obtain⟨o,ho,hc,n,hd⟩:=id hl;refine aS (wpAny_runValue (codeAny_builtin entry_proto_collect' ?_));refine aS (wpAny_newList (dS ⟨Code.quiet_builtin _ (by decide +kernel),codeAny_builtin entry_list_iadd' ?_⟩))
 show wpAny _ _ (Builtin.List.listExtendWith (.ref s⁻¹) (.ref l) (.ref s⁻¹)) _ _ { s with heap:=s.heap.push (seqObj "list" #[] 0)};have ho':(s.heap.push (seqObj "list" #[] 0)).get? l=some o:=a7 _ ho;refine aS (wpAny_typeOf ⟨o,ho',hc⟩ ?_);have ht:(Value.type "tuple" == Value.type "tuple")=true:=by rfl
 rw[lL (by rw[ht];simp)]
 refine aS (listItems_at ho' hd ?_);refine aS (listItems_at (dC _ rfl) rfl ?_);refine aS (listUpdate_at (dC _ rfl) rfl ?_ (Nat.zero_le _) (by show (#[]++vs.toArray).size<=sizeLine+1;simp only[Array.size_append,bP,List.length_nil];lia))
 refine dS ?_;refine aS (wpAny_load (get?_update_seq (dC _ rfl) _) ?_);show wpAny _ _ (pure ((#[]:Array Value)++vs.toArray).toList) Q E _;rw[show ((#[]:Array Value)++vs.toArray).toList=vs by simp]
 exact dS h
theorem oM(hl:IsTup s.heap l vs.toArray)(hI:IntsAre vs ns)(h64:vs.length<64)
  (h:∀(out:Array Value) (ns': ~~~0),IntsAre out.toList ns'->ns'.Perm ns->ns'.Pairwise (· <= ·)->Q (.ref (s⁻¹+1)) { s with heap:=sortedAll s.heap vs out}) :
  wpAny (model prog w) A (call (.builtin "sorted") [.ref l]) Q E s:=by
 refine Calls.call_function_entry kind_sorted plain_sorted entry_sorted (args_sorted1 _) ?_;refine aS (dS ?_);refine aS (lY hl ?_ (by rw[yY];lia))
 refine aS (wpAny_newList ?_);have iu:((s.heap.push (seqObj "list" #[] 0)).update s⁻¹ (Obj.mapSeq (· ++ vs.toArray))).objs.size=s⁻¹+1:=by rw[A9,size_push']
 have Wr:(((s.heap.push (seqObj "list" #[] 0)).update s⁻¹ (Obj.mapSeq (· ++ vs.toArray))).push (seqObj "list" vs.toArray 0)).get? (s⁻¹+1)=some (seqObj "list" vs.toArray 0):=by rw[<- iu];exact dC _ rfl
 rw[iu];refine aS (mB (tP slot_list_sort ⟨_,Wr,rfl⟩ entry_list_sort (list_sort_tree Wr hI h64 λout ns' a1 a2 a3=>⟨_,rfl,?_⟩) (args_list_sort _)))
 exact dS ⟨_,rfl,h out ns' a1 a2 a3⟩
end
section
theorem qB:dg X (.builtin "sorted") (λxs H Q=>∃p ns,xs=[.ref p]/\(cF X.K H p (ns.map V.int)\/ig X.K H p (ns.map V.int))/\ns.length<64/\∀q,H q=none->Q (.ref q) (upd H q (.lst ((cz ns).map V.int)))):=by
 intro ah s O H xs us Q I r h;obtain⟨p,ns,rfl,hq,hl,q⟩:=h;obtain⟨u,rfl,rx⟩:=vals1 r;cases rx;have fin:∀(vs:List Value) (out:Array Value) (ns': ~~~0),IntsAre out.toList ns'->ns'.Perm ns->ns'.Pairwise (· <= ·)->EP X ah O Q (.ref (s⁻¹+1)) { s with heap:=sortedAll s.heap vs out}:=λvs out ns' a1 a2 a3=>by
  have e:=sQ a2 a3;subst e;obtain⟨ep,he⟩:=sortedAll_at s.heap vs out;have aQ:=(cU ns).length_eq;refine⟨.ref (s⁻¹+1),_,I.laid (λb o e=>sortedAll_old e) (AE _) ?_,rfl,q _ (I.hok.fresh (AE _))⟩
  refine⟨by rw[eC,yY];lia,out.toList,ep,mY a1,?_⟩
  rw[he]
 rcases hq with hq |hq
 . obtain⟨aB,r',pl,hz⟩:=I.list hq;have aQ:=r'.length;rw[eC]at aQ;exact sorted_ints pl.isList (intsAre_of r') ⋯ λout ns' a1 a2 a3=>fin aB out ns' a1 a2 a3
 . obtain⟨aB,r',pl,hz⟩:=I.tuple hq;have aQ:=r'.length;rw[eC]at aQ;exact oM pl (intsAre_of r') ⋯ λout ns' a1 a2 a3=>fin aB out ns' a1 a2 a3
theorem nu{K:Frag}{M:List Addr}{H:Hp}:∀ns:List Int,aH K M H (ns.map D.int) (ns.map V.int)
 | []=>.nil
 |n::ns=>.cons (.int n) (nu ns)
theorem wH(hK:z.K=X.K)(h:cM d=some l)(hi:dJ l=some ns)(hl:ns.length<64):CallD X z (.builtin "sorted") [d] (.new ((cz ns).map .int)):=by
 refine⟨_,qB,λg O Y M H vs Q s p k=>?_⟩
 obtain⟨v,rfl,pv⟩:=p.one;have fin:∀q,H q=none->Q (.ref q) (upd H q (.lst ((cz ns).map V.int))):=λq hq=>k _ _ Y (q::M) (s.bA hq) (ao.bA hq) ⟨q,_,rfl,dA,λhA=>s.fresh hq (s.sub q hA),s.eK hq,aE,nu _⟩
 cases d with
 |lst m=>symm;obtain⟨a,xs,rfl,e1,e2⟩:=pv.list;have:=cE e2 hi;subst this;exact⟨a,ns,rfl,.inl (cF.of e1),hl,fin⟩
 |tup m=>symm;obtain⟨a,xs,rfl,e1,e2⟩:=pv.tup;have:=cE e2 hi;subst this;exact⟨a,ns,rfl,.inr (hK▸e1.sq),hl,fin⟩
 |fix m=>symm;obtain⟨a,xs,rfl,e1,e2⟩:=pv.fix;have:=cE e2 hi;subst this;exact⟨a,ns,rfl,.inl (hK▸e1.sq),hl,fin⟩
 |_=>symm
end
section
theorem cI.run(ha:cI X z es g rs g1)(I:L2.Inv X ah O H s)(st:S z g O Y M H)
  (k:∀vs us s1 H1 aL M1,L2.Inv X ah O H1 s1->Vals vs us->S z g1 O aL M1 H1->ao M H M1 H1->gQ z O M1 H1 rs vs->Post us s1):wpAny (~~~2) X.A (spliced (backTo pos (starEach es X.env))) Post X.xe s:=by
 obtain⟨t,q,kt⟩:=ha;exact bC (q pos ah s O H (λvs H1=>∃aL M1,S z g1 O aL M1 H1/\ao M H M1 H1/\gQ z O M1 H1 rs vs) I (kt O Y M H _ st λvs H1 aL M1 s1 cR R=>⟨aL,M1,s1,cR,R⟩)) (by rintro us s1 ⟨vs,H1,I1,r1,aL,M1,q1,q2,q3⟩;exact k vs us s1 H1 aL M1 I1 r1 q1 q2 q3)
end
section
theorem oN{ns: ~~~0}{aB:List Value}(r:Vals (ns.map V.int) aB){i:Nat}{v:Value}(h:aB[i]?=some v):∃t,v=.int (ns.getD i 0) t:=by
 have hi:i<ns.length:=by have:=(a9.mp h).1;have e:=r.length;rw[eC]at e;lia
 obtain⟨w,e1,e2⟩:=r.get (i:=i) (x:=V.int ns[i]) (by simp[hi])
 rw[h]at e1;cases e1;obtain⟨t,e⟩:=e2;exact⟨t,by rw[e];simp[hi]⟩
end
theorem kM(o:Obj)(f):(o.mapFields f).dict=o.dict:=by obtain⟨c,d,dt,sl⟩:=o;cases dt <;> rfl
structure pU(h₀:Heap)(x C:Addr)(H:Hp)(h:Heap):Prop where
 obj:∃oe vs,h.get? x=some oe/\oe.cls=.ref C/\oe.dict=none/\oe.data=.fields vs/\1<vs.size/\(vs[1]?=some .none\/∃T oT ts,vs[1]?=some (.ref T)/\T≠x/\h₀.get? T=none/\H T=none/\h.get? T=some oT/\oT.data=.fields ts/\ts[3]?=some .none)
 new:h₀.get? x=none
 no:H x=none
section
theorem iL
  (hfr:A.frames=some (env::outer)) (hl:s.heap.FunFrames base (env::outer)) (hf:env.frame=some L) (he:s.heap.get? x=some oe) (hd:oe.data=.fields vs) (iu:1<vs.size)
  (h:∀h',(∀b o,b∉frs (env::outer)->b≠x->s.heap.get? b=some o->h'.get? b=some o)->(∀b o,b∈frs (env::outer)->s.heap.get? b=some o->∃sl,h'.get? b=some { o with slots:=sl})->
   (∃yf vs' oT ts,h'.get? x=some yf/\yf.cls=oe.cls/\yf.dict=oe.dict/\yf.data=.fields vs'/\1<vs'.size/\vs'[1]?=some (.ref s⁻¹)/\h'.get? s⁻¹=some oT/\oT.data=.fields ts/\ts[3]?=some .none)->Q () { s with heap:=h'}) :
  wpAny M A (do let a <- frameOf env;let pl <- entryPlaceOf L hadNext;let b <- EntryCells.newEntry head a .none (rawInt L) .none pl;setField (.ref x) 1 b) (λ_ s'=>wpAny M A (setFlight (.ref x) none) Q E s') E s:=by
 have hx:x∉(env::outer).filterMap (·.frame):=λhm=>by
  obtain⟨_,o,ho,hnf⟩:=hl.mem hm;rw[he]at ho;cases ho;exact hnf vs hd
 refine aS (wpAny_frameOf_fun hfr hl hf λh₁ hs₁=>?_)
 refine aS (wpAny_entryPlaceOf λpl cW=>?_)
 refine aS (o6 ?_ (cW.sizeOk5 _ _ _ _ _));have he₁:=(hs₁.2.1 x hx).trans he;generalize hO:({ cls:=.type "traceback",dict:=none,data:=.fields ([head,.ref L,.none,rawInt L,.none]++(if pl.isEmpty then List.replicate 6 Value.none else pl)).toArray}:Obj)=qqq
 have he₂:=a7 qqq he₁;have hsz₁:=hs₁.1;have hT₂:(h₁.push qqq).get? h₁.objs.size=some qqq:=dC _ (by rw[<- hO];rfl)
 refine AC he₂ hd iu ?_;have NK:=wS (dL he₁);have hd₃:=rV hd (·.setIfInBounds 1 (Value.ref h₁.objs.size));have he₃:=mI (Obj.mapFields (·.setIfInBounds 1 (Value.ref h₁.objs.size))) he₂ (qS hd₃);have hT₃:=(fI (h₁.push qqq) (Obj.mapFields (·.setIfInBounds 1 (Value.ref h₁.objs.size))) (lS NK)).trans hT₂;have Yw:qqq.data=.fields ([head,.ref L,.none,rawInt L,.none]++(if pl.isEmpty then List.replicate 6 Value.none else pl)).toArray:=by rw[<- hO]
 refine aS (l8 he₃ hd₃ (x:=.ref h₁.objs.size) (by simp[iu]) ?_)
 refine AC hT₃ Yw (by simp only[bP,i4,tS] <;> lia) (h _ ?_ ?_ ?_)
 . intro b o hb Gd ho;have T6:=(hs₁.2.1 b hb).trans ho;rw[fI _ _ (wS (dL T6)),fI _ _ (lS Gd)];exact a7 _ T6
 .
  intro b o hb ho;obtain⟨sl,T6⟩:=hs₁.2.2 b o ho;have Gd:b≠x:=λq=>hx (q▸hb)
  refine⟨sl,?_⟩;rw[fI _ _ (wS (dL T6)),fI _ _ (lS Gd)];exact a7 _ T6
 .
  rw[<- hsz₁];refine⟨_,_,_,_,(fI _ _ NK).trans he₃,Obj.cls_mapFields _ _,kM _ _,hd₃,by simp[iu],by simp[iu],mI _ hT₃ (qS (rV Yw _)),rV Yw _,?_⟩
  first
   | (simp;done)
   | (rcases cW with rfl |⟨_,_,_,_,_,_,_,rfl⟩ <;> simp)
theorem lZ
  (hfr:A.frames=some (env::outer)) (hl:s.heap.FunFrames base (env::outer)) (hf:env.frame=some L) (fl:pU h₀ x C H s.heap) (hn:h₀.get? s⁻¹=none) (hH:∀b,s⁻¹<=b->H b=none)
  (h:∀h',(∀b o,b∉frs (env::outer)->(h₀.get? b=none->H b=none->∀vs,o.data≠.fields vs)->s.heap.get? b=some o->h'.get? b=some o)->(∀b o,b∈frs (env::outer)->s.heap.get? b=some o->∃sl,h'.get? b=some { o with slots:=sl})->
   pU h₀ x C H h'->(∀b o,s.heap.get? b=some o->∃o',h'.get? b=some o')->Q () { s with heap:=h'}):wpAny M A (noteFrame (.ref x) env) (λ_ s'=>wpAny M A (setFlight (.ref x) none) Q E s') E s:=by
 obtain⟨⟨oe,vs,he,hc,cB,hd,iu,hT⟩,Rc,Rf⟩:=fl;have hxf:x∉frs (env::outer):=λhm=>by
  obtain⟨_,o,ho,hnf⟩:=hl.mem hm;rw[he]at ho;cases ho;exact hnf vs hd
 have fin:∀(T0:Addr) (h1 h':Heap),(∀b,b≠T0->h1.get? b=s.heap.get? b)->(T0=x\/(h₀.get? T0=none/\H T0=none/\T0∉frs (env::outer)/\∃oT ts,s.heap.get? T0=some oT/\oT.data=.fields ts))->(∀o,s.heap.get? T0=some o->∃o',h1.get? T0=some o')->h1.objs.size=s⁻¹->
   (∀b o,b∉frs (env::outer)->b≠x->h1.get? b=some o->h'.get? b=some o)->(∀b o,b∈frs (env::outer)->h1.get? b=some o->∃sl,h'.get? b=some { o with slots:=sl})->
   (∃yf vs' oT ts,h'.get? x=some yf/\yf.cls=oe.cls/\yf.dict=oe.dict/\yf.data=.fields vs'/\1<vs'.size/\vs'[1]?=some (.ref h1.objs.size)/\h'.get? h1.objs.size=some oT/\oT.data=.fields ts/\ts[3]?=some .none)->Q () { s with heap:=h'}:=by
  rintro T0 h1 h' a1 a2 a2' a3 k1 k2 ⟨yf,vs',oT,ts,e1,e2,Yh,e3,e4,e5,e6,e7,e8⟩;have Yx:=a2.elim (λq=>q▸hxf) λq=>q.2.2.1
  refine h h' (λb o hb hH' ho=>?_) (λb o hb ho=>?_) ⟨⟨yf,vs',e1,e2.trans hc,Yh.trans cB,e3,e4,.inr ⟨h1.objs.size,oT,ts,e5,?_,?_,?_,e6,e7,e8⟩⟩,Rc,Rf⟩ λb o ho=>?_
  .
   have Gd:b≠x:=λq=>by
    subst q;rw[he]at ho;cases ho;exact hH' Rc Rf vs hd
   have WN:b≠T0:=λq=>a2.elim (λz=>Gd (q.trans z)) (by
    rintro⟨z1,z2,_,oT,ts,z3,z4⟩;subst q;rw[z3]at ho;cases ho;exact hH' z1 z2 ts z4)
   exact k1 b o hb Gd ((a1 b WN).trans ho)
  . exact k2 b o hb ((a1 b (λq=>Yx (q▸hb))).trans ho)
  . rw[a3];exact wS (dL he)
  . rw[a3];exact hn
  . rw[a3];exact hH _ (eA _)
  .
   by_cases Gd:b=x
   . exact⟨yf,Gd▸e1⟩
   .
    have h1b:∃o1,h1.get? b=some o1:=by
     by_cases WN:b=T0
     . subst WN;exact a2' o ho
     . exact⟨o,(a1 b WN).trans ho⟩
    obtain⟨o1,ho1⟩:=h1b;by_cases hb:b∈frs (env::outer)
    . obtain⟨sl,q⟩:=k2 b o1 hb ho1;exact⟨_,q⟩
    . exact⟨o1,k1 b o1 hb Gd ho1⟩
 unfold noteFrame;simp only[hf];rcases hT with hT |⟨T,oT,ts,h1,NK,WQ,WR,Dr,Ds,h3⟩
 . refine aS (l8 he hd hT ?_);exact iL hfr hl hf he hd iu λh' k1 k2 k3=>fin x s.heap h' (λ_ _=>rfl) (.inl rfl) (λo ho=>⟨o,ho⟩) rfl k1 k2 k3
 .
  refine aS (l8 he hd h1 ?_);refine aS (l8 Dr Ds h3 ?_);refine aS (AC Dr Ds (At.mp h3).1 ?_);have other:∀b,b≠T->(s.heap.update T (Obj.mapFields (·.setIfInBounds 3 Value.none))).get? b=s.heap.get? b:=λb hb=>fI _ _ (lS hb)
  have Yx:T∉frs (env::outer):=λhm=>by
   obtain⟨_,o,ho,hnf⟩:=hl.mem hm;rw[Dr]at ho;cases ho;exact hnf ts Ds
  have rec':∀b o,s.heap.get? b=some o->(∀vs,o.data≠.fields vs)->b≠T:=λb o hb hnf q=>by
   rw[q,Dr]at hb;cases hb;exact hnf ts Ds
  refine iL hfr (hl.of_keeps λb o hb hnf=>⟨o,(other b (rec' b o hb hnf)).trans hb,rfl⟩) hf ((other x (lS NK)).trans he) hd iu λh' k1 k2 k3=>?_
  exact fin T _ h' other (.inr ⟨WQ,WR,Yx,oT,ts,Dr,Ds⟩) (λo ho=>⟨_,mI _ Dr (qS (rV Ds _))⟩) (A9 ..) k1 k2 k3
end
theorem pU.mono(f:pU h₁ x C H h)(hm:∀b o,h₀.get? b=some o->∃o',h₁.get? b=some o'):pU h₀ x C H h:=by
 have no:∀b,h₁.get? b=none->h₀.get? b=none:=λb hb=>by
  cases e:h₀.get? b with
  |none=>rfl
  |some o=>obtain⟨o',e'⟩:=hm b o e;rw[hb]at e';cases e'
 obtain⟨⟨oe,vs,h1,h2,h2',h3,h4,h5⟩,h6,h7⟩:=f;exact⟨⟨oe,vs,h1,h2,h2',h3,h4,h5.imp id (by rintro⟨T,oT,ts,q1,q2,q3,q4⟩;exact⟨T,oT,ts,q1,q2,no T q3,q4⟩)⟩,no x h6,h7⟩
def yg(P:Program)(w:World):vU:=λouter H s E e s'=>∃x C H',e=.ref x/\s'.os=s.os/\AllBare s'.gens/\Un (frs outer) [] H H' s.heap s'.heap/\jc P w H' s'.heap/\pU s.heap x C H' s'.heap/\E (.ref C) none H'
theorem zE(hx:X.ex=[])(I:L2.Inv X ah O H s)(h:yg X.prog X.w X.stack H s E e s') :
  ∃x C H',e=.ref x/\L2.Inv X ah O H' s'/\pU X.s₀.heap x C H' s'.heap/\E (.ref C) none H':=by
 obtain⟨x,C,H',rfl,h1,h2,h3,h4,h5,h6⟩:=h;exact⟨x,C,H',rfl,I.call' h1 h3 h4 h2 (λb z=>absurd z ⋯),h5.mono λb o e=>I.base.there b o e (by rw[hx];simp),h6⟩
section
theorem qE(I:L2.Inv X ah O H' s')(cD:X.stack=X.env::X.outer)(hf:X.env.frame=some X.env.locals)(hex:X.ex=[])(fl:pU X.s₀.heap x C H' s'.heap)
  (h:∀h'',(∀b o,b∉frs (X.env::X.outer)->(X.s₀.heap.get? b=none->H' b=none->∀vs,o.data≠.fields vs)->s'.heap.get? b=some o->h''.get? b=some o)->(∀b o,b∈frs (X.env::X.outer)->s'.heap.get? b=some o->∃sl,h''.get? b=some { o with slots:=sl})->
   Un (frs X.outer) [] X.H₀ H' X.s₀.heap h''->jc X.prog X.w H' h''->pU X.s₀.heap x C H' h''->Q () { s' with heap:=h''}) :
  wpAny (~~~2) X.A (noteFrame (.ref x) X.env) (λ_ s2=>wpAny (~~~2) X.A (setFlight (.ref x) none) Q E' s2) E' s':=by
 have hl:=I.stack;rw[cD]at hl;have ub:=hex▸I.base;have hsf:=I.nZ;rw[cD]at hsf;refine lZ (I.ok.frames.trans (by rw[cD])) hl hf fl (Heap.get?_none_of_le I.sz) (λb hb=>I.hok.fresh hb) λh'' k1 k2 k3 k4=>?_
 have hin:∀b,b∈frs X.outer->b∈frs (X.env::X.outer):=λb hb=>by
  unfold frs;rw[sR,hf];exact a8 _ hb
 have hno:∀b o,X.s₀.heap.get? b=some o->b∉frs X.outer->b∉frs (X.env::X.outer):=λb o ho hb hm=>by
  unfold frs at hm;rw[sR,hf]at hm;rcases b0.mp hm with e |hm
  . rw[e]at ho;exact nS _ (eJ (dL ho) I.ok.above)
  . exact hb hm
 have nX:∀b o (ob:Obj),X.s₀.heap.get? b=some o->(X.s₀.heap.get? b=none->H' b=none->∀vs,ob.data≠.fields vs):=λb o ob ho hb=>by rw[ho]at hb;cases hb
 refine h h'' k1 k2 ⟨λb o q n hb hx=>?_,λb o q n hb hx=>?_,ub.free,λb o q hx=>?_,ub.tups,ub.iz,ub.iA⟩ (λa o e=>?_) k3
 . exact k1 b o (hno b o q hb) (nX b o _ q) (ub.keep b o q n hb hx)
 . obtain⟨sl,e1⟩:=ub.slot b o q n hb hx;obtain⟨Wq,e2⟩:=k2 b _ (hin b hb) e1;exact⟨Wq,e2⟩
 . obtain⟨o',e1⟩:=ub.there b o q hx;exact k4 b o' e1
 .
  refine (I.hok a o e).stay (λb u hb q=>?_) (λ_ q=>q) λ_ _ q=>q
  have ht:H' b≠none:=by
   rcases hb with rfl |hb
   . rw[e];simp
   . rw[hb];simp
  exact k1 b u (λhm=>ht (hsf b hm)) (λ_ z=>absurd z ht) q
theorem nB(I:L2.Inv X ah O H' s')(cD:X.stack=X.env::X.outer)(hf:X.env.frame=some X.env.locals)(hex:X.ex=[])(fl:pU X.s₀.heap x C H' s'.heap)
  (h:∀s'',yg X.prog X.w X.outer X.H₀ X.s₀ (λc o h=>c=.ref C/\o=none/\h=H') (.ref x) s''->Q () s'') :
  wpAny (~~~2) X.A (leaving X.env (.ref x)) Q E' s':=by
 exact aS (qE I cD hf hex fl λh'' _ _ u k f=>h _ ⟨x,C,H',rfl,I.os,I.bare,u,k,f,rfl,rfl,rfl⟩)
theorem wI(I:L2.Inv X [] O H' s')(hp:X.pn=[])(cD:X.stack=X.env::X.outer)(hf:X.env.frame=some X.env.locals)(hex:X.ex=[])(fl:pU X.s₀.heap x C H' s'.heap)
  (h:∀s'',L2.Inv X [] O H' s''->pU X.s₀.heap x C H' s''.heap->Q () s'') :
  wpAny (~~~2) X.A (noteFrame (.ref x) X.env) (λ_ s2=>wpAny (~~~2) X.A (setFlight (.ref x) none) Q E' s2) E' s':=by
 refine qE I cD hf hex fl λh'' k1 k2 u k f=>h _ ?_ f
 have cellK:∀c v,s'.heap.IsCell c v->h''.IsCell c v:=by
  rintro c v ⟨o,e,d⟩;by_cases hb:c∈frs (X.env::X.outer)
  . obtain⟨sl,e2⟩:=k2 c o hb e;exact⟨_,e2,d⟩
  . exact⟨o,k1 c o hb (λ_ _ vs q=>by rw[d]at q;cases q) e,d⟩
 have hlm:X.env.locals∈frs (X.env::X.outer):=by unfold frs;rw[sR,hf];exact dA
 obtain⟨m,hn,hlk⟩:=I.loc;refine⟨I.ok,I.os,I.bare,hex▸u,⟨m,?_,λi y v h1 h2 h3=>?_⟩,λy c e=>?_,I.free,I.cG,λp hp2=>?_,k,I.len⟩
 . obtain⟨o,es,ep,e,d,r⟩:=hn;obtain⟨sl,e2⟩:=k2 _ o hlm e;exact⟨_,es,ep,e2,d,r⟩
 . obtain⟨u,r,q⟩:=hlk i y v h1 h2 h3;refine⟨u,r,q.imp id (by rintro⟨q1,c,q2,q3⟩;exact⟨q1,c,q2,cellK c _ q3⟩)⟩
 . obtain⟨v,q⟩:=I.cell y c e;exact⟨v,cellK c v q⟩
 . rw[hp]at hp2;cases hp2
end
theorem zF{P:Program}{w:World}{K:Frag}{mg:Str->Option Value}{base:Heap}{N:List Str}{qual:Str}{scope:Scope}{f:Addr}{cd:Value}{A:Around}{outer:List Env}{s:Shared}{H:Hp}{E:XK}{ah: ~~~1}{O:Sg}{H':Hp}{s':Shared}{x C:Addr}
  (I:L2.Inv (eH (yg P w) P w K mg base N qual scope f cd A outer s H E) ah O H' s') (fl:pU s.heap x C H' s'.heap) (hE:E (.ref C) none H'):(eH (yg P w) P w K mg base N qual scope f cd A outer s H E).xe (.ref x) s':=
 nB I rfl rfl rfl fl (by
  rintro s'' ⟨y,D,H2,e,h1,h2,h3,h4,h5,e1,e2,e3⟩;cases e;cases e1;subst e3;exact⟨x,C,H2,rfl,h1,h2,h3,h4,h5,hE⟩)
def Acc(X:Cx)(z:Z)(g':G)(M:List Addr)(H:Hp)(C:Addr)(O:Sg):Prop:=
 ∀ah s1 H1 aL M1 x,L2.Inv X ah O H1 s1->S z g' O aL M1 H1->ao M H M1 H1->pU X.s₀.heap x C H1 s1.heap->X.xe (.ref x) s1
def wJ(X:Cx)(z:Z)(g':G)(M:List Addr)(H:Hp)(C:Addr):Prop:=∀O,Acc X z g' M H C O
theorem Acc.trans(st:ao M H M1 H1)(h:Acc X z g' M H C O):Acc X z g' M1 H1 C O:=λah s1 H2 aL M2 x I s st' fl=>h ah s1 H2 aL M2 x I s (st.trans st') fl
theorem wJ.trans(st:ao M H M1 H1)(h:wJ X z g' M H C):wJ X z g' M1 H1 C:=λO=>(h O).trans st
def jP(X:Cx)(z:Z)(e:Expr)(g:G)(C:Addr)(g':G):Prop:=∃t,PE X e t/\∀O Y M H Q,S z g O Y M H->Acc X z g' M H C O->t O H Q
def Rg(X:Cx)(z:Z)(e:Expr)(g:G)(C:Addr)(g':G):Prop:=∃t,PT X e t/\∀O Y M H Q,S z g O Y M H->Acc X z g' M H C O->t O H Q
def NP(X:Cx)(z:Z)(es:List Expr)(g:G)(C:Addr)(g':G):Prop:=∃t,PA X es t/\∀O Y M H Q,S z g O Y M H->Acc X z g' M H C O->t O H Q
def Dt(X:Cx)(z:Z)(st:Stmt)(g:G)(C:Addr)(g':G):Prop:=∃t,PS X st t/\∀O Y M H E,S z g O Y M H->wJ X z g' M H C->t E O H
def zG(X:Cx)(z:Z)(fZ:List Stmt)(g:G)(C:Addr)(g':G):Prop:=∃t,n5 X fZ t/\∀O Y M H E,S z g O Y M H->wJ X z g' M H C->t E O H
section
variable{st:Stmt}
theorem az.lift(h:az X.jM z e g r g'):az X z e g r g':=let ⟨t,q,k⟩:=h;⟨t,q.jM,k⟩
theorem bL.lift(h:bL X.jM z e g v g'):bL X z e g v g':=let ⟨t,q,k⟩:=h;⟨t,q.jM,k⟩
theorem bZ.lift(h:bZ X.jM z fZ g f g'):bZ X z fZ g f g':=let ⟨t,q,k⟩:=h;⟨t,q.jM,k⟩
theorem Ge(h:jP X z a g C g'):jP X z (.BinOp a op b pos) g C g':=by obtain⟨t,q,k⟩:=h;exact⟨_,yI (r:=λ_ _ _ _=>False) (λ_ _ _ _ _ _ _ _ _ _ _ _ h=>h.elim) q dI,λO Y M H Q s ac=>k O Y M H _ s ac⟩
theorem Gf(h1:az X z a g r g1)(h:jP X z b g1 C g'):jP X z (.BinOp a op b pos) g C g':=by obtain⟨t1,q1,k1⟩:=h1;obtain⟨t,q,k⟩:=h;exact⟨_,yI (r:=λ_ _ _ _=>False) (λ_ _ _ _ _ _ _ _ _ _ _ _ h=>h.elim) q1 q,λO Y M H Q s ac=>k1 O Y M H _ s λv H1 aL M1 s1 cR R1=>k O aL M1 H1 _ s1 (ac.trans cR)⟩
theorem zH(h:jP X z e g C g')(he:∀whole,isTrue e X.env whole=(do let v <- whole;standAt e.pos;holding [v] (truthy v))):Rg X z e g C g':=by obtain⟨t,q,k⟩:=h;exact⟨_,K6 q he,λO Y M H Q s ac=>k O Y M H _ s ac⟩
theorem Gg(h:Rg X z a g C g'):Rg X z (.UnaryOp .Not a pos) g C g':=by obtain⟨t,q,k⟩:=h;exact⟨_,yy q,λO Y M H Q s ac=>k O Y M H _ s ac⟩
theorem Gh(h:jP X z e g C g')(hs:starEach (e::es) X.env=(false,eval e X.env)::starEach es X.env):NP X z (e::es) g C g':=by
 obtain⟨t,q,k⟩:=h;have pn:PA X es (λ_ _ _=>False):=λ_ _ _ _ _ _ _ h=>h.elim
 exact⟨_,bQ q pn hs,λO Y M H Q s ac=>k O Y M H _ s ac⟩
theorem Gi(h1:az X z e g r g1)(h:NP X z es g1 C g')(hs:starEach (e::es) X.env=(false,eval e X.env)::starEach es X.env):NP X z (e::es) g C g':=by obtain⟨t1,q1,k1⟩:=h1;obtain⟨t,q,k⟩:=h;exact⟨_,bQ q1 q hs,λO Y M H Q s ac=>k1 O Y M H _ s λv H1 aL M1 s1 cR R1=>k O aL M1 H1 _ s1 (ac.trans cR)⟩
theorem NQ(h:jP X z e g C g'):Dt X z (.Return (some e) pos) g C g':=by obtain⟨t,q,k⟩:=h;exact⟨_,yC q,λO Y M H E s ac=>k O Y M H _ s (ac O)⟩
theorem Gj(h:jP X z e g C g')(hs:swapsWith e none pos.line X.env=pure false):Dt X z (.Expr e pos) g C g':=by obtain⟨t,q,k⟩:=h;exact⟨_,ux q hs,λO Y M H E s ac=>k O Y M H _ s (ac O)⟩
theorem NR(h:Rg X z c g C g'):Dt X z (.If c x y pos) g C g':=by obtain⟨t,q,k⟩:=h;exact⟨_,qa q bf bf,λO Y M H E s ac=>k O Y M H _ s (ac O)⟩
theorem zI(h1:bL X z c g v g1)(h:zG X z (if v then x else y) g1 C g'):Dt X z (.If c x y pos) g C g':=by
 obtain⟨t1,q1,k1⟩:=h1;obtain⟨t,q,k⟩:=h;cases v with
 |true=>exact⟨_,qa q1 q bf,λO Y M H E s ac=>k1 O Y M H _ s λH' aA M' s' st=>jD (k O aA M' H' _ s' (ac.trans st))⟩
 |false=>exact⟨_,qa q1 bf q,λO Y M H E s ac=>k1 O Y M H _ s λH' aA M' s' st=>oA (k O aA M' H' _ s' (ac.trans st))⟩
theorem Gk(h:Dt X z st g C g'):zG X z (st::fZ) g C g':=by obtain⟨t,q,k⟩:=h;exact⟨_,cS q bf,λO Y M H E s ac=>k O Y M H _ s ac⟩
theorem Gm(h1:eS X z st g .nx g1)(h:zG X z fZ g1 C g'):zG X z (st::fZ) g C g':=by obtain⟨t1,q1,k1⟩:=h1;obtain⟨t,q,k⟩:=h;exact⟨_,cS q1 q,λO Y M H E s ac=>k1 O Y M H _ s λσ' aA M' H' s' st'=>k σ' aA M' H' E s' (ac.trans st')⟩
end
def Yy(K:Frag)(N:List Str)(np:Nat)(run:List Nat->G->Addr->G->Prop):Sp:=λvs H _ E=>
 vs.length=np/\∃(z:Z) (g g':G) (Y M:List Addr) (C:Addr),z.K=K/\S z g (L2.start N vs) Y M H/\run z.bor g C g'/\∀σ' aA M' H',S z g' σ' aA M' H'->ao M H M' H'->E (.ref C) none H'
section
variable{run:List Nat->G->Addr->G->Prop}
theorem NT{P:Program}{w:World}{K:Frag}{mg:Str->Option Value}{base:Heap}{qual:Str}{st:Stmt}(F:Eo K x qual st f fd)(Sc:bE N ps (aD st))
  (h:∀(bh:Value) (A:Around) (outer:List Env) (s:Shared) (H:Hp) (E:XK),PySem.W.codeIn K bh qual=true->bK k (A.deeper (envOfC qual (aD st) s⁻¹ f bh))->
   ∀(z:Z) (g:G) (C:Addr) (g':G),z.K=K->run z.bor g C g'->zG (eH (yg P w) P w K mg base N qual (aD st) f bh A outer s H E) z (aU st) g C g') :
  gJ P w K mg base (yg P w) (k+1) f fd ps (Yy K N ps.length run):=by
 obtain⟨oc,od,kV,doc,pm,an,bh,ct,osl,rfl,lk,cB⟩:=F.ex;refine Kd lk cB Sc (λvs H Q E q=>q.1) ?_
 rintro A outer s H vs Q E hr ⟨_,z,g,g',Y,M,C,hK,hs,hrun,hQ⟩;obtain⟨t,q,kk⟩:=h bh A outer s H E cB hr z g C g' hK hrun;exact⟨t,q,kk _ Y M H _ hs λO ah s1 H1 aL M1 y I s' st' fl=>zF I fl (hQ O aL M1 H1 s' st')⟩
theorem Gn(F:gJ X.prog X.w X.K X.mg X.base (yg X.prog X.w) k f fd ps (Yy X.K N ps.length run))(hK:z.K=X.K)(hex:X.ex=[])(hr:bK k X.A)(hg:Gl X x)(hm:X.mg x=some (.ref f))(hk:PySem.W.keepIn X.K (.ref f)=true)(hb:L2.Binds X.K fd ps [])
  (ha:cI X z (e::es) g rs g1) (aQ:rs.length=ps.length) (hl:bM rs g1=some gs) (nd:((vars 0 rs).map (·.2)).Nodup) (hrun:run ((vars 0 rs).map (·.1)) (bN N.length gs) C gc) (zo:back (vars 0 rs) gc g1=some gO)
  (fY:(x==(~~~3))=false) (he:starEach (e::es) X.env=(false,eval e X.env)::starEach es X.env) (cW:(backTo pos (starEach es X.env)).any (·.1)=false) :
  jP X z (.Call (.Name x p) (e::es) [] pos) g C gO:=by
 refine⟨λO H Q=>∃Y M,S z g O Y M H/\Acc X z gO M H C O,?_,λO Y M H Q s ac=>⟨Y,M,s,ac⟩⟩
 rintro ah s O H Q I ⟨Y,M,hs,ac⟩;refine oC (eF I hg hm ?_ fY);refine AH I.ok.mod.yu hk (ha.run I hs λvs us s1 H1 aL M1 I1 r1 q1 q2 R1=>⟨I1.jL,?_⟩) he cW
 have hv:=R1.length;have hl2:(us++[]).length=ps.length:=by rw[nK,<- r1.length,hv,aQ]
 have ee:=q1.enter (N:=N) R1 hl nd;refine BH (y0 (F.run X.A X.stack s1 H1 ⟨us,[]⟩ (us++[]) (vs++[]) (λ_ _=>False) (λcls _ H'=>cls=.ref C/\∃aO M2,S z gO O aO M2 H'/\ao M H M2 H') hr I1.Eg (hb s1 us I1.jL hl2) (by rw[nK,nK];exact r1) ?_) λr s' hq=>?_)
 .
  rw[nK];refine⟨by rw[hv,aQ],nk z O M1 H1 rs,bN N.length gs,gc,_,M1,C,hK,ee,by rw[ji];exact hrun,λσ' aA M' H' s' st'=>⟨rfl,?_⟩⟩
  obtain⟨M2,s2,aJ,_⟩:=q1.leave (r:=.dat .non) R1 hl nd s' st' .non zo rfl;exact⟨aL,M2,s2,q2.trans aJ⟩
 .
  cases r with
  |error ev=>
   have hq:yg X.prog X.w X.stack H1 s1 (λcls _ H'=>cls=.ref C/\∃aO M2,S z gO O aO M2 H'/\ao M H M2 H') ev s':=hq
   obtain⟨y,C',H',rfl,I',fl,hC,aO,M2,s2,aJ⟩:=zE hex I1 hq;cases hC;exact ac ah s' H' aO M2 y I' s2 aJ fl
  |ok Yz=>
   cases Yz with
   |ret u=>obtain⟨_,_,_,_,_,_,_,q⟩:=hq;exact q.elim
   |next=>exact False.elim hq
   |brk=>exact False.elim hq
   |cont=>exact False.elim hq
end
noncomputable def veM:List Value:=[.type "ValueError",.type "Exception",.type "BaseException",.type "object"]
abbrev dz(K:Frag)(C:Addr):Prop:=PySem.W.excIn K C veM "ValueError.__new__"=true
theorem oO{K:Frag}{h:Heap}{C:Addr}(X:K.In h)(q:dz K C) :
  ∃bm N nm qn bs hdct sn sub ab col dd k0 k1 k2 k3 k5 mN,h.get? C=some (excClassObj nm qn C N bs bm hdct sn sub ab col dd k0 k1 k2 k3 k5 "ValueError.__new__")/\h.Ns N mN/\mN "__init__"=none/\OwnTail h veM bm:=by
 unfold dz PySem.W.excIn at q;split at q
 .
  rename_i dd cd sl ho;split at q
  .
   rename_i C' bm k0 k1 k2 k3 n k5 hm hs;simp only[eQ,beq_iff_eq,Bool.not_eq_true']at q;obtain⟨⟨⟨⟨⟨rfl,rfl⟩,YB⟩,ht⟩,hok⟩,hni⟩:=q;obtain⟨nm,bs,mro,ns,qn,hd,sn,sub,ab,col,del⟩:=cd;subst hm YB;have hsl:sl = #[k0,k1,k2,k3,some (.builtin "ValueError.__new__"),k5]:=by obtain⟨l⟩:=sl;simp only at hs;rw[hs]
   subst hsl;exact⟨bm,ns,nm,qn,bs,hd,sn,sub,ab,col,dd,k0,k1,k2,k3,k5,_,X _ _ ho,.of_isNs (PySem.W.isNs_of_in X hok),PySem.W.nsMap_none_of_in X hok hni,PySem.W.tail_of_in X ht⟩
  . cases q
 . cases q
theorem qF(x:cg P w H h a o):∃ob,h.get? a=some ob:=by
 induction o with
 |lst xs=>obtain⟨_,_,_,_,e⟩:=x;exact⟨_,e⟩
 |tup xs=>obtain⟨_,_,_,ob,e,_⟩:=x;exact⟨_,e⟩
 |dK eu=>obtain⟨_,_,_,_,o,_,_,e,_⟩:=x;exact⟨_,e⟩
 |dT eu=>obtain⟨_,_,_,_,o,_,_,e,_⟩:=x;exact⟨_,e⟩
 |set S n=>obtain⟨o,_,_,_,e,_⟩:=x;exact⟨_,e⟩
 |ins C dx fs=>obtain⟨_,_,_,e,_⟩:=x;exact⟨_,e⟩
 |own y=>exact x
 |xd fs=>obtain⟨mA,⟨o,_,_,e,_⟩,_⟩:=x;exact⟨_,e⟩
 |Wk lo hi=>obtain⟨_,_,_,e⟩:=x;exact⟨_,e⟩
 |g9 o u ih=>exact⟨_,x.1⟩
 |jA ps=>exact⟨_,x⟩
 |met f y=>exact⟨_,x⟩
 |ext φ=>exact x.2.1
section
theorem zJ(hc:X.calm=true)(hex:X.ex=[])(hq:dz X.K C)(hg:Gl X x)(hm:X.mg x=some (.ref C))(fY:(x==(~~~3))=false)(ha:cI X z [m] g [.dat d] g1)(hs:starEach [m] X.env=[(false,eval m X.env)]) :
  Dt X z (.Raise (some (.Call (.Name x np) [m] [] cC)) none pos) g C g1:=by
 refine⟨λ_ O H=>∃Y M,S z g O Y M H/\wJ X z g1 M H C,?_,λO Y M H E s ac=>⟨Y,M,s,ac⟩⟩
 rintro ah s O H E I ⟨Y,M,st,ac⟩;obtain⟨bm,N,nm,qn,bs,hdct,sn,sub,ab,col,dd,k0,k1,k2,k3,k5,mN,hC,hN,hni,T⟩:=oO I.ok.mod.yu hq;refine wpAny_Raise_call_subU (nm:=nm) (q:=qn) (N:=N) (bs:=bs) (hdct:=hdct) (sn:=sn) (sub:=sub) (ab:=ab) (col:=col) (dd:=dd) (k0:=k0) (k1:=k1) (k2:=k2) (k3:=k3) (k5:=k5) PySem.F.excBase_ValueError ⋯ PySem.F.excBase_ValueError (T.hasType ⋯) (I.ok.hd hc) (by rw[hs];rfl) hni (eF I hg hm ⟨rfl,?_⟩ fY)
 rw[hs];refine Calls.evalArgs_plain (x:=eval m X.env) (rest:=[]) ?_;have e1:spliced ((false,eval m X.env)::[])=spliced (backTo cC (starEach [m] X.env)):=by rw[hs];rfl
 rw[e1];refine (ha.run I st λvs us s1 H1 aL M1 I1 r1 q1 q2 R1=>?_)
 refine⟨rfl,?_,I1.bk _ _ hC,hN.keeps I1.bk,T.keeps I1.bk,λh' e WT=>?_⟩
 . show us.length<=sizeLine;have:=r1.length;rw[R1.length]at this;rw[<- this];exact (by decide:(1:Nat)<=16777216)
 .
  have I2:=I1.kept (t':=s1.toks) WT.keeps;have uq:H1 e=none:=by
   cases q:H1 e with
   |none=>rfl
   |some o=>obtain⟨ob,ho⟩:=qF (I1.hok e o q);have hn:=WT.new;rw[ho]at hn;cases hn
  refine ac O ah _ H1 aL M1 e I2 q1 q2 ?_;obtain⟨t,ht,_,_⟩:=WT.there;refine⟨⟨_,_,ht,rfl,rfl,rfl,by simp,.inl ⋯⟩,?_,uq⟩
  cases q:X.s₀.heap.get? e with
  |none=>rfl
  |some o=>
   obtain⟨ob,ho⟩:=I1.base.there e o q (by rw[hex];simp)
   have hn:=WT.new;rw[ho]at hn;cases hn
end
section
theorem NX(h:jP X z a g C g')(hs:jN b):jP X z (.Subscript a b pos) g C g':=by obtain⟨t,q,k⟩:=h;exact⟨_,Ke (r:=λ_ _ _ _=>False) (λ_ _ _ _ _ _ _ _ _ _ _ _ _ _ h=>h.elim) q dI hs,λO Y M H Q s ac=>k O Y M H _ s ac⟩
theorem zK{x:Str}{id:String}(h:NP X z (e::es) g C g')(hg:Gl X x)(hm:X.mg x=none)(hv:bootBuiltins x=some (.builtin id))(hn:x≠ "__name__")(fY:(x==(~~~3))=false)
  (he:starEach (e::es) X.env=(false,eval e X.env)::starEach es X.env) (cW:(backTo pos (starEach es X.env)).any (·.1)=false):jP X z (.Call (.Name x p) (e::es) [] pos) g C g':=by
 obtain⟨t,q,k⟩:=h;exact⟨_,fE (r:=λ_ _ _=>False) (λ_ _ _ _ _ _ _ _ _ h=>h.elim) hg hm hv q hn fY he cW,λO Y M H Q s ac=>k O Y M H _ s ac⟩
theorem wK(h:NP X z (e::es) g C g')(hg:Gl X x)(hm:X.mg x=none)(hv:bootBuiltins x=some (.type T))(hn:x≠ "__name__")(fY:(x==(~~~3))=false)
  (he:starEach (e::es) X.env=(false,eval e X.env)::starEach es X.env) (cW:(backTo pos (starEach es X.env)).any (·.1)=false):jP X z (.Call (.Name x p) (e::es) [] pos) g C g':=by
 obtain⟨t,q,k⟩:=h;exact⟨_,mW (r:=λ_ _ _=>False) (λ_ _ _ _ _ _ _ _ _ h=>h.elim) hg hm hv q hn fY he cW,λO Y M H Q s ac=>k O Y M H _ s ac⟩
theorem zL(F:gJ X.prog X.w X.K X.mg X.base sH k f fd ps sp)(h:NP X z (e::es) g C g')(hr:bK k X.A)(hg:Gl X x)(hm:X.mg x=some (.ref f))(hk:PySem.W.keepIn X.K (.ref f)=true)(hb:L2.Binds X.K fd ps [])
  (fY:(x==(~~~3))=false) (he:starEach (e::es) X.env=(false,eval e X.env)::starEach es X.env) (cW:(backTo pos (starEach es X.env)).any (·.1)=false):jP X z (.Call (.Name x p) (e::es) [] pos) g C g':=by
 obtain⟨t,q,kk⟩:=h;exact⟨_,uz F hr hg hm hk hb .nil Kf q fY he cW,λO Y M H Q s ac=>kk O Y M H _ s ac⟩
theorem NZ(hn:FG X x i)(h:jP X z e g C g')(hs:swapsWith e (some (.Name x pos')) pos.line X.env=pure false):Dt X z (.Assign [.Name x pos'] e pos) g C g':=by obtain⟨t,q,kk⟩:=h;exact⟨_,jY hn.nd hn.ix hn.lc q hs hn.fn,λO Y M H E s ac=>kk O Y M H _ s (ac O)⟩
inductive eU(X:Cx)(z:Z)(body:List Stmt)(T:Tg)(C:Addr):List D->G->G->Prop
 |here {d:D}{l:List D}{g g0 g':G}:T.set d g=some g0->zG X z body g0 C g'->eU X z body T C (d::l) g g'
 |next {d:D}{l:List D}{g g0 g1 g':G}:T.set d g=some g0->bZ X z body g0 .nx g1->eU X z body T C l g1 g'->eU X z body T C (d::l) g g'
 |cont {d:D}{l:List D}{g g0 g1 g':G}:T.set d g=some g0->bZ X z body g0 .ct g1->eU X z body T C l g1 g'->eU X z body T C (d::l) g g'
theorem N1(hp:PassesOwn (~~~2) X.A X.env X.xe)(hc:X.calm=true)(hw:cX X z tg iter g aj g1)(ht:kF X z tg T)(hb:eU X z body T C aj g1 g')(hs:∀y,foldedSetIterable iter X.env y=pure y) :
  Dt X z (.For tg iter body [] pos) g C g':=by
 obtain⟨wi,q,k⟩:=hw;obtain⟨t,qt,kt⟩:=ht;refine⟨_,su hp hc q qt jO hs,λO Y M H E s ac=>k O Y M H _ s λJ H1 aL M1 s1 cR hJ=>?_⟩
 refine⟨λi m σ2 H2=>i+m=aj.length/\∃g2 aO M2,S z g2 σ2 aO M2 H2/\ao M1 H1 M2 H2/\eU X z body T C (aj.drop i) g2 g',⟨aj.length,by lia,g1,aL,M1,s1,ao.refl _ _,by simpa using hb⟩,?_⟩
 rintro i m σ2 H2 ⟨Z7,g2,aO,M2,s2,aJ,lo⟩;obtain⟨hgo,hstop⟩:=hJ M2 H2 aJ;cases e:aj[i]? with
 |none=>
  have hi:i=aj.length:=by have:=u8.mp e;lia
  subst hi;rw[List.drop_length]at lo;cases lo
 |some d=>
  obtain⟨go,yl⟩:=hgo i d e;rw[drop_cons e]at lo;have hi:=(a9.mp e).1;refine .inr ⟨go,λσ' H'=>∃g3 iZ M3,S z g3 σ' iZ M3 H'/\ao M1 H1 M3 H'/\eU X z body T C (aj.drop (i+1)) g3 g',by rintro σ' H' ⟨g3,iZ,M3,w1,w2,w3⟩;exact⟨m - 1,by lia,by lia,g3,iZ,M3,w1,w2,w3⟩,λx H' hx=>?_⟩
  obtain⟨s3,fC,rx⟩:=yl x H' hx z g2 σ2 aO rfl s2;have wz:=aJ.trans fC;cases lo with
  |here e0 b=>
   refine kt d g2 _ e0 x σ2 aO M2 H' _ s3 rx λσ' aA s' _=>?_
   obtain⟨t,q,kb⟩:=b;exact⟨t,q,kb _ aA M2 H' _ s' (ac.trans (cR.trans wz))⟩
  |next e0 b h=>
   refine kt d g2 _ e0 x σ2 aO M2 H' _ s3 rx λσ' aA s' _=>?_
   obtain⟨t,q,kb⟩:=b;exact⟨t,q,kb _ aA M2 H' _ s' λσ4 jk M4 H4 s4 oH=>⟨_,jk,M4,s4,wz.trans oH,h⟩⟩
  |cont e0 b h=>
   refine kt d g2 _ e0 x σ2 aO M2 H' _ s3 rx λσ' aA s' _=>?_
   obtain⟨t,q,kb⟩:=b;exact⟨t,q,kb _ aA M2 H' _ s' λσ4 jk M4 H4 s4 oH=>⟨_,jk,M4,s4,wz.trans oH,h⟩⟩
theorem Gp(hp:PassesOwn (~~~2) X.A X.env X.xe)(hc:X.calm=true)(h:jP X z iter g C g')(hs:∀y,foldedSetIterable iter X.env y=pure y):Dt X z (.For tg iter body [] pos) g C g':=by obtain⟨t,q,kk⟩:=h;exact⟨_,su hp hc (n9 q) (sO) jO hs,λO Y M H E s ac=>kk O Y M H _ s (ac O)⟩
end
open PySem PySem.W PyProof.Rows
structure WW(α:Type) where
 lt:α->α->Bool
 irr:∀a,lt a a=false
 tr:∀a b c,lt a b=true->lt b c=true->lt a c=true
 tot:∀a b,lt a b=false->lt b a=false->a=b
namespace WW
variable{α:Type}(qqq:WW α)
def le(a b:α):Prop:=qqq.lt b a=false
variable{qqq}
end WW
open L2 PySem.W
open L2 PySem.W
open L2 PySem.W
noncomputable def eV(n:Int): ~~~0->Int
 | []=>n
 |m::l=>eV (if m<n then m else n) l
theorem oR:∀(l: ~~~0) (n:Int),eV n l<=n/\(∀x∈l,eV n l<=x)/\(eV n l=n\/eV n l∈l)
 | [],n=>⟨Int.le_refl _,λ_ z=>(nomatch z),.inl rfl⟩
 |m::l,n=>by
  obtain⟨h1,h2,h3⟩:=oR l (if m<n then m else n)
  unfold eV;refine⟨?_,λx hx=>?_,?_⟩
  . split at h1 <;> split <;> lia
  .
   rcases b0.mp hx with rfl |hx
   . split at h1 <;> split <;> lia
   . exact h2 x hx
  .
   rcases h3 with h3 |h3
   .
    by_cases hm:m<n
    . rw[lL hm]at h3 ⊢;exact .inr (by rw[h3];exact dA)
    . rw[i8 hm]at h3 ⊢;exact .inl h3
   . exact .inr (a8 _ h3)
theorem zM(n:Int)(l: ~~~0):(n::l).getD (argBest (λi j=>decide ((n::l).getD i 0<(n::l).getD j 0)) l.length) 0=eV n l:=by
 obtain⟨h1,h2⟩:=argBest_lt (λi=>(n::l).getD i 0) l.length
 obtain⟨m1,m2,m3⟩:=oR l n;generalize argBest (λi j=>decide ((n::l).getD i 0<(n::l).getD j 0)) l.length=k at h1 h2 ⊢
 have hmem:(n::l).getD k 0∈n::l:=by
  have:k<(n::l).length:=by rw[tS];lia
  rw[List.getD_eq_getElem?_getD,kA this];exact List.getElem_mem _
 have a:eV n l<=(n::l).getD k 0:=by
  rcases b0.mp hmem with e |e
  . rw[e];exact m1
  . exact m2 _ e
 have b:(n::l).getD k 0<=eV n l:=by
  have:=m3.elim (λe=>by rw[e];exact dA) (a8 _)
  obtain⟨j,hj,e⟩:=List.getElem_of_mem this;have q:=h2 j (by rw[tS]at hj;lia)
  rw[show (n::l).getD j 0=eV n l by rw[List.getD_eq_getElem?_getD,kA hj];exact e]at q
  exact q
 lia
section
variable{X:Cx}{z:Z}
theorem nD{h h':Heap}{o:Obj}(hk:∀b ob,b∉[h.objs.size]->(h.push o).get? b=some ob->h'.get? b=some ob):∀b ob,h.get? b=some ob->h'.get? b=some ob:=λb ob e=>
 hk b ob (λhm=>by
  have:b=h.objs.size:=by simpa using hm
  exact absurd (dL e) (by rw[this];exact nS _)) (a7 _ e)
theorem wL(hc:X.calm=true):dg X (.builtin "min") (λxs H Q=>∃(p:Addr) (n:Int) (l: ~~~0),xs=[.ref p]/\(cF X.K H p ((n::l).map V.int)\/ig X.K H p ((n::l).map V.int))/\Q (.int (eV n l)) H):=by
 intro ah s O H xs us Q I r h;obtain⟨p,n,l,rfl,hp,q⟩:=h;obtain⟨u,rfl,rx⟩:=vals1 r;cases rx;have hh:X.A.in1.handled=none:=I.ok.hd hc;have fin:∀(aB:List Value) (v:Value) (h':Heap) (tk:Nat),Vals ((n::l).map V.int) aB->aB[argBest (λi j=>decide ((n::l).getD i 0<(n::l).getD j 0)) (aB.length - 1)]?=some v->(∀b o,s.heap.get? b=some o->h'.get? b=some o)->EP X ah O Q v { s with heap:=h',toks:=tk}:=by
  intro aB v h' tk rv hv hk;have aQ:aB.length=l.length+1:=by rw[<- rv.length,eC,tS]
  rw[aQ,Nat.add_sub_cancel]at hv;obtain⟨t,rfl⟩:=oN rv hv;exact⟨.int (eV n l),H,I.kept hk,⟨t,by rw[zM]⟩,q⟩
 rcases hp with hp |hp
 .
  obtain⟨aB,rv,pl,hz⟩:=I.list hp;have nX:p<s⁻¹:=by obtain⟨_,e,_⟩:=pl.isList;exact dL e
  refine call_min_walk (v6 pl.isList ?_);refine⟨s⁻¹,_,_,_,_,_,_,rfl,Walks.list hh s⁻¹ p (fN nX) aB.toArray,⟨⟨_,dC _ rfl,rfl,rfl⟩,pl.isList.push _⟩,λb hb=>?_,by rw[bP,<- rv.length];exact y8 _,CmpOf.ints_lt (λi=>(n::l).getD i 0) (λi v hv=>oN rv (by simpa using hv)),λv h' tk hP hk=>fin aB v h' tk rv (by simpa using hP) (nD hk)⟩
  simp only[b0,i6,Ap]at hb;rcases hb with rfl |rfl
  . exact AK (xL _) (l9 _ _).symm
  . exact AK (Nat.lt_succ_of_lt nX) (l9 _ _).symm
 .
  obtain⟨aB,rv,pl,hz⟩:=I.tuple hp;have nX:p<s⁻¹:=by obtain⟨_,e,_⟩:=pl;exact dL e
  have pl':=pl;refine call_min_walk (t8 pl' ?_);refine⟨s⁻¹,_,_,_,_,_,_,rfl,Walks.tuple hh s⁻¹ p (fN nX) aB.toArray,⟨⟨_,dC _ rfl,rfl,rfl⟩,IsTup.keeps pl' λb o e=>a7 _ e⟩,λb hb=>?_,by rw[bP,<- rv.length];exact y8 _,CmpOf.ints_lt (λi=>(n::l).getD i 0) (λi v hv=>oN rv (by simpa using hv)),λv h' tk hP hk=>fin aB v h' tk rv (by simpa using hP) (nD hk)⟩
  simp only[b0,i6,Ap]at hb;rcases hb with rfl |rfl
  . exact AK (xL _) (l9 _ _).symm
  . exact AK (Nat.lt_succ_of_lt nX) (l9 _ _).symm
theorem zO(hK:z.K=X.K)(h:cM d=some l)(hi:dJ l=some ns)(pv:Pk z.K M H d v):∃a,v=.ref a/\(cF X.K H a (ns.map V.int)\/ig X.K H a (ns.map V.int)):=by
 cases d with
 |lst m=>symm;obtain⟨a,xs,rfl,e1,e2⟩:=pv.list;have:=cE e2 hi;subst this;exact⟨a,rfl,.inl (cF.of e1)⟩
 |tup m=>symm;obtain⟨a,xs,rfl,e1,e2⟩:=pv.tup;have:=cE e2 hi;subst this;exact⟨a,rfl,.inr (hK▸e1.sq)⟩
 |fix m=>symm;obtain⟨a,xs,rfl,e1,e2⟩:=pv.fix;have:=cE e2 hi;subst this;exact⟨a,rfl,.inl (hK▸e1.sq)⟩
 |_=>symm
theorem Gq(hc:X.calm=true)(hK:z.K=X.K)(h:cM d=some l)(hi:dJ l=some (n::ns)):CallD X z (.builtin "min") [d] (.dat (.int (eV n ns))):=by
 refine⟨_,wL hc,λg O Y M H vs Q s p k=>?_⟩
 obtain⟨v,rfl,pv⟩:=p.one;obtain⟨a,rfl,q⟩:=zO hK h hi pv;exact⟨a,n,ns,rfl,q,k _ _ Y M s (ao.refl _ _) (.int _)⟩
end
open L2 PySem.W
open L2 PySem.W SeqAt
open L2 PySem.W SeqAt
open L2 PySem.W SeqAt
open L2 PySem.W SeqAt
section
theorem cX.of (h:∀(ah: ~~~1) (s:Shared) (O:Sg) (Y M:List Addr) (H:Hp) (Post:Value->Shared->Prop),L2.Inv X ah O H s->S z g O Y M H->
  (∀v s1,(∀(R:It->Hp->Prop),(∀J H' aA M',S z g1 O aA M' H'->ao M H M' H'->Jt J aj z.K M' H'->R J H')->wpAny (~~~2) X.A (pyIter v) (PIE X ah O tg R) X.xe s1)->Post v s1)->wpAny (~~~2) X.A (eval iter X.env) Post X.xe s):cX X z tg iter g aj g1:=
 ⟨λO H R=>∃Y M,S z g O Y M H/\(∀J H' aA M',S z g1 O aA M' H'->ao M H M' H'->Jt J aj z.K M' H'->R J H'),by rintro ah s O H R I ⟨Y,M,st,k⟩;exact h ah s O Y M H _ I st λv s1 q=>q R k,λO Y M H R s k=>⟨Y,M,s,k⟩⟩
end
open L2 PySem.W SeqAt
section
theorem sS(hit:s.heap.IsTupleIter it t i)(ht:s.heap.IsTuple t aj)(hx:aj[i]?=some x)(hQ:∀h',h'.IsTupleIter it t (i+1)->Heap.SameBut it s.heap h'->Q x { s with heap:=h'}):wpAny (model prog w) A (Builtin.SmallTypes.nextOf (.ref it)) Q E s:=by obtain⟨o,ho,hc,hd⟩:=id hit;obtain⟨ol,YC,_,nl,hdl⟩:=ht;refine aS (oD hit.typeIs tJ (tP tJ hit.typeIs F.entry_tuple_iterator_next ?_ (F.args_tuple_iterator_next_1 _)));show wpAny _ _ (field (.ref it) 0 >>= _) _ _ s;refine aS (l8 ho hd rfl ?_);refine aS (l8 ho hd rfl ?_);refine aS (vS YC hdl ?_);simp only[AW,hx];refine aS (AC ho hd ⋯ (dS ⟨x,rfl,dS (hQ _ ⟨_,mI _ ho (qS (rV hd _)),(Obj.cls_mapFields ..).trans hc,?_⟩ (Heap.SameBut.update ..))⟩));rw[rV hd];simp[rawInt]
theorem mh(hh:A.handled=none)(hit:s.heap.IsTupleIter it t i)(ht:s.heap.IsTuple t aj)(hx:aj[i]?=none)
  (hE:∀h' e,Heap.ExtBut it s.heap h'->(∃o,h'.get? e=some o/\o.cls=.type "StopIteration")->E (.ref e) { s with heap:=h'}):wpAny (model prog w) A (Builtin.SmallTypes.nextOf (.ref it)) Q E s:=by
 obtain⟨o,ho,hc,hd⟩:=id hit;obtain⟨ol,YC,_,nl,hdl⟩:=ht;refine aS (oD hit.typeIs tJ (tP tJ hit.typeIs F.entry_tuple_iterator_next ?_ (F.args_tuple_iterator_next_1 _)));show wpAny _ _ (field (.ref it) 0 >>= _) _ _ s;refine aS (l8 ho hd rfl ?_);refine aS (l8 ho hd rfl ?_);refine aS (vS YC hdl ?_);simp only[AW,hx];refine aS (wpAny_rule (aS (AC ho hd ⋯ ?_)));refine aS ?_;refine aS (o6 (aS (wpAny_of_eq (by first |rfl | (simp only[firstArgMember];rfl)) (o6 ?_ (by size_fits)))) (by size_fits))
 refine aS (wpAny_handled ?_)
 first |rw[show A.in1.handled=none from hh] |rw[hh]
 exact aS (dS (wpAny_throw (hE _ _ (((Heap.SameBut.update ..).extBut.push _).push _) ⟨_,dC _ rfl,rfl⟩)))
theorem N2(hh:A.handled=none)(it t:Addr)(uq:t≠it)(aj:Array Value):Draws prog w A it [it,t] aj.size (λi v=>aj[i]?=some v) (λi h=>h.IsTupleIter it t i/\h.IsTuple t aj) where
 live:=λ_ _ st=>let ⟨o,ho,_⟩:=st.1;⟨o,ho⟩
 frame:=λ_ _ _ st hk=>by
  obtain⟨⟨o,ho,r⟩,⟨o',ho',r'⟩⟩:=st;exact⟨⟨o,hk it ⋯ o ho,r⟩,⟨o',hk t ⋯ o' ho',r'⟩⟩
 item:=λi s Q E hi st hQ=>sS st.1 st.2 (x:=aj[i]) (by simp[hi]) λh' YD hs'=>hQ _ h' s.toks (by simp[hi]) ⟨YD,IsTup.extBut st.2 hs'.extBut uq⟩ hs'
 done:=λs Q E st hE=>mh hh st.1 st.2 ⋯ hE
theorem qG(l:Addr)(aj:Array Value)(n:Nat)(dct:Option Addr)(sl:Array (Option Value)) :
  Meets (Builtin.«enumerate.__new__» ⟨[.type "enumerate",.ref l],[]⟩) (λ_ R s=>s.heap.get? l=some { cls:=.type "tuple",dict:=dct,data:=.seq aj n,slots:=sl}/\R (.ok (.ret (.ref (s.heap.push { cls:=.type "tuple_iterator",data:=.fields #[.ref l,.int 0 0]}).objs.size)))
    { s with heap:=(s.heap.push { cls:=.type "tuple_iterator",data:=.fields #[.ref l,.int 0 0]}).push { cls:=.type "enumerate",data:=.fields #[.none,.bool false,.ref s⁻¹,rawInt 0,.none,.none]}}):=
 .of_wp λprog w A R s h=>by
  obtain⟨hp,g,d,tk,os⟩:=s;obtain⟨hl,h⟩:=h;have hsub:=sub_enumerate;have hL:Heap.IsTuple (Shared.heap ⟨hp,g,d,tk,os⟩) l aj:=⟨_,hl,rfl,n,rfl⟩
  wp_walk using nV hl
  refine wpAny_stack_any λst=>dS ?_
  split
  . rename_i c _ _ _ _ _;cases (c==Value.type "enumerate") <;> (wp_walk using nV hl,t8 hL;exact⟨_,rfl,h⟩)
  .
   wp_walk using nV hl,t8 hL
   exact⟨_,rfl,h⟩
theorem sU(hL:s.heap.IsTuple l aj)
  (h:∀h',IsEnum h' (s⁻¹+1) s⁻¹ 0 .none->h'.IsTupleIter s⁻¹ l 0->h'.objs.size=s⁻¹+2->(∀b o,s.heap.get? b=some o->h'.get? b=some o)->Q (.ref (s⁻¹+1)) { s with heap:=h'}) :
  wpAny (model prog w) A (call (.type "enumerate") [.ref l]) Q E s:=by
 obtain⟨⟨c,dct,dt,sl⟩,hl,hc,n,hd⟩:=hL;cases (show c=.type "tuple" from hc)
 cases (show dt=.seq aj n from hd)
 refine callType_new F.called_enumerate ⋯ (F.typeCall_enumerate_1 _) (F.newCall_enumerate_1 _) (λobj=>F.args_object_init_2 obj _) F.entry_enumerate_new (qG l aj n dct sl) ⟨hl,?_⟩
 generalize hq:s.heap.push { cls:=.type "tuple_iterator",data:=.fields #[.ref l,.int 0 0]}=h1;have hz:h1.objs.size=s⁻¹+1:=by rw[<- hq];exact l9 ..
 have hi:h1.get? s⁻¹=some { cls:=.type "tuple_iterator",data:=.fields #[.ref l,.int 0 0]}:=by rw[<- hq];exact dC _ rfl
 have he:IsEnum (h1.push { cls:=.type "enumerate",data:=.fields #[.none,.bool false,.ref s⁻¹,rawInt 0,.none,.none]}) h1.objs.size s⁻¹ 0 .none:=dC h1 rfl;rw[hz]at he ⊢
 exact⟨⟨_,he,rfl⟩,h _ he ⟨_,a7 _ hi,rfl,rfl⟩ (by rw[l9,hz]) λb o x=>a7 _ (by rw[<- hq];exact a7 _ x)⟩
end
open L2 PySem.W SeqAt
def kN(tp:Bool)(K:Frag)(H:Hp)(a:Addr)(xs:List V):Prop:=match tp with |true=>ig K H a xs |false=>cF K H a xs
def yh(tp:Bool)(h:Heap)(it a:Addr)(i:Nat):Prop:=match tp with |true=>h.IsTupleIter it a i |false=>h.IsListIter it a i
def T7(tp:Bool)(h:Heap)(a:Addr)(aB:List Value):Prop:=match tp with |true=>h.IsTuple a aB.toArray |false=>h.IsList a aB.toArray
section
theorem kN.real(I:L2.Inv X ah O H s)(h:kN tp X.K H a xs):∃aB:List Value,Vals xs aB/\T7 tp s.heap a aB/\xs.length<=sizeLine:=by
 cases tp with
 |true=>exact I.tuple h
 |false=>obtain⟨aB,r,pl,hz⟩:=I.list h;exact⟨aB,r,pl.isList,hz⟩
theorem kN.inj(I:L2.Inv X ah O H s)(h:kN tp X.K H a xs)(h':kN tp X.K H a ys):xs=ys:=by
 cases tp with
 |true=>exact I.mO h h'
 |false=>exact I.p9 h h'
theorem yh.obj(x:yh tp h it a i):∃o vs,h.get? it=some o/\o.data=.fields vs:=by
 cases tp with
 |true=>obtain⟨o,e,_,d⟩:=(show h.IsTupleIter it a i from x);exact⟨o,_,e,d⟩
 |false=>obtain⟨o,e,_,d⟩:=(show h.IsListIter it a i from x);exact⟨o,_,e,d⟩
theorem yh.keep(x:yh tp h it a i)(k:∀o,h.get? it=some o->h'.get? it=some o):yh tp h' it a i:=by
 cases tp with
 |true=>obtain⟨o,e,d⟩:=(show h.IsTupleIter it a i from x);exact⟨o,k o e,d⟩
 |false=>obtain⟨o,e,d⟩:=(show h.IsListIter it a i from x);exact⟨o,k o e,d⟩
theorem jl(hh:A.handled=none)(uq:a≠it)(aB:List Value):Draws prog w A it [it,a] aB.length (λi v=>aB[i]?=some v) (λi h=>yh tp h it a i/\T7 tp h a aB):=by
 cases tp with
 |true=>have:=N2 (prog:=prog) (w:=w) hh it a uq aB.toArray;simp only[List.getElem?_toArray]at this;exact this
 |false=>have:=Draws.list (prog:=prog) (w:=w) hh it a uq aB.toArray;simp only[List.getElem?_toArray]at this;exact this
end
theorem zP{prog:Program}{w:World}{A:Around}{it:Addr}{fp:List Addr}{n:Nat}{P:Nat->Value->Prop}{St:Nat->Heap->Prop}(D:Draws prog w A it fp n P St)(c:Nat):Draws prog w A it fp (c+n) (λi v=>∃j,i=c+j/\P j v) (λi h=>∃j,i=c+j/\St j h) where
 live:=λ_ _ st=>by obtain⟨j,_,st⟩:=st;exact D.live j _ st
 frame:=λ_ _ _ st k=>by obtain⟨j,e,st⟩:=st;exact⟨j,e,D.frame j _ _ st k⟩
 item:=λi s Q E hi st hQ=>by
  obtain⟨j,rfl,st⟩:=st;exact D.item j s Q E (Nat.lt_of_add_lt_add_left hi) st λx h' tk p s' sb=>hQ x h' tk ⟨j,rfl,p⟩ ⟨j+1,rfl,s'⟩ sb
 done:=λs Q E st hE=>by
  obtain⟨j,e,st⟩:=st;cases BQ e;exact D.done s Q E st hE
def YF(tp:Bool)(K:Frag)(a:Addr)(c:Nat):It:=
 ⟨λi H=>∃xs x,kN tp K H a xs/\xs[i]?=some x,λi H x H'=>∃p y,(∀xs,kN tp K H a xs->xs[i]?=some y)/\H p=none/\x=.ref p/\H'=upd H p (.tup [.int ((c+i:Nat):Int),y]),λi H=>∃xs,kN tp K H a xs/\xs.length=i⟩
theorem nF{P:Program}{w:World}{K:Frag}{tp:Bool}{es:List Expr}{k:Nat}{pos:Pos}(e it a:Addr)(c:Nat)(hei:e≠it):Turn P w K (.Tuple es k pos) (YF tp K a c) [e,it] e (λi h=>(∃old,IsEnum h e it ((c+i:Nat):Int) old)/\yh tp h it a i) where
 mem:=by simp
 obj:=λi h st b hb=>by
  obtain⟨⟨old,he⟩,hi⟩:=st;rcases b0.mp hb with rfl |hb
  . exact⟨_,he,λv z=>nomatch (show Data.fields _=Data.cell v from z)⟩
  . cases eP.mp hb;obtain⟨o,vs,e1,e2⟩:=hi.obj;exact⟨o,e1,λv z=>by rw[e2]at z;cases z⟩
 keep:=λi h h' st k=>by
  obtain⟨⟨old,he⟩,hi⟩:=st;exact⟨⟨old,k e ⋯ _ he⟩,hi.keep λo q=>k it ⋯ o q⟩
 item:=by
  intro X hP hw hK hc i ah s O H E I hf st hg;subst hP hw hK;obtain⟨⟨old,he⟩,hi⟩:=st;obtain⟨xs,x,hq,hx⟩:=hg;obtain⟨aB,rv,hat,hz⟩:=hq.real I;obtain⟨f0,f1,f2,f3,f4,f5⟩:=hf e ⋯;obtain⟨g0,g1,g2,g3,g4,g5⟩:=hf it ⋯;have hae:a≠e:=λz=>by
   subst z;cases tp with
   |true=>obtain⟨o,e1,e2,_⟩:=(show s.heap.IsTuple a aB.toArray from hat);rw[he]at e1;cases e1;exact absurd (show Value.type "enumerate"=Value.type "tuple" from e2) ⋯
   |false=>obtain⟨o,e1,e2,_⟩:=(show s.heap.IsList a aB.toArray from hat);rw[he]at e1;cases e1;exact absurd (show Value.type "enumerate"=Value.type "list" from e2) ⋯
  have hai:a≠it:=λz=>by
   subst z;cases tp with
   |true=>obtain⟨o,e1,e2,_⟩:=(show s.heap.IsTuple a aB.toArray from hat);obtain⟨o',e3,e4,_⟩:=(show s.heap.IsTupleIter a a i from hi);rw[e1]at e3;cases e3;rw[e2]at e4;exact absurd e4 ⋯
   |false=>obtain⟨o,e1,e2,_⟩:=(show s.heap.IsList a aB.toArray from hat);obtain⟨o',e3,e4,_⟩:=(show s.heap.IsListIter a a i from hi);rw[e1]at e3;cases e3;rw[e2]at e4;exact absurd e4 ⋯
  have nX:i<aB.length:=by rw[<- rv.length];exact (a9.mp hx).1
  refine wpAny_pyNext_enum_itemD (zP (jl (tp:=tp) (A:=X.A.in1) (I.ok.hd hc) hai aB) c) he ⟨i,rfl,hi,hat⟩ (Nat.add_lt_add_left nX c) hei (by simp[hei,lS hae]) λu h1 tk hu hout cD ht iu hkp=>⟨_,rfl,?_⟩
  obtain⟨j,ej,hu⟩:=hu;cases BQ ej;obtain⟨j,ej,cD⟩:=cD;cases BQ (show c+(i+1)=c+j from ej)
  refine wpAny_letOwnedTupleGo_enum hout λh2 he2 hs2=>?_
  replace hs2:Heap.SameBut e h1 h2:=hs2;obtain⟨u',e1,ru⟩:=rv.get hx;rw[hu]at e1;cases e1;have hpe:=wS (dL he);obtain⟨oi,vsi,ei,di⟩:=cD.1.obj;have ei2:=(hs2.2 it (lS hei)).trans ei;obtain⟨oi0,_,ei0,_⟩:=hi.obj;have k1:∀b o,b≠e->s.heap.get? b=some o->(s.heap.update e λ_=>_).get? b=some o:=λb o hb q=>(fI s.heap (λ_=>({ cls:=.type "enumerate",dict:=none,data:=.fields #[.none,.bool false,.ref it,rawInt (((c+i:Nat):Int)+1),.none,u],slots:=#[]}:Obj)) (lS hb)).trans q
  have I1:=I.turned (t':=s.toks) k1 f0 f1 f3 f4 f5;have k2:∀b o,b≠it->(s.heap.update e λ_=>_).get? b=some o->((s.heap.update e λ_=>({ cls:=.type "enumerate",dict:=none,data:=.fields #[.none,.bool false,.ref it,rawInt (((c+i:Nat):Int)+1),.none,u],slots:=#[]}:Obj)).update it λ_=>oi).get? b=some o:=λb o hb q=>(fI _ (λ_=>oi) (lS hb)).trans q
  have I2:=I1.turned (t':=tk+1) k2 g0 g1 g3 g4 g5;have hse:(s.heap.update e λ_=>({ cls:=.type "enumerate",dict:=none,data:=.fields #[.none,.bool false,.ref it,rawInt (((c+i:Nat):Int)+1),.none,u],slots:=#[]}:Obj)).get? e=some _:=mI _ he rfl
  have k3:∀b o,((s.heap.update e λ_=>({ cls:=.type "enumerate",dict:=none,data:=.fields #[.none,.bool false,.ref it,rawInt (((c+i:Nat):Int)+1),.none,u],slots:=#[]}:Obj)).update it λ_=>oi).get? b=some o->h2.get? b=some o:=λb o q=>by
   by_cases hb:b=it
   .
    subst hb;have z:=mI (λ_=>oi) (k1 b oi0 (lS hei) ei0) (qS di)
    rw[z]at q;cases q;exact ei2
   .
    rw[fI _ _ (lS hb)]at q;by_cases hb2:b=e
    . subst hb2;rw[hse]at q;cases q;exact he2
    . rw[fI _ _ (lS hb2)]at q;exact (hs2.2 b hb2).trans (hkp b o hb2 hb q)
  have hsz2:((s.heap.update e λ_=>({ cls:=.type "enumerate",dict:=none,data:=.fields #[.none,.bool false,.ref it,rawInt (((c+i:Nat):Int)+1),.none,u],slots:=#[]}:Obj)).update it λ_=>oi).objs.size<=s⁻¹:=by rw[A9,A9];exact eA _
  have I3:=I2.laid (o:=.tup [.int ((c+i:Nat):Int),x]) (t':=tk+1) k3 hsz2 ⟨by rw[yY];show 2<=16777216;decide,[.int ((c+i:Nat):Int) tk,u],.cons ⟨tk,rfl⟩ (.cons ru .nil),⟨_,(hs2.2 _ hpe).trans ht,⟨rfl,_,rfl⟩,rfl⟩⟩
  have hfr:=I.hok.fresh (eA _);refine⟨.ref s⁻¹,_,I3,rfl,⟨_,x,λys hy=>by rw[hy.inj I hq];exact hx,hfr,rfl,rfl⟩,⟨⟨u,he2⟩,cD.1.keep λo q=>(hs2.2 it (lS hei)).trans q⟩,λb hb=>?_⟩
  have hbn:b≠s⁻¹:=λz=>by
   rcases b0.mp hb with rfl |hb
   . exact hpe z.symm
   . cases eP.mp hb;exact absurd (dL ei0) (by rw[z];exact nS _)
  rw[au hbn];exact (hf b hb).1
 done:=by
  intro X hP hw hK hc i ah s O H E I hf st hg;subst hP hw hK;obtain⟨⟨old,he⟩,hi⟩:=st;obtain⟨xs,hq,hx⟩:=hg;obtain⟨aB,rv,hat,hz⟩:=hq.real I;obtain⟨g0,g1,g2,g3,g4,g5⟩:=hf it ⋯;have hai:a≠it:=λz=>by
   subst z;cases tp with
   |true=>obtain⟨o,e1,e2,_⟩:=(show s.heap.IsTuple a aB.toArray from hat);obtain⟨o',e3,e4,_⟩:=(show s.heap.IsTupleIter a a i from hi);rw[e1]at e3;cases e3;rw[e2]at e4;exact absurd e4 ⋯
   |false=>obtain⟨o,e1,e2,_⟩:=(show s.heap.IsList a aB.toArray from hat);obtain⟨o',e3,e4,_⟩:=(show s.heap.IsListIter a a i from hi);rw[e1]at e3;cases e3;rw[e2]at e4;exact absurd e4 ⋯
  have hl:i=aB.length:=by rw[<- rv.length];exact hx.symm
  subst hl;exact wpAny_pyNext_enum_endD (zP (jl (tp:=tp) (A:=X.A.in1) (I.ok.hd hc) hai aB) c) he ⟨_,rfl,hi,hat⟩ λh' eb=>⟨rfl,I.turned (λb o hb q=>eb b o hb q) g0 g1 g3 g4 g5⟩
 self:=λA i s Q E st h=>by
  obtain⟨⟨old,he⟩,_⟩:=st;exact wpAny_pyIter_enum he h
section
def iM(l:List D):List D:=l.zipIdx.map λp=>.tup [.int (p.2:Nat),p.1]
theorem wM{l:List D}{n:Nat}{d:D}(h:(iM l)[n]?=some d):∃x,l[n]?=some x/\d=.tup [.int n,x]:=by
 unfold iM at h;rw[nE]at h;cases e:l.zipIdx[n]? with
 |none=>rw[e]at h;symm
 |some q=>
  rw[e]at h;symm;rw[List.getElem?_zipIdx]at e;cases e2:l[n]? with
  |none=>rw[e2]at e;cases e
  |some x=>rw[e2]at e;cases e;exact⟨x,rfl,by simp⟩
theorem wN(l:List D):(iM l).length=l.length:=by simp[iM]
theorem Gr{d:D}{l:List D}(hK:z.K=X.K)(ha:cI X z [e] g [.dat d] g1)(hs:cM d=some l)(hg:Gl X "enumerate")(hm:X.mg "enumerate"=none)(cD:starEach [e] X.env=[(false,eval e X.env)]) :
  cX X z (.Tuple es k pos) (.Call (.Name "enumerate" p) [e] [] rp) g (iM l) g1:=by
 refine cX.of λah s O Y M H Post I T8 kk=>?_
 refine Call_ (fD I hg hm boot_enumerate (n0 (ha.run I T8 λvs us s1 H1 aL M1 I1 r1 q1 q2 q3=>?_) cD rfl))
 cases q3 with
 |dat YG R=>
  cases R;obtain⟨u,rfl,ru⟩:=vals1 r1;have main:∀(tp:Bool) (a:Addr) (xs:List V) (aB:List Value),u=.ref a->T7 tp s1.heap a aB->aH z.K M1 H1 l xs->(∀M2 H2,ao M1 H1 M2 H2->kN tp X.K H2 a xs)->
    (∀Q:Value->Shared->Prop,(∀h',IsEnum h' (s1⁻¹+1) s1⁻¹ 0 .none->yh tp h' s1⁻¹ a 0->h'.objs.size=s1⁻¹+2->(∀b o,s1.heap.get? b=some o->h'.get? b=some o)->Q (.ref (s1⁻¹+1)) { s1 with heap:=h'})->
     wpAny (~~~2) X.A (call (.type "enumerate") [.ref a]) Q X.xe s1)->wpAny (~~~2) X.A (call (.type "enumerate") [u]) Post X.xe s1:=λtp a xs aB hu hat rr N3 hcall=>by
   subst hu;refine hcall _ λh' he hi iu hk=>kk _ _ λR kR=>?_
   refine wpAny_pyIter_enum he ?_;have I2:=I1.kept (t':=s1.toks) hk;refine⟨_,[s1⁻¹+1,s1⁻¹],_,YF tp X.K a 0,H1,rfl,I2,nF _ _ a 0 (Nat.succ_ne_self _),⟨⟨_,he⟩,hi⟩,λb hb=>?_,kR _ H1 aL M1 q1 q2 λM2 H2 aJ=>?_⟩
   .
    rcases b0.mp hb with rfl |hb
    . exact I1.n8 (AE _) (I1.hok.fresh (AE _))
    . cases eP.mp hb;exact I1.n8 (eA _) (I1.hok.fresh (eA _))
   .
    have yd:=rr.stay aJ;refine⟨λn d hd=>?_,xs,N3 M2 H2 aJ,by rw[wN];exact rr.length.symm⟩
    obtain⟨x,e1,rfl⟩:=wM hd;obtain⟨v,e2,e3⟩:=yd.get e1;refine⟨⟨xs,v,N3 M2 H2 aJ,e2⟩,λy H' hy z' g' σ' aA hz' s'=>?_⟩
    obtain⟨p,y',w1,w3,rfl,rfl⟩:=hy;rw[A6];have w2:=w1 xs (N3 M2 H2 aJ);rw[e2]at w2;cases w2;refine⟨s'.laid w3,ao.laid w3,.tup (.inl ⟨s'.fresh w3,.inl aE⟩) (.cons (.int _) (.cons (e3.stay (ao.laid w3)) .nil))⟩
  cases YG with
  |@lst _ a xs hb rr=>cases hs;cases ru;obtain⟨aB,rv,pl,hz⟩:=I1.list (cF.of hb.2);exact main false a xs aB rfl pl.isList rr (λM2 H2 aJ=>cF.of (aJ _ _ hb.2 hb.1).1) λQ h=>call_enumerate_list pl.isList h
  |@tup _ a xs hb rr=>
   cases hs;cases ru;obtain⟨aB,rv,pl,hz⟩:=I1.tuple (hK▸hb.sq);refine main true a xs aB rfl pl rr (λM2 H2 aJ=>?_) λQ h=>sU pl h
   have:TupAt z.K M2 H2 a xs:=by
    rcases hb with ⟨na,hr⟩ |hk
    . exact .inl (aJ.rd na hr)
    . exact .inr hk
   exact hK▸this.sq
  |@fix _ a xs hb rr=>
   cases hs;cases ru;obtain⟨aB,rv,pl,hz⟩:=I1.list (hK▸hb.sq);refine main false a xs aB rfl pl.isList rr (λM2 H2 aJ=>?_) λQ h=>call_enumerate_list pl.isList h
   have:iE z.K M2 H2 a xs:=by
    rcases hb with ⟨na,o,hr⟩ |hk
    . exact .inl ⟨(aJ _ _ hr na).2,o,(aJ _ _ hr na).1⟩
    . exact .inr hk
   exact hK▸this.sq
  |_=>cases hs
end
open L2 PySem.W SeqAt
end Ev
namespace HT
open PySem PyProof.Rows
end HT
namespace Ev
open L2
section
noncomputable abbrev m1(j:Nat)(p1 p3:Pos):Expr:=.UnaryOp .USub (.Constant (.int 1) j p1) p3
theorem N4:az X z (.Dict [] [] pos) g (.dat .emp) g:=by
 refine⟨λO H Q=>∀p,H p=none->Q (.ref p) (upd H p (.dK [])),λah s O H Q I h=>wpAny_Dict_empty ⟨.ref s⁻¹,_,I.laid (λb ob q=>a7 _ q) (eA _) ?_,rfl,h _ (I.hok.fresh (eA _))⟩,λO Y M H Q s k p hp=>k _ _ Y M (s.laid hp) (ao.laid hp) (.emp (s.fresh hp) aE)⟩
 refine⟨Nat.zero_le _,?_,[],?_,Heap.DictOf.new _⟩
 .
  have h1:=(I.ok.mod.glob.keeps I.bk).lt;refine Bool.eq_false_iff.mpr λq=>?_
  have q:=eq_of_beq q;rw[q]at h1;exact absurd h1 ⋯
 . exact .nil
end
open L2 PySem.W SeqAt
section
structure Rh(r tI tO i j a b:Addr):Prop where
 n1:tI≠r/\tO≠r/\i≠r/\j≠r/\a≠r/\b≠r
 n2:tI≠tO/\i≠tO/\j≠tO/\a≠tO/\b≠tO
 n3:tI≠i/\tI≠j/\i≠j
 n4:a≠i/\b≠i/\a≠j/\b≠j
section
theorem zQ{Q:Value->Shared->Prop}(N:Rh r tI tO i j a b)(D1:Draws prog w A i [i,a] n f S1)(D2:Draws prog w A j [j,b] m g S2)(hk1:k<n)(hk2:k<m)
  (er:IsZip s.heap r tI tO .none) (eI:IsPair s.heap tI (.ref i) (.ref j)) (eO:IsPair s.heap tO c d) (t1:S1 k s.heap) (t2:S2 k s.heap)
  (hQ:∀u v h' tk,f k u->g k v->IsZip h' r tI tO (rawInt s⁻¹)->IsPair h' tO u v->S1 (k+1) h'->S2 (k+1) h'->IsPair h' s⁻¹ u v->h'.objs.size=s⁻¹+1->
   (∀x o,x≠r->x≠tO->x≠i->x≠j->s.heap.get? x=some o->h'.get? x=some o)->Q (.ref s⁻¹) { s with heap:=h',toks:=tk}) :
  wpAny (model prog w) A (Builtin.«zip.__next__» ⟨[.ref r],[]⟩) (λfin s'=>∃v,fin=.done (.ret v)/\Q v s') E s:=by
 obtain⟨⟨p1,p2,p3,p4,p5,p6⟩,⟨q1,q2,q3,q4,q5⟩,⟨u1,u2,u3⟩,⟨v1,v2,v3,v4⟩⟩:=N;refine aS (m:=field (.ref r) 2) (l8 er rfl rfl ?_);refine aS (l8 er rfl rfl (aS (vS eI rfl ?_)));refine aS ?_;refine aS (l8 er rfl rfl (dS ?_));refine aS (wpAny_rule (aS (l8 er rfl rfl (aS (u4 er ⋯ λha Du ka=>?_)))))
 replace Du:IsZip ha r tI tO .ellipsis:=Du;refine aS ?_;have WX:=D1.frame k _ _ t1 λx hx o e=>(ka.2 x (by rcases b0.mp hx with z |z;exact z▸p3;exact (eP.mp z)▸p5)).trans e
 have YH:=D2.frame k _ _ t2 λx hx o e=>(ka.2 x (by rcases b0.mp hx with z |z;exact z▸p4;exact (eP.mp z)▸p6)).trans e
 refine aS (aS (BE (aS (D1.item k { s with heap:=ha} _ _ hk1 WX λu hb WY fu t1b kb=>dS ?_))))
 have T9:=(kb.2 _ (lS q2)).trans ((ka.2 _ p2).trans eO);refine aS (vS T9 rfl (aS (wpAny_updateSeq_pair T9 λhc W0 kc=>?_)))
 replace W0:IsPair hc tO u d:=W0;refine aS (wpAny_letGo (dS ?_));have t1c:=D1.frame _ _ _ t1b λx hx o e=>(kc.2 x (by rcases b0.mp hx with z |z;exact z▸q2;exact (eP.mp z)▸q4)).trans e
 have YJ:=D2.frame k _ _ YH λx hx o e=>by
  have hx:x=j\/x=b:=by rcases b0.mp hx with z |z;exact .inl z;exact .inr (eP.mp z)
  rw[kc.2 x (by rcases hx with rfl |rfl;exact q3;exact q5),kb.2 x (by rcases hx with rfl |rfl;exact lS u3;exact v2)]
  exact e
 refine aS (aS (BE (aS (D2.item k { s with heap:=hc,toks:=WY} _ _ hk2 YJ λv hd tk2 gv t2d kd=>dS ?_))))
 have eOd:=(kd.2 _ (lS q3)).trans W0;refine aS (vS eOd rfl (aS (wpAny_updateSeq_pair eOd λhe W2 ke=>?_)))
 replace W2:IsPair he tO u v:=W2;refine aS (wpAny_letGo (dS (dS ?_)));refine aS (vS W2 rfl (aS (wpAny_newTuple ?_)));have sz:he.objs.size=s⁻¹:=by rw[ke.1,kd.1,kc.1,kb.1];exact ka.1
 have ere:IsZip he r tI tO .ellipsis:=by show he.get? r=_;rw[ke.2 _ (lS p2),kd.2 _ (lS p4),kc.2 _ (lS p2),kb.2 _ (lS p3)];exact Du
 have old:∀x o,x≠r->x≠tO->x≠i->x≠j->s.heap.get? x=some o->he.get? x=some o:=λx o x1 x2 x3 x4 e=>by
  rw[ke.2 _ x2,kd.2 _ x4,kc.2 _ x2,kb.2 _ x3];exact (ka.2 _ x1).trans e
 have t1e:=D1.frame _ _ _ t1c λx hx o e=>by
  have hx:x=i\/x=a:=by rcases b0.mp hx with z |z;exact .inl z;exact .inr (eP.mp z)
  rw[ke.2 x (by rcases hx with rfl |rfl;exact q2;exact q4),kd.2 x (by rcases hx with rfl |rfl;exact u3;exact v3)]
  exact e
 have t2e:=D2.frame _ _ _ t2d λx hx o e=>(ke.2 x (by rcases b0.mp hx with z |z;exact z▸q3;exact (eP.mp z)▸q5)).trans e
 refine aS ?_;have erf:IsZip (he.push { cls:=.type "tuple",data:=.seq #[u,v]}) r tI tO .ellipsis:=a7 _ ere;refine aS (u4 erf ⋯ λhg YK kg=>?_)
 replace YK:IsZip hg r tI tO (rawInt he.objs.size):=YK;refine u4 YK ⋯ λhh W3 kh=>?_
 replace W3:IsZip hh r tI tO (rawInt he.objs.size):=W3;have up:∀x o,x≠r->he.get? x=some o->hh.get? x=some o:=λx o x1 e=>by rw[kh.2 _ x1,kg.2 _ x1];exact a7 _ e
 have rlt:=dL ere;have new:IsPair hh he.objs.size u v:=by show hh.get? _=_;rw[kh.2 _ (wS rlt),kg.2 _ (wS rlt)];exact dC _ rfl
 have szh:hh.objs.size=he.objs.size+1:=by rw[kh.1,kg.1,l9]
 have fr1:∀x o,x=i\/x=a->he.get? x=some o->hh.get? x=some o:=λx o hx e=>up x o (by rcases hx with rfl |rfl;exact p3;exact p5) e
 have fr2:∀x o,x=j\/x=b->he.get? x=some o->hh.get? x=some o:=λx o hx e=>up x o (by rcases hx with rfl |rfl;exact p4;exact p6) e
 rw[sz]at W3 new szh;refine dS ⟨_,rfl,?_⟩;rw[sz];exact hQ u v hh tk2 fu gv W3 (up _ _ p2 W2) (D1.frame _ _ _ t1e λx hx o e=>fr1 x o (by rcases b0.mp hx with z |z;exact .inl z;exact .inr (eP.mp z)) e)
  (D2.frame _ _ _ t2e λx hx o e=>fr2 x o (by rcases b0.mp hx with z |z;exact .inl z;exact .inr (eP.mp z)) e) new szh λx o x1 x2 x3 x4 e=>up x o x1 (old x o x1 x2 x3 x4 e)
theorem Gs(N:Rh r tI tO i j a b)(D1:Draws prog w A i [i,a] n f S1)(D2:Draws prog w A j [j,b] m g S2)(hk:k=n\/(k<n/\k=m))
  (er:IsZip s.heap r tI tO .none) (eI:IsPair s.heap tI (.ref i) (.ref j)) (eO:IsPair s.heap tO c d) (t1:S1 k s.heap) (t2:S2 k s.heap)
  (hE:∀h' e tk,(∀x o,x≠r->x≠tO->x≠i->x≠j->s.heap.get? x=some o->h'.get? x=some o)->(∃o,h'.get? e=some o/\o.cls=.type "StopIteration")->E (.ref e) { s with heap:=h',toks:=tk}) :
  wpAny (model prog w) A (Builtin.«zip.__next__» ⟨[.ref r],[]⟩) Q E s:=by
 obtain⟨⟨p1,p2,p3,p4,p5,p6⟩,⟨q1,q2,q3,q4,q5⟩,⟨u1,u2,u3⟩,⟨v1,v2,v3,v4⟩⟩:=N;refine aS (m:=field (.ref r) 2) (l8 er rfl rfl ?_);refine aS (l8 er rfl rfl (aS (vS eI rfl ?_)));refine aS ?_;refine aS (l8 er rfl rfl (dS ?_));refine aS (wpAny_rule (aS (l8 er rfl rfl (aS (u4 er ⋯ λha Du ka=>?_)))))
 replace Du:IsZip ha r tI tO .ellipsis:=Du;refine aS ?_;have WX:=D1.frame k _ _ t1 λx hx o e=>(ka.2 x (by rcases b0.mp hx with z |z;exact z▸p3;exact (eP.mp z)▸p5)).trans e
 have YH:=D2.frame k _ _ t2 λx hx o e=>(ka.2 x (by rcases b0.mp hx with z |z;exact z▸p4;exact (eP.mp z)▸p6)).trans e
 have stop:∀(hb:Heap) (e:Addr) (tk:Nat),IsZip hb r tI tO .ellipsis->(∃o,hb.get? e=some o/\o.cls=.type "StopIteration")->e≠r:=by rintro hb e tk z ⟨o,h1,h2⟩ q;rw[q,z]at h1;cases h1;exact absurd (show Value.type "zip"=.type "StopIteration" from h2) ⋯
 rcases hk with rfl |⟨hk1,rfl⟩
 .
  refine aS (aS (BE (aS (D1.done { s with heap:=ha} _ _ WX λhb e kb ex=>?_))))
  have erb:=kb _ _ (lS p3) Du;have YL:=stop hb e s.toks erb ex;obtain⟨oe,x1,x2⟩:=ex;refine u4 erb ⋯ λhc _ kc=>?_
  exact hE hc e s.toks (λx o y1 y2 y3 y4 z=>(kc.2 _ y1).trans (kb _ _ y3 ((ka.2 _ y1).trans z))) ⟨oe,(kc.2 _ YL).trans x1,x2⟩
 .
  refine aS (aS (BE (aS (D1.item k { s with heap:=ha} _ _ hk1 WX λu hb WY fu t1b kb=>dS ?_))))
  have T9:=(kb.2 _ (lS q2)).trans ((ka.2 _ p2).trans eO);refine aS (vS T9 rfl (aS (wpAny_updateSeq_pair T9 λhc W0 kc=>?_)))
  refine aS (wpAny_letGo (dS ?_));have YJ:=D2.frame k _ _ YH λx hx o e=>by
   have hx:x=j\/x=b:=by rcases b0.mp hx with z |z;exact .inl z;exact .inr (eP.mp z)
   rw[kc.2 x (by rcases hx with rfl |rfl;exact q3;exact q5),kb.2 x (by rcases hx with rfl |rfl;exact lS u3;exact v2)]
   exact e
  refine aS (aS (BE (aS (D2.done { s with heap:=hc,toks:=WY} _ _ YJ λhd e kd ex=>?_))))
  have erd:=kd _ _ (lS p4) (by rw[kc.2 _ (lS p2),kb.2 _ (lS p3)];exact Du)
  have YL:=stop hd e s.toks erd ex;obtain⟨oe,x1,x2⟩:=ex;refine u4 erd ⋯ λhe _ ke=>?_
  exact hE he e WY (λx o y1 y2 y3 y4 z=>(ke.2 _ y1).trans (kd _ _ y4 (by rw[kc.2 _ y2,kb.2 _ y3];exact (ka.2 _ y1).trans z))) ⟨oe,(ke.2 _ YL).trans x1,x2⟩
end
section
theorem zR{Q:Option Value->Shared->Prop}(N:Rh r tI tO i j a b)(D1:Draws prog w A.in1 i [i,a] n f S1)(D2:Draws prog w A.in1 j [j,b] m g S2)(hk1:k<n)(hk2:k<m)
  (er:IsZip s.heap r tI tO .none) (eI:IsPair s.heap tI (.ref i) (.ref j)) (eO:IsPair s.heap tO c d) (t1:S1 k s.heap) (t2:S2 k s.heap)
  (hQ:∀u v h' tk,f k u->g k v->IsZip h' r tI tO (rawInt s⁻¹)->IsPair h' tO u v->S1 (k+1) h'->S2 (k+1) h'->IsPair h' s⁻¹ u v->h'.objs.size=s⁻¹+1->
   (∀x o,x≠r->x≠tO->x≠i->x≠j->s.heap.get? x=some o->h'.get? x=some o)->Q (some (.ref s⁻¹)) { s with heap:=h',toks:=tk}):wpAny (model prog w) A (pyNext (.ref r)) Q E s:=by
 have ty:s.TypeIs (.ref r) "zip" :=⟨_,er,rfl⟩;exact aS (wpAny_attempt (oD ty F.slot_zip_next (tP F.slot_zip_next ty F.entry_zip_next
  (zQ N D1 D2 hk1 hk2 er eI eO t1 t2 λu v h' tk b1 b2 b3 b4 b5 b6 b7 b8 b9=>dS (hQ u v h' tk b1 b2 b3 b4 b5 b6 b7 b8 b9)) (F.args_zip_next_1 _))))
theorem qH(N:Rh r tI tO i j a b)(D1:Draws prog w A.in1 i [i,a] n f S1)(D2:Draws prog w A.in1 j [j,b] m g S2)(hk:k=n\/(k<n/\k=m))
  (er:IsZip s.heap r tI tO .none) (eI:IsPair s.heap tI (.ref i) (.ref j)) (eO:IsPair s.heap tO c d) (t1:S1 k s.heap) (t2:S2 k s.heap)
  (hQ:∀h' tk,(∀x o,x≠r->x≠tO->x≠i->x≠j->s.heap.get? x=some o->h'.get? x=some o)->Q none { s with heap:=h',toks:=tk}):wpAny (model prog w) A (pyNext (.ref r)) Q E s:=by
 have ty:s.TypeIs (.ref r) "zip" :=⟨_,er,rfl⟩;refine aS (wpAny_attempt (oD ty F.slot_zip_next (tP F.slot_zip_next ty F.entry_zip_next
  (Gs N D1 D2 hk er eI eO t1 t2 λh' e tk kp ex=>?_) (F.args_zip_next_1 _))))
 obtain⟨o,x1,x2⟩:=ex;exact aS (wpAny_isInstance ⟨o,x1,x2⟩ isSubtype_stop (dS (hQ _ tk kp)))
end
end
open L2 PySem.W SeqAt
section
theorem Inv.N5{h':Heap}{t':Nat}{ch:List Addr}(I:L2.Inv X ah O H s)(hf:∀b∈ch,je X ah H b)(k:∀b o,b∉ch->s.heap.get? b=some o->h'.get? b=some o):L2.Inv X ah O H { s with heap:=h',toks:=t'}:=by
 have nH:∀b u,H b=some u->b∉ch:=λb u e z=>by rw[(hf b z).1]at e;cases e
 refine I.step (λb hb=>?_) (λb o _ _ hc e _=>k b o hc e) (λb o _ _ hc e _=>⟨o.slots,k b o hc e⟩) (λ_ _ _ _ n=>n) (λb o hc e=>⟨o,k b o hc e⟩) (λ_ _ e=>e) (λ_ _ _ e=>e) (λb ps e=>⟨#[],by rw[e];simp⟩) (λm hm=>?_) (λb u e=>?_) I.bare
 . obtain⟨f0,f1,f2,f3,f4,f5⟩:=hf b hb;exact⟨f3,f1,f4,f5⟩
 . obtain⟨o,es,ep,ho,rr⟩:=hm;exact⟨o,es,ep,k _ o (λz=>(hf _ z).2.1 rfl) ho,rr⟩
 .
  refine (I.hok b u e).stay (λc w hc q=>k c w (λz=>?_) q) (λ_ q=>q) λ_ _ q=>q
  rcases hc with rfl |hc
  . exact nH _ _ e z
  . exact nH _ _ hc z
theorem Inv.N6{h':Heap}{t':Nat}{ch:List Addr}{xs:List V}{aB:List Value}(I:L2.Inv X ah O H s)(hf:∀b∈ch,je X ah H b)(k:∀b o,b∉ch->s.heap.get? b=some o->h'.get? b=some o)(hz:xs.length<=sizeLine)(rv:Vals xs aB)(ht:eE h' s⁻¹ aB.toArray) :
  L2.Inv X ah O (upd H s⁻¹ (.tup xs)) { s with heap:=h',toks:=t'}:=by
 have nH:∀b u,H b=some u->b∉ch:=λb u e z=>by rw[(hf b z).1]at e;cases e
 have fr:=I.hok.fresh (eA _);have nn:∀b u,H b=some u->b≠s⁻¹:=λb u e z=>by rw[z,fr]at e;cases e
 refine I.step (λb hb=>?_) (λb o _ _ hc e _=>k b o hc e) (λb o _ _ hc e _=>⟨o.slots,k b o hc e⟩) (λb o _ e n=>by rw[au (fN (dL e))];exact n) (λb o hc e=>⟨o,k b o hc e⟩) (λb _ e=>by rw[au (nn _ _ e)];exact e) (λb _ _ e=>by rw[au (nn _ _ e)];exact e) (λb ps e=>⟨#[],by rw[au (nn _ _ e),e];simp⟩) (λm hm=>?_) (λb u e=>?_) I.bare
 . obtain⟨f0,f1,f2,f3,f4,f5⟩:=hf b hb;exact⟨f3,f1,f4,f5⟩
 . obtain⟨o,es,ep,ho,rr⟩:=hm;exact⟨o,es,ep,k _ o (λz=>(hf _ z).2.1 rfl) ho,rr⟩
 .
  by_cases hb:b=s⁻¹
  . subst hb;rw[aE]at e;cases e;exact⟨hz,aB,rv,ht⟩
  .
   rw[au hb]at e;refine (I.hok b u e).stay (λc w hc q=>k c w (λz=>?_) q) (λc q=>by rw[au (nn _ _ q)];exact q) λc _ q=>by rw[au (nn _ _ q)];exact q
   rcases hc with rfl |hc
   . exact nH _ _ e z
   . exact nH _ _ hc z
end
theorem kN.Kp(I:L2.Inv X ah O H s)(h:kN tp X.K H u us)(f:je X ah H c):u≠c:=λz=>by
 subst z;have inK:∀o,X.K.lookup u=some o->False:=λo e=>by
  have e0:=I.ok.mod.yu u o e;rcases f.2.2.2.1 with q |q
  . exact I.ok.p7 u o e0 q
  . exact absurd (eJ (dL (I.ok.bs u o e0).1) q) (nS _)
 cases tp with
 |true=>
  rcases (show ig X.K H u us from h)with (h |⟨o,h⟩) |h
  . rw[f.1]at h;symm
  . rw[f.1]at h;symm
  . obtain⟨o,_,_,h,_⟩:=h;exact inK _ h
 |false=>
  rcases (show cF X.K H u us from h)with (h |⟨o,h⟩) |h
  . rw[f.1]at h;symm
  . rw[f.1]at h;symm
  . obtain⟨o,_,_,h,_⟩:=h;exact inK _ h
noncomputable def Itz(tp:Bool)(K:Frag)(a b:Addr):It:=
 ⟨λi H=>∃xs ys x y,kN tp K H a xs/\kN tp K H b ys/\xs[i]?=some x/\ys[i]?=some y,λi H x H'=>∃p u v,(∀xs,kN tp K H a xs->xs[i]?=some u)/\(∀ys,kN tp K H b ys->ys[i]?=some v)/\H p=none/\x=.ref p/\H'=upd H p (.tup [u,v]),
  λi H=>∃xs ys,kN tp K H a xs/\kN tp K H b ys/\(i=xs.length\/(i<xs.length/\i=ys.length))⟩
theorem zS{P:Program}{w:World}{K:Frag}{tp:Bool}{es:List Expr}{k:Nat}{pos:Pos}(r tI tO i j a b:Addr)(A1:tI≠r/\tO≠r/\i≠r/\j≠r)(A2:tI≠tO/\i≠tO/\j≠tO)(A3:tI≠i/\tI≠j/\i≠j) :
  Turn P w K (.Tuple es k pos) (Itz tp K a b) [r,tI,tO,i,j] r (λn h=>IsZip h r tI tO .none/\IsPair h tI (.ref i) (.ref j)/\(∃c d,IsPair h tO c d)/\yh tp h i a n/\yh tp h j b n) where
 mem:=by simp
 obj:=λn h st x hx=>by
  obtain⟨er,eI,⟨c,d,eO⟩,t1,t2⟩:=st;simp only[b0,i6,Ap]at hx;rcases hx with rfl |rfl |rfl |rfl |rfl
  . exact⟨_,er,λv z=>nomatch (show Data.fields _=Data.cell v from z)⟩
  . exact⟨_,eI,λv z=>nomatch (show Data.seq _ _=Data.cell v from z)⟩
  . exact⟨_,eO,λv z=>nomatch (show Data.seq _ _=Data.cell v from z)⟩
  . obtain⟨o,vs,e1,e2⟩:=t1.obj;exact⟨o,e1,λv z=>by rw[e2]at z;cases z⟩
  . obtain⟨o,vs,e1,e2⟩:=t2.obj;exact⟨o,e1,λv z=>by rw[e2]at z;cases z⟩
 keep:=λn h h' st kp=>by
  obtain⟨er,eI,⟨c,d,eO⟩,t1,t2⟩:=st;exact⟨kp r ⋯ _ er,kp tI ⋯ _ eI,⟨c,d,kp tO ⋯ _ eO⟩,t1.keep λo q=>kp i ⋯ o q,t2.keep λo q=>kp j ⋯ o q⟩
 item:=by
  intro X hP hw hK hc n ah s O H E I hf st hg;subst hP hw hK;obtain⟨er,eI,⟨c,d,eO⟩,t1,t2⟩:=st;obtain⟨xs,ys,x,y,qx,qy,gx,gy⟩:=hg;obtain⟨Ua,rx,Ub,zx⟩:=qx.real I;obtain⟨Uc,ry,Ud,zy⟩:=qy.real I;have nf:∀{u:Addr}{us:List V}{c:Addr},kN tp X.K H u us->c∈[r,tI,tO,i,j]->u≠c:=λh hc=>kN.Kp I h (hf _ hc)
  have N:Rh r tI tO i j a b:=⟨⟨A1.1,A1.2.1,A1.2.2.1,A1.2.2.2,nf qx ⋯,nf qy ⋯⟩,⟨A2.1,A2.2.1,A2.2.2,nf qx ⋯,nf qy ⋯⟩,A3,⟨nf qx ⋯,nf qy ⋯,nf qx ⋯,nf qy ⋯⟩⟩;have l1:n<Ua.length:=by rw[<- rx.length];exact (a9.mp gx).1
  have l2:n<Uc.length:=by rw[<- ry.length];exact (a9.mp gy).1
  refine zR N (jl (A:=X.A.in1) (I.ok.hd hc) (nf qx ⋯) Ua) (jl (A:=X.A.in1) (I.ok.hd hc) (nf qy ⋯) Uc) l1 l2 er eI eO ⟨t1,Ub⟩ ⟨t2,Ud⟩ λu v h1 tk fu gv Du eO1 s1 s2 new sz kp=>⟨_,rfl,?_⟩
  refine wpAny_letOwnedTupleGo_zip Du λh2 er2 k2=>?_
  obtain⟨u',e1,ru⟩:=rx.get gx;obtain⟨v',e2,rv⟩:=ry.get gy;rw[fu]at e1;cases e1;rw[gv]at e2;cases e2;have pr:=wS (dL er);have kk:∀x o,x∉[r,tO,i,j]->s.heap.get? x=some o->h2.get? x=some o:=λx o hx e=>by
   simp only[b0,i6,Ap,not_or]at hx;exact (k2.2 x hx.1).trans (kp x o hx.1 hx.2.1 hx.2.2.1 hx.2.2.2 e)
  have J:=Inv.N6 (t':=tk) I (λc hc=>hf c (by simp only[b0,i6]at hc ⊢;rcases hc with h |h |h |h <;> simp[h])) kk (by rw[yY];show 2<=16777216;decide) (.cons ru (.cons rv .nil)) ⟨_,(k2.2 _ pr).trans new,⟨rfl,_,rfl⟩,rfl⟩
  have eI2:=kk _ _ (by simp[A1.1,A2.1,A3.1,A3.2.1]) eI
  refine⟨.ref s⁻¹,_,J,rfl,⟨_,x,y,λzs hz=>by rw[hz.inj I qx];exact gx,λzs hz=>by rw[hz.inj I qy];exact gy,I.hok.fresh (eA _),rfl,rfl⟩,⟨er2,eI2,⟨u,v,(k2.2 _ A1.2.1).trans eO1⟩,s1.1.keep λo q=>(k2.2 _ A1.2.2.1).trans q,s2.1.keep λo q=>(k2.2 _ A1.2.2.2).trans q⟩,λc hc=>?_⟩
  have hcn:c≠s⁻¹:=λz=>by
   have:∃o,s.heap.get? c=some o:=by
    simp only[b0,i6,Ap]at hc;rcases hc with rfl |rfl |rfl |rfl |rfl
    . exact⟨_,er⟩
    . exact⟨_,eI⟩
    . exact⟨_,eO⟩
    . obtain⟨o,_,e,_⟩:=t1.obj;exact⟨o,e⟩
    . obtain⟨o,_,e,_⟩:=t2.obj;exact⟨o,e⟩
   obtain⟨o,e⟩:=this;exact absurd (dL e) (by rw[z];exact nS _)
  rw[au hcn];exact (hf c hc).1
 done:=by
  intro X hP hw hK hc n ah s O H E I hf st hg;subst hP hw hK;obtain⟨er,eI,⟨c,d,eO⟩,t1,t2⟩:=st;obtain⟨xs,ys,qx,qy,hn⟩:=hg;obtain⟨Ua,rx,Ub,zx⟩:=qx.real I;obtain⟨Uc,ry,Ud,zy⟩:=qy.real I;have nf:∀{u:Addr}{us:List V}{c:Addr},kN tp X.K H u us->c∈[r,tI,tO,i,j]->u≠c:=λh hc=>kN.Kp I h (hf _ hc)
  have N:Rh r tI tO i j a b:=⟨⟨A1.1,A1.2.1,A1.2.2.1,A1.2.2.2,nf qx ⋯,nf qy ⋯⟩,⟨A2.1,A2.2.1,A2.2.2,nf qx ⋯,nf qy ⋯⟩,A3,⟨nf qx ⋯,nf qy ⋯,nf qx ⋯,nf qy ⋯⟩⟩;refine qH N (jl (A:=X.A.in1) (I.ok.hd hc) (nf qx ⋯) Ua) (jl (A:=X.A.in1) (I.ok.hd hc) (nf qy ⋯) Uc) (by rw[<- rx.length,<- ry.length];exact hn) er eI eO ⟨t1,Ub⟩ ⟨t2,Ud⟩ λh1 tk kp=>⟨rfl,?_⟩
  exact Inv.N5 I (ch:=[r,tO,i,j]) (λc hc=>hf c (by simp only[b0,i6]at hc ⊢;rcases hc with h |h |h |h <;> simp[h])) λx o hx e=>by
   simp only[b0,i6,Ap,not_or]at hx;exact kp x o hx.1 hx.2.1 hx.2.2.1 hx.2.2.2 e
 self:=λA n s Q E st h=>wpAny_pyIter_zip st.1 h
open L2 PySem.W SeqAt
section
noncomputable abbrev Ue(h:Heap)(a:Addr):Heap:=h.push { cls:=.type "tuple_iterator",data:=.fields #[.ref a,.int 0 0]}
abbrev W4(h:Heap)(a b:Addr):Heap:=(Ue h a).push { cls:=.type "tuple_iterator",data:=.fields #[.ref b,.int 0 0]}
abbrev W5(h:Heap)(a b:Addr):Heap:=(W4 h a b).push { cls:=.type "tuple",data:=.seq #[.ref h.objs.size,.ref (Ue h a).objs.size]}
abbrev W6(h:Heap)(a b:Addr):Heap:=(W5 h a b).push { cls:=.type "tuple",data:=.seq #[.none,.none]}
abbrev Ri (h:Heap) (a b:Addr):Heap:=(W6 h a b).push { cls:=.type "zip",data:=.fields #[.none,.bool false,.bool false,.ref (W4 h a b).objs.size,.ref (W5 h a b).objs.size]}
theorem sV(a b:Addr)(xs ys:Array Value) :
  Meets (Builtin.«zip.__new__» ⟨[.type "zip",.ref a,.ref b],[]⟩) (λ_ R s=>s.heap.IsTuple a xs/\s.heap.IsTuple b ys/\R (.ok (.ret (.ref (W6 s.heap a b).objs.size))) { s with heap:=Ri s.heap a b}):=
 .of_wp λprog w A R s h=>by
  obtain⟨hp,g,d,tk,os⟩:=s;obtain⟨ta,tb,h⟩:=h;have hsub:=sub_zip;have T1:Heap.IsTuple (Shared.heap ⟨hp,g,d,tk,os⟩) a xs:=ta;have T2:Heap.IsTuple (Shared.heap ⟨Ue hp a,g,d,tk,os⟩) b ys:=by obtain⟨o,e,rr⟩:=tb;exact⟨o,a7 _ e,rr⟩
  wp_walk using t8 T1,t8 T2
  exact⟨_,rfl,h⟩
theorem wO(ta:s.heap.IsTuple a xs)(tb:s.heap.IsTuple b ys)
  (h:∀h',IsZip h' (s⁻¹+4) (s⁻¹+2) (s⁻¹+3) .none->IsPair h' (s⁻¹+2) (.ref s⁻¹) (.ref (s⁻¹+1))->
   IsPair h' (s⁻¹+3) .none .none->h'.IsTupleIter s⁻¹ a 0->h'.IsTupleIter (s⁻¹+1) b 0->h'.objs.size=s⁻¹+5->
   (∀c o,s.heap.get? c=some o->h'.get? c=some o)->Q (.ref (s⁻¹+4)) { s with heap:=h'}) :
  wpAny (model prog w) A (call (.type "zip") [.ref a,.ref b]) Q E s:=by
 refine callType_new F.called_zip ⋯ (F.typeCall_zip_2 _ _) (F.newCall_zip_2 _ _) (λobj=>F.args_object_init_3 obj _ _) F.entry_zip_new (sV a b xs ys) ⟨ta,tb,?_⟩
 have s1:(Ue s.heap a).objs.size=s⁻¹+1:=l9 ..;have s2:(W4 s.heap a b).objs.size=s⁻¹+2:=by rw[l9,s1]
 have s3:(W5 s.heap a b).objs.size=s⁻¹+3:=by rw[l9,s2]
 have s4:(W6 s.heap a b).objs.size=s⁻¹+4:=by rw[l9,s3]
 have o5:(Ri s.heap a b).get? (W6 s.heap a b).objs.size=some _:=dC _ rfl;have o4:(Ri s.heap a b).get? (W5 s.heap a b).objs.size=some _:=a7 _ (dC _ rfl);have o3:(Ri s.heap a b).get? (W4 s.heap a b).objs.size=some _:=a7 _ (a7 _ (dC _ rfl));have o2:(Ri s.heap a b).get? (Ue s.heap a).objs.size=some _:=a7 _ (a7 _ (a7 _ (dC _ rfl)));have o1:(Ri s.heap a b).get? s⁻¹=some _:=a7 _ (a7 _ (a7 _ (a7 _ (dC _ rfl))));rw[s4]at o5 ⊢
 rw[s2,s3]at o5;rw[s2,s1]at o3;rw[s3]at o4;rw[s1]at o2;exact⟨⟨_,o5,rfl⟩,h _ o5 o3 o4 ⟨_,o1,rfl,rfl⟩ ⟨_,o2,rfl,rfl⟩ (by rw[l9,s4]) λc o e=>a7 _ (a7 _ (a7 _ (a7 _ (a7 _ e))))⟩
end
noncomputable def oU(l m:List D):List D:=(l.zip m).map λp=>.tup [p.1,p.2]
theorem zT{l m:List D}{n:Nat}{d:D}(h:(oU l m)[n]?=some d):∃x y,l[n]?=some x/\m[n]?=some y/\d=.tup [x,y]:=by
 unfold oU at h;rw[nE]at h;cases e:(l.zip m)[n]? with
 |none=>rw[e]at h;symm
 |some q=>rw[e]at h;symm;obtain⟨h1,h2⟩:=List.getElem?_zip_eq_some.mp e;exact⟨q.1,q.2,h1,h2,rfl⟩
theorem zU(l m:List D):(oU l m).length=min l.length m.length:=by simp[oU]
section
def isTup:D->Bool
 |.tup _=>true
 |_=>false
theorem Rep.sqX{K:Frag}{M:List Addr}{H:Hp}{d:D}{v:V}{l:List D}(r:Rep K M H d v)(h:cM d=some l):∃a xs,v=.ref a/\aH K M H l xs/\∀M2 H2,ao M H M2 H2->kN (isTup d) K H2 a xs:=by
 cases r with
 |@lst _ a xs hb rr=>symm;exact⟨a,xs,rfl,rr,λM2 H2 st=>cF.of (st _ _ hb.2 hb.1).1⟩
 |@tup _ a xs hb rr=>
  symm;refine⟨a,xs,rfl,rr,λM2 H2 st=>?_⟩
  have:TupAt K M2 H2 a xs:=by
   rcases hb with ⟨na,hr⟩ |hk
   . exact .inl (st.rd na hr)
   . exact .inr hk
  exact this.sq
 |@fix _ a xs hb rr=>
  symm;refine⟨a,xs,rfl,rr,λM2 H2 st=>?_⟩
  have:iE K M2 H2 a xs:=by
   rcases hb with ⟨na,o,hr⟩ |hk
   . exact .inl ⟨(st _ _ hr na).2,o,(st _ _ hr na).1⟩
   . exact .inr hk
  exact this.sq
 |_=>symm
theorem wQ(ta:T7 tp s.heap a xs)(tb:T7 tp s.heap b ys)
  (h:∀h',IsZip h' (s⁻¹+4) (s⁻¹+2) (s⁻¹+3) .none->IsPair h' (s⁻¹+2) (.ref s⁻¹) (.ref (s⁻¹+1))->
   IsPair h' (s⁻¹+3) .none .none->yh tp h' s⁻¹ a 0->yh tp h' (s⁻¹+1) b 0->h'.objs.size=s⁻¹+5->
   (∀c o,s.heap.get? c=some o->h'.get? c=some o)->Q (.ref (s⁻¹+4)) { s with heap:=h'}):wpAny (model prog w) A (call (.type "zip") [.ref a,.ref b]) Q E s:=by
 cases tp with
 |true=>exact wO ta tb h
 |false=>exact call_zip_2 ta tb h
theorem N7{d1 d2:D}{l m:List D}(hK:z.K=X.K)(ha:cI X z [e1,e2] g [.dat d1,.dat d2] g1)(h1:cM d1=some l)(h2:cM d2=some m)(hkd:isTup d1=isTup d2)(hg:Gl X "zip")(hm:X.mg "zip"=none)(cD:starEach [e1,e2] X.env=(false,eval e1 X.env)::starEach [e2] X.env)(cW:(backTo rp (starEach [e2] X.env)).any (·.1)=false) :
  cX X z (.Tuple es k pos) (.Call (.Name "zip" p) [e1,e2] [] rp) g (oU l m) g1:=by
 refine cX.of λah s O Y M H Post I T8 kk=>?_
 refine Call_ (fD I hg hm boot_zip (n0 (ha.run I T8 λvs us s1 H1 aL M1 I1 r1 q1 q2 q3=>?_) cD cW))
 cases q3 with
 |dat rp1 R=>cases R with
  |dat rp2 R=>
   cases R;obtain⟨u1,u2,rfl,ru1,ru2⟩:=vals2 r1;obtain⟨a,xs,rfl,rr1,sq1⟩:=rp1.sqX h1;obtain⟨b,ys,rfl,yd,YM⟩:=rp2.sqX h2;cases ru1;cases ru2;rw[<- hkd]at YM;have sa:=hK▸sq1 M1 H1 (ao.refl _ _);have sb:=hK▸YM M1 H1 (ao.refl _ _);obtain⟨Ua,_,Ub,_⟩:=sa.real I1;obtain⟨Uc,_,Ud,_⟩:=sb.real I1;refine wQ Ub Ud λh' er eI eO t1 t2 iu hk=>kk _ _ λR kR=>?_
   refine wpAny_pyIter_zip er ?_;have I2:=I1.kept (t':=s1.toks) hk;refine⟨_,[s1⁻¹+4,s1⁻¹+2,s1⁻¹+3,s1⁻¹,s1⁻¹+1],_,Itz (isTup d1) X.K a b,H1,rfl,I2,zS (s1⁻¹+4) (s1⁻¹+2) (s1⁻¹+3) s1⁻¹ (s1⁻¹+1) a b (by refine⟨?_,?_,?_,?_⟩ <;> (intro q;have q:=q;lia)) (by refine⟨?_,?_,?_⟩ <;> (intro q;have q:=q;lia)) (by refine⟨?_,?_,?_⟩ <;> (intro q;have q:=q;lia)),⟨er,eI,⟨_,_,eO⟩,t1,t2⟩,λc hc=>?_,kR _ H1 aL M1 q1 q2 λM2 H2 aJ=>?_⟩
   .
    have hle:s1⁻¹<=c:=by simp only[b0,i6,Ap]at hc;rcases hc with rfl |rfl |rfl |rfl |rfl <;> lia
    exact I1.n8 hle (I1.hok.fresh hle)
   .
    have s1':=hK▸sq1 M2 H2 aJ;have s2':=hK▸YM M2 H2 aJ;have R1:=rr1.stay aJ;have R2:=yd.stay aJ;refine⟨λn d hd=>?_,xs,ys,s1',s2',?_⟩
    .
     obtain⟨x,y,f1,f2,rfl⟩:=zT hd;obtain⟨vx,e2,e3⟩:=R1.get f1;obtain⟨vy,e4,e5⟩:=R2.get f2;refine⟨⟨xs,ys,vx,vy,s1',s2',e2,e4⟩,λw H' hy z' g' σ' aA hz' s'=>?_⟩
     obtain⟨p,u,v,w1,w2,w3,rfl,rfl⟩:=hy;have w1:=w1 xs s1';have w2:=w2 ys s2';rw[e2]at w1;cases w1;rw[e4]at w2;cases w2;exact⟨s'.laid w3,ao.laid w3,.tup (.inl ⟨s'.fresh w3,.inl aE⟩) (.cons (e3.stay (ao.laid w3)) (.cons (e5.stay (ao.laid w3)) .nil))⟩
    . rw[zU,rr1.length,yd.length];lia
end
end Ev
namespace L2
def uO(T:List Addr)(H:Hp):Prop:=∀b,(b∈T/\H b=some (.jA #[]))\/(b∉T/\(H b=none\/∃o xs,H b=some (.g9 o (.lst xs))))
theorem wR{P:Program}{w:World}{K:Frag}{mg mb:Str->Option Value}{CX:vU}{k:Nat}{fa a:Addr}{fd:FuncData}{x:Str}{sp:Sp}{s₁:Shared}{vs:List Value}{ns: ~~~0}{T:List Addr}
  (KX:K.In s₁.heap) (hT:∀q∈T,(∃c,s₁.heap.TableAt c q #[])/\K.lookup q=none) (hns:s₁.heap.Ns mainGlobals mg) (hb:s₁.heap.Ns builtinsNs mb) (hbb:∀x:Str,x≠ "__name__" ->mb x=bootBuiltins x) (hlim:s₁.heap.NoLimit) (hg:s₁.gens = #[])
  (ha:s₁.heap.get? a=some { cls:=.type "list",data:=.seq vs.toArray}) (hi:IntsAre vs ns) (hl:ns.length<=sizeLine) (hr:bK k callerA)
  (F:∀base:Heap,K.In base->base.Ns mainGlobals mg->gJ P w K mg base CX k fa fd [x] sp) (hbind:∀(s:Shared) (u:Value),BindsTo s fd ⟨[u],[]⟩ [(x,u)])
  (Q8:∀H:Hp,uO T H->cF K H a (ns.map V.int)->sp [.ref a] H (λv _=>v=.bl true) λ_ _ _=>False)
  (YQ:∀H e s',CX [] H s₁ (λ_ _ _=>False) e s'->False) :
  codeAny (model P w) callerA (.call (.ref fa) ⟨[.ref a],[]⟩) (λr s'=>r=.ok (.ret (.bool true))/\OldK s₁.heap s'.heap/\s'.os=s₁.os/\AllBare s'.gens) s₁:=by
 have rv:=mY hi;have lenV:=hi.length;have aT:a∉T:=λh=>by
  obtain⟨⟨c,_,e⟩,_⟩:=hT a h;rw[ha]at e;cases e
 have core:∀H:Hp,uO T H->cF K H a (ns.map V.int)->jc P w H s₁.heap->(∀b,H b≠none->b=a\/b∈T)->(H a≠none->K.lookup a=none)->
   codeAny (model P w) callerA (.call (.ref fa) ⟨[.ref a],[]⟩) (λr s'=>r=.ok (.ret (.bool true))/\OldK s₁.heap s'.heap/\s'.os=s₁.os/\AllBare s'.gens) s₁:=by
  intro H hO hS hok hA hK;have uP:∀{b:Addr}{o:Obj},s₁.heap.get? b=some o->H b=none->(nY s₁.heap H).get? b=some o:=λe n=>yt e n
  have Sy:∀{b:Addr}{o:Obj}{es:Array DictEntry}{ep:Nat},s₁.heap.get? b=some o->o.data=.dict es ep->H b=none:=λ{b o es ep} e d=>by
   cases q:H b with
   |none=>rfl
   |some u=>
    rcases hA b (by rw[q];simp)with e' |e'
    . subst e';rw[ha]at e;cases e;have d':=d;cases d'
    . obtain⟨⟨c,_,e2⟩,_⟩:=hT b e';rw[e]at e2;cases e2;have d':=d;cases d'
  have W7:∀{b:Addr}{m:Str->Option Value},s₁.heap.Ns b m->(nY s₁.heap H).Ns b m:=λ{b m} ⟨o,es,ep,e,d,r⟩=>⟨o,es,ep,uP e (Sy e d),d,r⟩
  have Kq:K.In (nY s₁.heap H):=λb o e=>uP (KX b o e) (by
   cases q:H b with
   |none=>rfl
   |some u=>
    rcases hA b (by rw[q];simp)with e' |e'
    . subst e';rw[hK (by rw[q];simp)]at e;cases e
    .
     rw[(hT b e').2]at e;cases e)
  have hM:Mod K mg (nY s₁.heap H):=⟨Kq,W7 hns,⟨mb,W7 hb,hbb⟩,let ⟨mc,h1,h2⟩:=hlim;⟨mc,W7 h1,h2⟩⟩
  have e0:yM P w K mg (nY s₁.heap H) callerA [] s₁ H:=⟨rfl,hM,λb o e=>DP e,A7 (vK _ _),trivial,λb hb=>absurd (show b∈([]:List Addr)from hb) ⋯,hok,.of_eq hg⟩
  refine y0 ((F _ Kq (W7 hns)).run callerA [] s₁ H ⟨[.ref a],[]⟩ [.ref a] [.ref a] _ _ hr e0 (hbind s₁ (.ref a)) (.cons rfl .nil) (Q8 H hO hS)) λr s' h=>?_
  cases r with
  |error e=>exact (YQ H e s' h).elim
  |ok fl=>
   cases fl with
   |next=>exact False.elim h
   |brk=>exact False.elim h
   |cont=>exact False.elim h
   |ret u=>
    obtain⟨v,H',os,bare,un,Gu,r',q⟩:=h;have q':=q;subst q';obtain rfl:u=Value.bool true:=r';have tabs:∀b∈T,∀o,s₁.heap.get? b=some o->∃more,o={ cls:=.none,data:=.fields #[]}/\s'.heap.get? b=some { cls:=.none,data:=.fields more}:=λb hb o e=>by
     obtain⟨⟨c,_,e2⟩,_⟩:=hT b hb;rw[e]at e2;cases e2;rcases hO b with ⟨_,z⟩ |⟨z,_⟩
     . obtain⟨more,z2⟩:=un.iA b _ z;exact⟨_,rfl,Gu b _ z2⟩
     . exact absurd hb z
    have rest:∀b,b∉T->∀o,s₁.heap.get? b=some o->s'.heap.get? b=some o:=λb hb o e=>by
     cases q:H b with
     |none=>exact un.keep b o e q (by intro z;exact absurd (show b∈([]:List Addr)from z) ⋯) ⋯
     |some u=>
      rcases hO b with ⟨z,_⟩ |⟨_,z⟩
      . exact absurd z hb
      .
       rcases z with z |⟨ob,xs,z⟩
       . rw[q]at z;cases z
       . have z2:=un.iz b ob _ z;obtain⟨e1,_⟩:=hok b _ z;obtain⟨e2,_⟩:=Gu b _ z2;rw[e]at e1;cases e1;exact e2
    refine⟨rfl,⟨λb o e=>?_,λb o e=>?_⟩,os,bare⟩
    .
     by_cases hb:b∈T
     . obtain⟨more,rfl,e2⟩:=tabs b hb o e;obtain⟨⟨c,t⟩,_⟩:=hT b hb;exact .inr (.inl ⟨t.isCodeTable,rfl,#[],more,rfl,by rw[e2];simp⟩)
     . exact .inl (rest b hb o e)
    .
     by_cases hb:b∈T
     . obtain⟨more,rfl,e2⟩:=tabs b hb o e;exact⟨_,e2⟩
     . exact⟨_,rest b hb o e⟩
 have zV:∀b∈T,s₁.heap.get? b=some { cls:=.none,data:=.fields #[]}:=λb hb=>by
  obtain⟨⟨c,_,e2⟩,_⟩:=hT b hb;exact e2
 cases hk:K.lookup a with
 |some o=>
  have e:=KX a o hk;rw[ha]at e;cases e;refine core (λb=>if b∈T then some (.jA #[])else none) (λb=>?_) (.inr ⟨_,vs.toArray,_,hk,rfl,rfl,rfl,by rw[bP,lenV];exact hl,by simpa using rv⟩) (λb u z=>?_) (λb z=>?_) λz=>absurd (i8 aT) z
  .
   by_cases hb:b∈T
   . exact .inl ⟨hb,lL hb⟩
   . exact .inr ⟨hb,.inl (i8 hb)⟩
  .
   by_cases hb:b∈T
   . have z':=(lL hb).symm.trans z;cases z';exact zV b hb
   . have z':=(i8 hb).symm.trans z;cases z'
  .
   by_cases hb:b∈T
   . exact .inr hb
   . exact absurd (i8 hb) z
 |none=>
  refine core (λb=>if b∈T then some (.jA #[])else if b=a then some (.g9 { cls:=.type "list",data:=.seq vs.toArray} (.lst (ns.map V.int)))else none) (λb=>?_) (.inl (.inr ⟨{ cls:=.type "list",data:=.seq vs.toArray},(i8 aT).trans (lL rfl)⟩)) (λb u z=>?_) (λb z=>?_) λ_=>hk
  .
   by_cases hb:b∈T
   . exact .inl ⟨hb,lL hb⟩
   .
    refine .inr ⟨hb,?_⟩;by_cases hb2:b=a
    . exact .inr ⟨_,_,(i8 hb).trans (lL hb2)⟩
    . exact .inl ((i8 hb).trans (i8 hb2))
  .
   by_cases hb:b∈T
   . have z':=(lL hb).symm.trans z;cases z';exact zV b hb
   .
    have z1:=(i8 hb).symm.trans z;by_cases hb2:b=a
    . have z':=(lL hb2).symm.trans z1;cases z';subst hb2;exact⟨ha,by rw[eC];exact hl,vs,_,rv,ha⟩
    . have z':=(i8 hb2).symm.trans z1;cases z'
  .
   by_cases hb:b∈T
   . exact .inr hb
   .
    by_cases hb2:b=a
    . exact .inl hb2
    . exact absurd ((i8 hb).trans (i8 hb2)) z
end L2
namespace Ev
open L2
abbrev jm(p:Addr)(o:Obj):HO:=.ext λh=>h.get? p=some o
section
theorem S.grow(s:S z g O Y M H){q:Addr}{qn:Str}{ps:Array Value}{pos:Pos}{c:Addr}(hq:(q,qn)∈z.T)(hu:∀p∈z.T,p.1=q->p.2=qn)(hp:H q=some (.jA ps))(ht:TriplesOk ps.toList)(hc:H c=some (fy qn c))
  (ok:TriplesOk (ps ++ #[rawInt pos.line,rawInt pos.col,.ref c]).toList) (am:∀pos' cv,codeAmong pos' (ps ++ #[rawInt pos.line,rawInt pos.col,.ref c]).toList=some cv->codeAmong pos' ps.toList=some cv\/cv=.ref c) :
  S z g O Y M (upd H q (.jA (ps ++ #[rawInt pos.line,rawInt pos.col,.ref c]))) where
 sl:=s.sl.stay (ao.write (s.gK _ (s.tm _ hq))) λa ha u e=>by
  rcases s.live a (s.sub a ha)with ⟨o,e2,gr⟩ |e2
  . rw[au (λz=>by rw[z,hp]at e2;cases e2;exact gr)];exact e
  .
   exact absurd e2 (λw=>by
    have:∃xs,H a=some (.lst xs):=by
     have key:∀{g:G}{O:Sg}{Y:List Addr},Slots z.K M H g O Y->∀a∈Y,∃xs,H a=some (.lst xs):=λq=>by
      induction q with
      |nil=>intro a h;symm
      |no _ ih=>exact ih
      |dat _ _ ih=>exact ih
      |own e _ _ ih=>intro a h;rcases b0.mp h with rfl |h;exact⟨_,e⟩;exact ih a h
     exact key s.sl a ha
    obtain⟨xs,e3⟩:=this;exact s.Kg e3 w)
 nd:=s.nd
 sub:=s.sub
 own:=s.own
 live:=λm hm=>by
  rcases s.live m hm with ⟨o,e,gr⟩ |e
  . exact .inl ⟨o,by rw[au (λz=>by rw[z,hp]at e;cases e;exact gr)];exact e,gr⟩
  . exact .inr e
 keep:=λb u e hb hT=>by
  rw[au (λz=>hT (by rw[z];exact gL.mpr ⟨_,hq,rfl⟩))];exact s.keep b u e hb hT
 gK:=s.gK
 m0:=s.m0
 bm:=s.bm
 jg:=s.jg
 tab:=λp h=>by
  have lam:∀d Rj,H d=some (fy Rj d)->upd H q (.jA (ps ++ #[rawInt pos.line,rawInt pos.col,.ref c])) d=some (fy Rj d):=λd Rj e=>by
   rw[au (λz=>by rw[z,hp]at e;cases e)];exact e
  by_cases e:p.1=q
  .
   obtain⟨p1,p2⟩:=p;have e1:=e;have e2:=hu _ h e;subst e1;subst e2;refine⟨_,aE,ok,λpos' cv ec=>?_⟩
   rcases am pos' cv ec with ec |rfl
   . obtain⟨ps',h1,_,h3⟩:=s.tab _ h;rw[hp]at h1;cases h1;obtain⟨d,e1,e2⟩:=h3 pos' cv ec;exact⟨d,e1,lam d _ e2⟩
   . exact⟨c,rfl,lam c _ hc⟩
  .
   obtain⟨ps',h1,h2,h3⟩:=s.tab p h;refine⟨ps',by rw[au e];exact h1,h2,λpos' cv ec=>?_⟩
   obtain⟨d,e1,e2⟩:=h3 pos' cv ec;exact⟨d,e1,lam d _ e2⟩
 tm:=s.tm
 tt:=s.tt
end
theorem oV(h:TriplesOk l):TriplesOk (l++[.int i a,.int j b,v]):=by
 fun_induction TriplesOk l with
 |case1=>trivial
 |case2 _ _ _ _ _ rest ih=>exact ih h
 |case3=>exact h.elim
theorem sW(h:TriplesOk l)(e:codeAmong pos (l++[.int i a,.int j b,v])=some cv):codeAmong pos l=some cv\/cv=v:=by
 fun_induction TriplesOk l with
 |case1=>
  simp only[AJ,codeAmong]at e;split at e
  . exact .inr (l6 e).symm
  . cases e
 |case2 line _ col _ c rest ih=>
  simp only[List.cons_append,codeAmong]at e ⊢
  split at e
  . rename_i q;rw[lL q];exact .inl e
  . rename_i q;rw[i8 q];exact ih h e
 |case3=>exact h.elim
section
theorem uQ(hok:jc P w H h)(hq:H q=some (.jA ps))(hq':H' q=some (.jA (ps++more)))(k:∀b o,b≠q->h.get? b=some o->h'.get? b=some o)(tq:∃o,h'.get? q=some o)
  (kH:∀b,b<h.objs.size->b≠q->H' b=H b):Un fs [] H H' h h' where
 keep:=λb o e n _ _=>k b o (λz=>by rw[z,hq]at n;cases n) e
 slot:=λb o e n _ _=>⟨o.slots,k b o (λz=>by rw[z,hq]at n;cases n) e⟩
 free:=λb o e n _=>by rw[kH b (dL e) (λz=>by rw[z,hq]at n;cases n)];exact n
 there:=λb o e _=>by
  by_cases hb:b=q
  . subst hb;exact tq
  . exact⟨o,k b o hb e⟩
 tups:=λb xs e=>by rw[kH b (hok.lt e) (λz=>by rw[z,hq]at e;cases e)];exact e
 iz:=λb o u e=>by rw[kH b (hok.lt e) (λz=>by rw[z,hq]at e;cases e)];exact e
 iA:=λb ps' e=>by
  by_cases hb:b=q
  . subst hb;rw[hq]at e;cases e;exact⟨_,hq'⟩
  . rw[kH b (hok.lt e) hb];exact⟨#[],by rw[e];simp⟩
end
section
theorem zW(e:h.get? p=some o):cg P w H h p (jm p o):=⟨e,⟨o,e⟩,λ_ _ e k=>k _ e⟩
theorem Gv(e:h.CodeRec (.ref c) q):cg P w H h c (fy q c):=by
 refine⟨e,?_,λh1 h2 e k=>?_⟩
 . obtain⟨c',o,vs,t,e1,e2,_⟩:=e;cases e1;exact⟨o,e2⟩
 . obtain⟨c',o,vs,t,e1,e2,e3⟩:=e;cases e1;exact⟨c,o,vs,t,rfl,k _ e2,e3⟩
theorem zX(I:L2.Inv X ah O H s)(hs:S z g O Y M H)(hq:(q,qn)∈z.T)(hu:∀p∈z.T,p.1=q->p.2=qn)(hcode:X.env.code=.ref c)(C:PySem.W.CodeHd X.base c q)(hqn:X.env.qual ++ "<lambda>"=qn)
  (hb:X.base.BuiltinsAt X.mg q) (Ug:mainGlobals≠q) (hdef:defaultsOf params X.env=([],[])) (B:bR X.env.scope scope)
  (h:∀(p c':Addr) (g8:Value) (cl:List (Str×Addr)) (H':Hp) (s':Shared),L2.Inv X ah O H' s'->S z g O Y M H'->ao M H M H'->p∉M->
   H' p=some (jm p (PySem.W.kla_obj "<lambda>" qn params body scope cl ((X.mg "__name__").getD .none) c' g8))->H' c'=some (fy qn c')->
   (∀x c,cl.lookup x=some c->X.env.cells.lookup x=some c/\(x,NameKind.free)∈scope.names)->(∀y∈scope.names,y.2=.free->∃c,cl.lookup y.1=some c)->(∀b xs,H b=some (.lst xs)->H' b=some (.lst xs))->Q (.ref p) s') :
  wpAny (~~~2) X.A (eval (.Lambda params body scope pos) X.env) Q E s:=by
 refine PySem.W.kla_eval hdef ?_;rw[hqn];obtain⟨ps,hp,ht,hcs⟩:=hs.tab _ hq;have hP:=I.hok q _ hp;obtain⟨cl,hcl,Dw,N8⟩:=j6 λy hy e=>I.ok.has y.1 (by
  rcases B.free y hy e with e |e
  . exact .inl e
  .
   exact .inr e)
 have YS:=dL hP;cases hf:codeAmong pos ps.toList with
 |some cv=>
  obtain⟨c',rfl,hc'⟩:=hcs pos cv hf;refine PySem.W.kla_makeFunctionHit hcl I.ok.glob (I.ok.mod.glob.keeps I.bk) hcode (C.keeps I.bk) hP ht hf (hb.keeps I.bk) λg8 h' tk hk iu=>?_
  have hk2:∀b o,s.heap.get? b=some o->(h'.push (PySem.W.kla_obj "<lambda>" qn params body scope cl ((X.mg "__name__").getD .none) c' g8)).get? b=some o:=λb o e=>a7 _ (hk b o e)
  have fr:=I.hok.fresh iu;have kH:∀b,b<s⁻¹->b≠q->upd H h'.objs.size (jm h'.objs.size (PySem.W.kla_obj "<lambda>" qn params body scope cl ((X.mg "__name__").getD .none) c' g8)) b=H b:=λb hb _=>au (fN (eJ hb iu))
  have Rj:=fN (eJ YS iu);refine h _ c' g8 cl (upd H h'.objs.size (jm h'.objs.size (PySem.W.kla_obj "<lambda>" qn params body scope cl ((X.mg "__name__").getD .none) c' g8))) _ (I.call' rfl
   (uQ (more:=#[]) I.hok hp (by rw[au Rj,hp];simp) (λb o _ e=>hk2 b o e) ⟨_,hk2 _ _ hP⟩ kH) (I.hok.laid hk2 iu (zW (dC _ rfl))) I.bare λb z=>nomatch z) (hs.laid fr) (ao.laid fr) (hs.fresh fr) aE ?_ Dw N8 λb xs e=>by rw[au (aG e fr)];exact e
  rw[au (λz=>by rw[z,fr]at hc';cases hc')];exact hc'
 |none=>
  refine PySem.W.kla_makeFunction hcl I.ok.glob (I.ok.mod.glob.keeps I.bk) hcode (C.keeps I.bk) hP ht hf Ug (hb.keeps I.bk) λc' g8 h' tk hx hc1 hc2 Uh hP'=>?_
  have iu:=Nat.le_of_lt (Nat.lt_of_le_of_lt hc1 hc2);have hk2:∀b o,b≠q->s.heap.get? b=some o->(h'.push (PySem.W.kla_obj "<lambda>" qn params body scope cl ((X.mg "__name__").getD .none) c' g8)).get? b=some o:=λb o ne e=>a7 _ (hx b o ne e)
  have YT:=I.hok.fresh hc1;have YW:=I.hok.fresh iu;have qc:=fN (eJ YS hc1);have qp:=fN (eJ YS iu);have cp:=fN hc2;have s1:=hs.laid (o:=fy qn c') YT;have e1:upd H c' (fy qn c') q=some (.jA ps):=by rw[au qc];exact hp
  have s2:=s1.grow (pos:=pos) hq hu e1 ht aE (by rw[Array.toList_append];exact oV ht) (λpos' cv e=>sW ht (by rw[Array.toList_append]at e;exact e))
  have Ui:upd (upd H c' (fy qn c')) q (.jA (ps ++ #[rawInt pos.line,rawInt pos.col,.ref c'])) h'.objs.size=none:=by rw[au qp.symm,au cp.symm];exact YW
  have s3:=s2.laid (o:=jm h'.objs.size (PySem.W.kla_obj "<lambda>" qn params body scope cl ((X.mg "__name__").getD .none) c' g8)) Ui;have kH:∀b,b<s⁻¹->b≠q->upd (upd (upd H c' (fy qn c')) q (.jA (ps ++ #[rawInt pos.line,rawInt pos.col,.ref c']))) h'.objs.size (jm h'.objs.size (PySem.W.kla_obj "<lambda>" qn params body scope cl ((X.mg "__name__").getD .none) c' g8)) b=H b:=λb hb ne=>by
   rw[au (fN (eJ hb iu)),au ne,au (fN (eJ hb hc1))]
  have hq3:upd (upd (upd H c' (fy qn c')) q (.jA (ps ++ #[rawInt pos.line,rawInt pos.col,.ref c']))) h'.objs.size (jm h'.objs.size (PySem.W.kla_obj "<lambda>" qn params body scope cl ((X.mg "__name__").getD .none) c' g8)) q=some (.jA (ps ++ #[rawInt pos.line,rawInt pos.col,.ref c'])):=by rw[au qp];exact aE
  have hc3:upd (upd (upd H c' (fy qn c')) q (.jA (ps ++ #[rawInt pos.line,rawInt pos.col,.ref c']))) h'.objs.size (jm h'.objs.size (PySem.W.kla_obj "<lambda>" qn params body scope cl ((X.mg "__name__").getD .none) c' g8)) c'=some (fy qn c'):=by rw[au cp,au qc.symm];exact aE
  have hP2:=a7 (PySem.W.kla_obj "<lambda>" qn params body scope cl ((X.mg "__name__").getD .none) c' g8) hP';have Gu:jc X.prog X.w (upd (upd (upd H c' (fy qn c')) q (.jA (ps ++ #[rawInt pos.line,rawInt pos.col,.ref c']))) h'.objs.size (jm h'.objs.size (PySem.W.kla_obj "<lambda>" qn params body scope cl ((X.mg "__name__").getD .none) c' g8))) (h'.push (PySem.W.kla_obj "<lambda>" qn params body scope cl ((X.mg "__name__").getD .none) c' g8)):=λb u e=>by
   by_cases b1:b=h'.objs.size
   . subst b1;rw[aE]at e;cases e;exact zW (dC _ rfl)
   .
    by_cases b2:b=q
    . subst b2;rw[hq3]at e;cases e;exact hP2
    .
     by_cases b3:b=c'
     .
      subst b3;rw[hc3]at e;cases e;exact Gv (by
       obtain⟨d,o,vs,t,e1,e2,e3⟩:=Uh;exact⟨d,o,vs,t,e1,a7 _ e2,e3⟩)
     .
      rw[au b1,au b2,au b3]at e;refine (I.hok b u e).stay (λd o hd eo=>hk2 d o (λz=>?_) eo) (λd ed=>?_) λd xs ed=>?_
      .
       rcases hd with hd |hd
       . exact b2 (hd▸z)
       . rw[z,hp]at hd;cases hd
      . rw[kH d (I.hok.lt ed) (λz=>by rw[z,hp]at ed;cases ed)];exact ed
      . rw[kH d (I.hok.lt ed) (λz=>by rw[z,hp]at ed;cases ed)];exact ed
  refine h _ c' g8 cl _ _ (I.call' rfl
   (uQ I.hok hp hq3 hk2 ⟨_,hP2⟩ kH) Gu I.bare λb z=>nomatch z) s3 ?_ (hs.fresh YW) aE hc3 Dw N8 λb xs e=>by rw[au (aG e YW),au (λz=>by rw[z,hp]at e;cases e),au (aG e YT)];exact e
  exact ((ao.laid YT).trans (ao.write (hs.gK _ (hs.tm _ hq)))).trans (ao.laid Ui)
end
noncomputable def qI(X:Cx)(N:List Str)(qual:Str)(scope:Scope)(p:Addr)(cd:Value)(cl:List (Str×Addr))(s:Shared)(H:Hp)(xe:Value->Shared->Prop):Cx where
 prog:=X.prog
 w:=X.w
 K:=X.K
 mg:=X.mg
 base:=X.base
 A:=X.A.deeper (PySem.W.envX qual scope s⁻¹ p cd cl)
 N:=N
 s₀:=s
 H₀:=H
 env:=PySem.W.envX qual scope s⁻¹ p cd cl
 outer:=X.stack
 stack:=PySem.W.envX qual scope s⁻¹ p cd cl::X.stack
 ex:=[]
 calm:=true
 fn:=λ_=>false
 pn:=[]
 xe:=xe
structure oW(N:List Str)(O:Sg)(scope:Scope)(cl:List (Str×Addr))(H:Hp)(h:Heap):Prop where
 inj:∀x y c,cl.lookup x=some c->cl.lookup y=some c->x=y
 has:∀x,scope.names.lookup x=some .cell\/scope.names.lookup x=some .free->∃c,cl.lookup x=some c
 cell:∀x c,cl.lookup x=some c->H c=none/\∃v,h.IsCell c v
 loc:∀(i:Nat) (x:Str) (v:V),N[i]?=some x->O[i]?=some (some v)->rZ scope x->scope.names.lookup x=some .free/\∃u c,RelV v u/\cl.lookup x=some c/\h.IsCell c (some u)
 len:O.length=N.length
section
theorem Gw(I:L2.Inv X ah O H s)(hc:X.calm=true)(hk:scope.kind=.function)(C:oW N σ0 scope cl H s.heap)(hk₁:∀b o,s.heap.get? b=some o->h₁.get? b=some o)(hns:h₁.Ns s⁻¹ m) :
  L2.Inv (qI X N qual scope p cd cl s H xe) [] σ0 H { s with heap:=h₁,toks:=tk}:=by
 have e0:=I.Eg;refine⟨⟨e0.mod,hk,rfl,rfl,eA _,C.inj,C.has,(λ_ _ h=>nomatch h),λ_=>I.ok.hd hc,Around.frames_deeper e0.frames,.inr ⟨rfl,rfl⟩,(λb z=>nomatch z),e0.bs,e0.yw,(λ_ _ _ z=>nomatch z),(λb z=>nomatch z),e0.iB,e0.DR⟩,
  rfl,e0.bare,Un.kept hk₁,⟨m,hns,λi x v h1 h2 h3=>?_⟩,λx c e=>?_,e0.hok.fresh (eA _),λx c e=>(C.cell x c e).1,(λp hp=>nomatch hp),e0.hok.kept hk₁,C.len⟩
 . obtain⟨f,u,c,r,e1,e2⟩:=C.loc i x v h1 h2 h3;exact⟨u,r,.inr ⟨.inr f,c,e1,e2.keeps hk₁⟩⟩
 . obtain⟨v,q⟩:=(C.cell x c e).2;exact⟨v,q.keeps hk₁⟩
theorem zY{z:Z}{g g':G}{Y M:List Addr}{body:Expr}{params:Arguments}{pm g8:Value}{c' C:Addr}{R:Result->Shared->Prop}(I:L2.Inv X ah O H s)(hc:X.calm=true)(hroom:X.A.depth<recursionLimit)
  (hp:s.heap.get? p=some (PySem.W.kla_obj "<lambda>" qual params body scope cl pm c' g8)) (Uh:s.heap.CodeRec (.ref c') qual) (hpar:bindArgs (PySem.W.kla_fn "<lambda>" qual params body scope cl pm (.ref c') g8) ⟨[],[]⟩=pure [])
  (hco:scope.isCoroutine=false) (hgen:scope.isGenerator=false) (hk:scope.kind=.function) (hnc:∀x∈scope.names,x.2≠.cell) (Cl:oW N σ0 scope cl H s.heap) (hS:S z g σ0 Y M H)
  (hb:∀xe,PassesOwn (~~~2) (X.A.deeper (PySem.W.envX qual scope s⁻¹ p (.ref c') cl)) (PySem.W.envX qual scope s⁻¹ p (.ref c') cl) xe->jP (qI X N qual scope p (.ref c') cl s H xe) z body g C g')
  (hR:∀x H1 aL M1 s'',yg X.prog X.w X.stack H s (λc o h=>c=.ref C/\o=none/\h=H1) (.ref x) s''->S z g' σ0 aL M1 H1->ao M H M1 H1->R (.error (.ref x)) s'') :
  codeAny (~~~2) X.A (.call (.ref p) ⟨[],[]⟩) R s:=by
 refine PySem.W.kla_callFunE hroom hp rfl hco hgen rfl Uh ?_;rw[hpar];refine dS (wpAny_newFunctionEnv hnc (λy hy=>nomatch hy) (λh₁ hns hsb=>⟨(I.nolimit).fresh _ hsb,?_⟩) hk)
 have hk₁:∀b o,s.heap.get? b=some o->h₁.get? b=some o:=λb o e=>hsb.extBut b o (fN (dL e)) (a7 _ e)
 refine PySem.W.kla_codeExpr ?_;obtain⟨t,q,k⟩:=hb (λe' s'=>wpAny (~~~2) (X.A.deeper (PySem.W.envX qual scope s⁻¹ p (.ref c') cl)) (leaving (PySem.W.envX qual scope s⁻¹ p (.ref c') cl) e') (λ_ s''=>R (.error e') s'') (λe'' s''=>R (.error e'') s'') s') PassesOwn.leaving
 have J:=Gw (qual:=qual) (p:=p) (cd:=.ref c') (σ0:=σ0) (tk:=s.toks+([]:List (Str×Value)).length) (xe:=λe' s'=>wpAny (~~~2) (X.A.deeper (PySem.W.envX qual scope s⁻¹ p (.ref c') cl)) (leaving (PySem.W.envX qual scope s⁻¹ p (.ref c') cl) e') (λ_ s''=>R (.error e') s'') (λe'' s''=>R (.error e'') s'') s') I hc hk Cl hk₁ hns
 refine hZ (q [] _ σ0 H (λ_ _=>False) J (k σ0 Y M H _ hS λpins1 s1 H1 aL M1 x I1 S1 st fl=>?_)) (λv s' h=>?_) λ_ _ h=>h
 . exact nB I1 rfl rfl rfl fl λs'' cx=>hR x H1 aL M1 s'' cx S1 st
 . obtain⟨_,_,_,_,h⟩:=h;exact h.elim
end
section
theorem Inv.cnl(I:L2.Inv X [] O H s):∀y c,X.env.cells.lookup y=some c->c≠X.env.locals:=λy c e q=>by
 obtain⟨v,o,h1,h2⟩:=I.cell y c e;obtain⟨m,⟨o',es,ep,h3,h4,_⟩,_⟩:=I.loc;rw[q,h3]at h1;cases h1;rw[h4]at h2;cases h2
theorem Inv.touch(I:L2.Inv X [] O H s)(hp:X.pn=[])(hT:X.s₀.heap.get? T=none)(hH:H T=none)(hf:∃o vs,s.heap.get? T=some o/\o.data=.fields vs)(k:∀b o,b≠T->s.heap.get? b=some o->h'.get? b=some o)(kT:∃o,h'.get? T=some o) :
  L2.Inv X [] O H { s with heap:=h'}:=by
 obtain⟨oT,ts,eT,dT⟩:=hf;have Gx:∀b o,X.s₀.heap.get? b=some o->b≠T:=λb o e q=>by rw[q,hT]at e;cases e
 have Uj:∀b o,s.heap.get? b=some o->(∀vs,o.data≠.fields vs)->b≠T:=λb o e d q=>by rw[q,eT]at e;cases e;exact d _ dT
 have cellK:∀c v,s.heap.IsCell c v->h'.IsCell c v:=by rintro c v ⟨o,e,d⟩;exact⟨o,k c o (Uj c o e λvs q=>by rw[d]at q;cases q) e,d⟩
 obtain⟨m,⟨o,es,ep,e,d,r⟩,hlk⟩:=I.loc;refine⟨I.ok,I.os,I.bare,⟨λb o e n hb hx=>?_,λb o e n hb hx=>?_,I.base.free,λb o e hx=>?_,I.base.tups,I.base.iz,I.base.iA⟩,⟨m,⟨o,es,ep,k _ _ (Uj _ _ e λvs q=>by rw[d]at q;cases q) e,d,r⟩,λi y v h1 h2 h3=>?_⟩,λy c e=>?_,I.free,I.cG,λp hp2=>?_,λb u e=>?_,I.len⟩
 . exact k b o (Gx b o e) (I.base.keep b o e n hb hx)
 . obtain⟨sl,e1⟩:=I.base.slot b o e n hb hx;exact⟨sl,k b _ (Gx b o e) e1⟩
 . obtain⟨o',e1⟩:=I.base.there b o e hx;exact⟨o',k b _ (Gx b o e) e1⟩
 . obtain⟨u,r,q⟩:=hlk i y v h1 h2 h3;exact⟨u,r,q.imp id (by rintro⟨q1,c,q2,q3⟩;exact⟨q1,c,q2,cellK c _ q3⟩)⟩
 . obtain⟨v,q⟩:=I.cell y c e;exact⟨v,cellK c v q⟩
 . rw[hp]at hp2;cases hp2
 .
  refine (I.hok b u e).stay (λc w hc q=>k c w (λz=>?_) q) (λ_ q=>q) λ_ _ q=>q
  subst z;rcases hc with rfl |hc
  . rw[hH]at e;cases e
  . rw[hH]at hc;cases hc
theorem qJ(I:L2.Inv X [] O H s)(hp:X.pn=[])(fl:pU X.s₀.heap x C H s.heap)(h:∀s',L2.Inv X [] O H s'->pU X.s₀.heap x C H s'.heap->Q () s') :
  wpAny M A (setFlight (.ref x) none) Q E s:=by
 obtain⟨⟨oe,vs,he,hc,cB,hd,iu,hT⟩,Rc,Rf⟩:=id fl;rcases hT with hT |⟨T,oT,ts,h1,NK,WQ,WR,Dr,Ds,h3⟩
 . refine aS (l8 he hd hT ?_);exact dS (h s I fl)
 .
  refine aS (l8 he hd h1 ?_);refine AC Dr Ds (At.mp h3).1 ?_;have other:∀b,b≠T->(s.heap.update T (Obj.mapFields (·.setIfInBounds 3 Value.none))).get? b=s.heap.get? b:=λb hb=>fI _ _ (lS hb)
  have Uk:=rV Ds (·.setIfInBounds 3 Value.none);have T3:=mI (Obj.mapFields (·.setIfInBounds 3 Value.none)) Dr (qS Uk);refine h _ (Inv.touch I hp WQ WR ⟨oT,ts,Dr,Ds⟩ (λb o hb e=>(other b hb).trans e) ⟨_,T3⟩) ⟨⟨oe,vs,(other x (lS NK)).trans he,hc,cB,hd,iu,.inr ⟨T,_,_,h1,NK,WQ,WR,T3,Uk,?_⟩⟩,Rc,Rf⟩
  have:=(At.mp h3).1;simp[this]
theorem Inv.N9(I:L2.Inv X [] O H s)(hp:X.pn=[])(fl:pU X.s₀.heap x C H s.heap):L2.Inv X [] O (upd H x (sM C x)) s:=by
 obtain⟨⟨oe,vs,he,hc,cB,hd,iu,hT⟩,Rc,Rf⟩:=id fl;have Gx:∀b o,X.s₀.heap.get? b=some o->b≠x:=λb o e q=>by rw[q,Rc]at e;cases e
 have Uj:∀b o,s.heap.get? b=some o->(∀vs,o.data≠.fields vs)->b≠x:=λb o e d q=>by rw[q,he]at e;cases e;exact d _ hd
 have Ul:∀b u,H b=some u->b≠x:=λb u e q=>by rw[q,Rf]at e;cases e
 refine⟨I.ok,I.os,I.bare,⟨I.base.keep,I.base.slot,λb o e n hx=>?_,I.base.there,λb xs e=>?_,λb o u e=>?_,λb ps e=>?_⟩,I.loc,I.cell,?_,λy c e=>?_,λp hp2=>?_,λb u e=>?_,I.len⟩
 . rw[au (Gx b o e)];exact I.base.free b o e n hx
 . have:=I.base.tups b xs e;rw[au (Ul _ _ this)];exact this
 . have:=I.base.iz b o u e;rw[au (Ul _ _ this)];exact this
 . obtain⟨more,this⟩:=I.base.iA b ps e;exact⟨more,by rw[au (Ul _ _ this)];exact this⟩
 . obtain⟨m,⟨o,es,ep,e,d,_⟩,_⟩:=I.loc;rw[au (Uj _ _ e λvs q=>by rw[d]at q;cases q)];exact I.free
 . obtain⟨v,o,e1,d⟩:=I.cell y c e;rw[au (Uj _ _ e1 λvs q=>by rw[d]at q;cases q)];exact I.cG y c e
 . rw[hp]at hp2;cases hp2
 .
  by_cases hb:b=x
  .
   subst hb;rw[aE]at e;cases e;refine⟨⟨oe,he,hc,?_,cB⟩,⟨oe,he⟩,by rintro h1 h2 ⟨o,q,r⟩ k;exact⟨o,k o q,r⟩⟩
   unfold PySem.W.notCls;rw[hd]
  . rw[au hb]at e;exact (I.hok b u e).stay (λ_ _ _ q=>q) (λc q=>by rw[au (Ul _ _ q)];exact q) λc xs q=>by rw[au (Ul _ _ q)];exact q
abbrev Cx.marked(X:Cx)(e:Value)(E:Value->Shared->Prop):Cx:={ X with A:=X.A.mark (some e),calm:=false,xe:=E}
theorem Inv.marked(I:L2.Inv X ah O H s)(e:Value)(E:Value->Shared->Prop):L2.Inv (Cx.marked X e E) ah O H s:=
 ⟨⟨I.ok.mod,I.ok.kind,I.ok.glob,I.ok.blt,I.ok.above,I.ok.inj,I.ok.has,I.ok.K1,(λh=>nomatch h),I.ok.frames,I.ok.stk,I.ok.Q6,I.ok.bs,I.ok.yw,I.ok.p7,I.ok.r9,I.ok.iB,I.ok.DR⟩,I.os,I.bare,I.base,I.loc,I.cell,I.free,I.cG,I.pin,I.hok,I.len⟩
theorem Inv.unmarked(ok:X.Ok)(I:L2.Inv (Cx.marked X e E) ah O H s):L2.Inv X ah O H s:=
 ⟨ok,I.os,I.bare,I.base,I.loc,I.cell,I.free,I.cG,I.pin,I.hok,I.len⟩
theorem Inv.gone(I:L2.Inv X [] O H s)(hp:X.pn=[])(hN:X.N.Nodup)(hi:X.N[i]?=some n)(hlk:∀(j:Nat) (y:Str) (v:V),X.N[j]?=some y->O[j]?=some (some v)->rZ X.env.scope y->∃u,RelV v u/\Look X.env s.heap m y u)
  {h':Heap}{w:Option Value}{tk:Nat} (hn':h'.Ns X.env.locals (λy=>if y=n then w else m y)) (hs:Heap.SameBut X.env.locals s.heap h'):L2.Inv X [] (O.set i none) H { s with heap:=h',toks:=tk}:=by
 have Gx:∀b o,X.s₀.heap.get? b=some o->b≠X.env.locals:=λb o e=>fN (eJ (dL e) I.ok.above)
 refine⟨I.ok,I.os,I.bare,⟨λb o e n hb hx=>?_,λb o e n hb hx=>?_,I.base.free,λb o e hx=>?_,I.base.tups,I.base.iz,I.base.iA⟩,⟨_,hn',λj y v h1 h2 h3=>?_⟩,λy c e=>?_,I.free,I.cG,λp hp2=>?_,λb u e=>?_,by rw[wP];exact I.len⟩
 . exact (hs.2 b (Gx b o e)).trans (I.base.keep b o e n hb hx)
 . obtain⟨sl,e1⟩:=I.base.slot b o e n hb hx;exact⟨sl,(hs.2 b (Gx b o e)).trans e1⟩
 . obtain⟨o',e1⟩:=I.base.there b o e hx;exact⟨o',(hs.2 b (Gx b o e)).trans e1⟩
 .
  by_cases hj:j=i
  .
   subst hj;have hl:j<O.length:=by rw[I.len];exact (a9.mp h1).1
   rw[gN hl]at h2;cases h2
  .
   rw[eD (lS hj)]at h2;obtain⟨u,r,q⟩:=hlk j y v h1 h2 h3;refine⟨u,r,?_⟩;have hyn:y≠n:=λq=>hj (jW hN h1 (q▸hi))
   rcases q with ⟨k,e⟩ |⟨k,c,e,z⟩
   . exact .inl ⟨k,by show (if y=n then w else m y)=some u;rw[i8 hyn];exact e⟩
   . exact .inr ⟨k,c,e,z.sameBut hs (Inv.cnl I y c e)⟩
 . obtain⟨v,q⟩:=I.cell y c e;exact⟨v,q.sameBut hs (Inv.cnl I y c e)⟩
 . rw[hp]at hp2;cases hp2
 .
  refine (I.hok b u e).stay (λc w hc q=>(hs.2 c (λz=>?_)).trans q) (λ_ q=>q) λ_ _ q=>q
  subst z;rcases hc with hc |hc
  . rw[<- hc,I.free]at e;cases e
  . rw[I.free]at hc;cases hc
end
end Ev
namespace PySem
section
theorem gw{h:Heap}{g:Array GenState}{d:Drawn}{t:Nat}{os:OsState}{e:Addr}{oe:Obj}{Q:Bool->Shared->Prop}
  (hC:h.get? C=some (excClassObj nm q C N bs bm hdct sn sub ab col dd k0 k1 k2 k3 k5 newId)) (hD:h.get? D=some (excClassObj nm' q' D N' bs' bm' Um sn' sub' ab' col' dd' k0' k1' k2' k3' k5' newId'))
  (he:h.get? e=some oe) (hcls:oe.cls=.ref C) (hbase:bm'.contains (.type "BaseException")=true) (hup:(Value.ref C::bm).contains (.ref D)=true)
  (hq:Q true ⟨h,g,d,t,os⟩):wpAny M A (excMatches (.ref e) (.ref D)) Q E ⟨h,g,d,t,os⟩:=by
 have hcB:(Value.ref D::bm').contains (.type "BaseException")=true:=by rw[List.contains_cons,hbase,Bool.or_true]
 have f:=tc_notTuple
 repeat (first | (with_reducible refine wpAny_loadPart_at he ?_;rw[hcls]) |with_reducible refine wpAny_loadPart_at hD ?_ | (with_reducible refine wpAny_isSubtype_exc hD ?_;rw[hcB]) | (with_reducible refine wpAny_isSubtype_exc hC ?_;rw[hup]) |wp_step)
 exact hq
end
end PySem
namespace Ev
open L2
noncomputable def qK(K:Frag)(C D:Addr):Bool:=match K.lookup C with
 |some ⟨_,_,.cls cd,_⟩=>cd.mro.contains (.ref D)
 |_=>false
section
variable{x C D:Addr}
theorem wU(I:L2.Inv X [] O H s)(hp:X.pn=[])(cD:X.stack=X.env::X.outer)(hf:X.env.frame=some X.env.locals)(hex:X.ex=[])(fl:pU X.s₀.heap x C H s.heap)(hN:X.N.Nodup)
  (hg:Gl X ke) (hm:X.mg ke=some (.ref D)) (fY:(ke==(~~~3))=false) (qC:dz X.K C) (qD:dz X.K D) (up:qK X.K C D=true)
  (W8:X.N[ie]?=some en) (len:X.env.scope.names.lookup en=some .local) (den:(en==(~~~3))=false) (cen:(en==("__classdict__":Str))=false)
  (hir:X.N[ir]?=some er) (ler:Loc X.env.scope er) (fer:X.fn er=true\/X.env.scope.names.lookup er=some .local) (hsw:swapsWith (.Name en qL) (some (.Name er qM)) d8.line X.env=pure false)
  (h:∀s',L2.Inv X [] (((O.set ie (some (.ref x))).set ir (some (.ref x))).set ie none) (upd H x (sM C x)) s'->Q .next s') :
  wpAny (~~~2) X.A (noteFrame (.ref x) X.env) (λ_ s2=>wpAny (~~~2) X.A (setFlight (.ref x) none) (λ_ s3=>wpAny (~~~2) X.A (handleBy (.ref x) X.env [.ExceptHandler (some (.Name ke kp)) (some en) [.Assign [.Name er qM] (.Name en qL) d8] lO]) Q E s3) E s2) E s:=by
 refine wI I hp cD hf hex fl λs2 I2 fl2=>?_
 refine wpAny_handleBy_cons (codeAny_handlers_test ?_) (by intro q;cases q)
 refine eF (X:=Cx.marked X (.ref x) E) (Inv.marked I2 _ _) hg hm ?_ fY;obtain⟨bm,N,nm,qn,bs,hdct,sn,sub,ab,col,dd,k0,k1,k2,k3,k5,mN,hC,_,_,TC⟩:=oO I2.jL qC;obtain⟨bm',N',nm',Rj,bs',Um,sn',sub',ab',col',dd',k0',k1',k2',k3',k5',mN',hD,_,_,TD⟩:=oO I2.jL qD;obtain⟨⟨oe,vs,he,hc,_⟩,_⟩:=id fl2;have hup:(Value.ref C::bm).contains (.ref D)=true:=by
  unfold qK at up;split at up
  . rename_i cd _ ho;have:=(I2.jL _ _ ho).symm.trans hC;cases this;exact up
  . cases up
 obtain⟨hh,gg,dr,tt,oo⟩:=s2;refine gw hC hD he hc (TD.hasType ⋯) hup ?_;refine codeAny_handlers_suite_as ?_;refine qJ I2 hp fl2 λs3 I3 fl3=>?_
 have I4:=Inv.N9 I3 hp fl3;refine jX I4 hN W8 (.inl len) (v:=.ref x) rfl (λs5 I5=>?_) (.inr len)
 have hl:ie<O.length:=by rw[I.len];exact (a9.mp W8).1
 refine hZ (((DW (jY (X:=Cx.marked X (.ref x) (λ_ _=>False)) hN hir ler (jd W8 (.inl len) den cen) hsw fer)) [] s5 _ _ { nx:=λσ' H'=>σ'=(O.set ie (some (.ref x))).set ir (some (.ref x))/\H'=upd H x (sM C x),rt:=λ_ _=>False} (Inv.marked I5 _ _) ⟨.ref x,gN hl,rfl,rfl⟩)) (λf s6 q=>?_) λ_ _ z=>False.elim z
 cases f with
 |next=>
  obtain⟨σ',H',I6,rfl,rfl⟩:=q;have I7:=Inv.unmarked I.ok I6;obtain⟨m,hn,hlk⟩:=id I7.loc;refine wpAny_nameGoes_keeps len hn (by rw[I.ok.kind];rfl) λh' w hn' hs=>?_
  exact h _ (Inv.gone I7 hp hN W8 hlk hn' hs)
 |ret v=>obtain⟨_,_,_,_,_,q⟩:=q;exact q.elim
 |brk=>obtain⟨_,_,_,q⟩:=q;exact q.elim
 |cont=>obtain⟨_,_,_,q⟩:=q;exact q.elim
end
noncomputable abbrev zN(z:Z)(M:List Addr)(H:Hp):Z:=⟨z.K,H,M,[],z.T⟩
def noOwn:Slot->Slot
 |.own _=>.no
 |s=>s
section
variable{g g':G}
theorem Slots.noOwn{K:Frag}(q:Slots K M H g O Y):Slots K M H (g.map Ev.noOwn) O []:=by
 induction q with
 |nil=>exact .nil
 |no _ ih=>exact .no ih
 |dat r _ ih=>exact .dat r ih
 |own _ _ _ ih=>exact .no ih
theorem Slots.YX{K:Frag}(O:Sg):Slots K M H (List.replicate O.length .no) O []:=by
 induction O with
 |nil=>exact .nil
 |cons v O ih=>exact .no ih
theorem wV{i:Nat}{l:List D}(h:(g.map Ev.noOwn)[i]?=some (.own l)):False:=by
 rw[nE]at h;cases e:g[i]? with
 |none=>rw[e]at h;symm
 |some u=>rw[e]at h;cases u <;> symm
theorem S.into(s:S z g O Y M H)(sl:Slots z.K M H gn σn [])(hn:∀(i:Nat) (l:List D),gn[i]?≠some (.own l)):S (zN z M H) gn σn [] M H where
 sl:=sl
 nd:=yA
 sub:=λa h=>nomatch h
 own:=λi a l e _=>absurd e (hn i l)
 live:=s.live
 keep:=λb o e _ _=>e
 gK:=λ_ h=>h
 m0:=λm hm=>by
  rcases s.live m hm with ⟨o,e,_⟩ |e
  . intro q;rw[show H m=none from q]at e;cases e
  . obtain⟨q,hq,rfl⟩:=gL.mp e;obtain⟨ps,h1,_⟩:=s.tab q hq;intro z;rw[show H q.1=none from z]at h1;cases h1
 bm:=λb h=>nomatch h
 jg:=λp h=>nomatch h
 tab:=s.tab
 tm:=λp h=>s.gK _ (s.tm p h)
 tt:=s.tt
theorem S.after(s:S z g O Y M H)(hA:Y=[])(s1:S (zN z M H) g' σ0 aL M1 H1)(st:ao M H M1 H1):S z g O Y M1 H1 where
 sl:=s.sl.stay st (λa h=>by rw[hA]at h;symm)
 nd:=s.nd
 sub:=λa h=>by rw[hA]at h;symm
 own:=s.own
 live:=s1.live
 keep:=λb o e hb ht=>s1.keep b o (s.keep b o e hb ht) (λh=>nomatch h) ht
 gK:=λm hm=>s1.gK m (s.gK m hm)
 m0:=s.m0
 bm:=s.bm
 jg:=s.jg
 tab:=s1.tab
 tm:=s.tm
 tt:=s.tt
theorem Slots.uR{K:Frag}{i:Nat}{v:Option V}(q:Slots K M H g O Y)(e:g[i]?=some .no):Slots K M H g (O.set i v) Y:=by
 induction q generalizing i with
 |nil=>exact .nil
 |no q ih=>cases i with
  |zero=>exact .no q
  |succ i=>exact .no (ih e)
 |dat r q ih=>cases i with
  |zero=>cases e
  |succ i=>exact .dat r (ih e)
 |own a b q ih=>cases i with
  |zero=>cases e
  |succ i=>exact .own a b (ih e)
theorem S.uR(s:S z g O Y M H)(e:g[i]?=some .no):S z g (O.set i v) Y M H where
 sl:=s.sl.uR e
 nd:=s.nd
 sub:=s.sub
 own:=λj a l e1 e2=>s.own j a l e1 (by
  rw[eD (λq=>by rw[<- q,e]at e1;cases e1)]at e2;exact e2)
 live:=s.live
 keep:=s.keep
 gK:=s.gK
 m0:=s.m0
 bm:=s.bm
 jg:=λp hp=>by
  obtain⟨h1,l,h2⟩:=s.jg p hp;exact⟨by rw[eD (λq=>by rw[<- q,e]at h2;cases h2)];exact h1,l,h2⟩
 tab:=s.tab
 tm:=s.tm
 tt:=s.tt
end
theorem Gy(I:L2.Inv X ah O H s)(B:bR X.env.scope scope)(nl:∀y∈scope.names,y.2≠.local)
  (Dw:∀x c,cl.lookup x=some c->X.env.cells.lookup x=some c/\(x,NameKind.free)∈scope.names) (N8:∀y∈scope.names,y.2=.free->∃c,cl.lookup y.1=some c):oW X.N O scope cl H s.heap where
 inj:=λx y c h1 h2=>I.ok.inj x y c (Dw x c h1).1 (Dw y c h2).1
 has:=λx h=>by
  rcases h with h |h
  . exact absurd rfl (B.oB _ (L2.mem_of_lookup h))
  . exact N8 _ (L2.mem_of_lookup h) rfl
 cell:=λx c h=>⟨I.cG x c (Dw x c h).1,I.cell x c (Dw x c h).1⟩
 loc:=λi x v h1 h2 h3=>by
  have hf:scope.names.lookup x=some .free:=by
   rcases h3 with h3 |h3 |h3
   . exact absurd rfl (nl _ (L2.mem_of_lookup h3))
   . exact absurd rfl (B.oB _ (L2.mem_of_lookup h3))
   . exact h3
  have hv:=B.free _ (L2.mem_of_lookup hf) rfl;obtain⟨m,_,hlk⟩:=I.loc;obtain⟨u,r,q⟩:=hlk i x v h1 h2 (.inr hv);obtain⟨c2,e2⟩:=N8 _ (L2.mem_of_lookup hf) rfl;rcases q with ⟨k,_⟩ |⟨_,c,e,z⟩
  . have k:X.env.scope.names.lookup x=some .local:=k;rcases hv with hv |hv <;> (have hv:=hv;rw[k]at hv;cases hv)
  . have:=(Dw _ _ e2).1;rw[e]at this;cases this;exact⟨hf,u,c2,r,e2,z⟩
 len:=I.len
theorem oW.un(c:oW N O scope cl H h)(u:Un fs [] H H' h h'):oW N O scope cl H' h':=by
 have key:∀x a v,cl.lookup x=some a->h.IsCell a v->h'.IsCell a v:=by rintro x a v e ⟨o,e1,d⟩;obtain⟨sl,e2⟩:=u.any e1 (c.cell x a e).1 ⋯;exact⟨_,e2,d⟩
 refine⟨c.inj,c.has,λx a e=>?_,λi x v h1 h2 h3=>?_,c.len⟩
 . obtain⟨hn,v,o,e1,d⟩:=c.cell x a e;exact⟨u.free a o e1 hn ⋯,v,key x a v e ⟨o,e1,d⟩⟩
 . obtain⟨f,w,a,r,e,z⟩:=c.loc i x v h1 h2 h3;exact⟨f,w,a,r,e,key x a _ e z⟩
section
variable{C D p c':Addr}
 {N:List Str}{qn:Str}{scope:Scope}{cl:List (Str×Addr)}{body:Expr}{params:Arguments}{pm g8:Value}{g0 Dy:G}
noncomputable abbrev zZ (y ke en er:Str) (py cC lN kp qM qL d8 lO jw:Pos):Stmt:=.Try [.Expr (.Call (.Name y py) [] [] cC) lN] [.ExceptHandler (some (.Name ke kp)) (some en) [.Assign [.Name er qM] (.Name en qL) d8] lO] [] [] jw
structure Kr(X:Cx)(C D:Addr)(y ke en er:Str)(iy ie ir:Nat):Prop where
 pn:X.pn=[]
 st:X.stack=X.env::X.outer
 fr:X.env.frame=some X.env.locals
 ex:X.ex=[]
 calm:X.calm=true
 nd:X.N.Nodup
 gk:Gl X ke
 mg:X.mg ke=some (.ref D)
 dk:(ke==(~~~3))=false
 qC:dz X.K C
 qD:dz X.K D
 up:qK X.K C D=true
 kC:Dq X.K C
 ie:X.N[ie]?=some en
 le:X.env.scope.names.lookup en=some .local
 de:(en==(~~~3))=false
 ce:(en==("__classdict__":Str))=false
 ir:X.N[ir]?=some er
 lr:Loc X.env.scope er
 fn:X.fn er=true\/X.env.scope.names.lookup er=some .local
 iy:X.N[iy]?=some y
 vy:rZ X.env.scope y
 dy:(y==(~~~3))=false
 cy:(y==("__classdict__":Str))=false
 room:X.A.depth<recursionLimit
structure kO(params:Arguments)(scope:Scope):Prop where
 co:scope.isCoroutine=false
 gen:scope.isGenerator=false
 kind:scope.kind=.function
 nc:∀x∈scope.names,x.2≠.cell
 nl:∀x∈scope.names,x.2≠.local
 par:params=⟨[],[],none,[],[],none,[]⟩
theorem kO.bind(h:kO params scope):bindArgs (PySem.W.kla_fn "<lambda>" qn params body scope cl pm (.ref c') g8) ⟨[],[]⟩=pure []:=by rw[h.par];rfl
theorem Oa{ah: ~~~1}{i:Nat}{x:Str}{v:V}{pos:Pos}{E:Value->Shared->Prop}{Q:Value->Shared->Prop}(I:L2.Inv X ah O H s)(hN:X.N[i]?=some x)(hv:rZ X.env.scope x)(hd:(x==(~~~3))=false)(cB:(x==("__classdict__":Str))=false)(e:O[i]?=some (some v))(h:∀u,RelV v u->Q u s) :
  wpAny (~~~2) X.A (eval (.Name x pos) X.env) Q E s:=by
 obtain⟨m,hn,hl⟩:=I.loc;obtain⟨u,r,l⟩:=hl i x v hN e hv;have fin:=h u r;rcases l with ⟨hk,hm⟩ |⟨hk,c,hc,hcell⟩
 . exact B4 (wpAny_loadName_local I.ok.kind hk hn hm fin) hd
 .
  rcases hk with hk |hk
  . exact B4 (wpAny_loadName_cell I.ok.kind hk hc hcell fin) hd
  . exact B4 (wpAny_loadName_free I.ok.kind hk hc hcell fin cB) hd
theorem Gz(T:Kr X C D y ke en er iy ie ir)(L:kO params scope)(I:L2.Inv X [] O H s)(hS:S zf gf O [] M H)(hK:zf.K=X.K)(hsw:swapsWith (.Name en qL) (some (.Name er qM)) d8.line X.env=pure false)(hsx:swapsWith (.Call (.Name y py) [] [] cC) none lN.line X.env=pure false)
  (hy:O[iy]?=some (some (.ref p))) (uq:gf[ie]?=some .no) (hbr:ir∉zf.bor) (hnr:ie≠ir)
  (hp:H p=some (jm p (PySem.W.kla_obj "<lambda>" qn params body scope cl pm c' g8))) (hc':H c'=some (fy qn c')) (Cl:oW N σ0 scope cl H s.heap) (hs0:Slots zf.K M H g0 σ0 []) (hn0:∀(i:Nat) (l:List Ev.D),g0[i]?≠some (.own l))
  (hb:∀xe,PassesOwn (~~~2) (X.A.deeper (PySem.W.envX qn scope s⁻¹ p (.ref c') cl)) (PySem.W.envX qn scope s⁻¹ p (.ref c') cl) xe->jP (qI X N qn scope p (.ref c') cl s H xe) (zN zf M H) body g0 C Dy)
  (h:∀s' σ' H' M' aA,L2.Inv X [] σ' H' s'->S zf (gf.set ir (.dat (.jE C))) σ' aA M' H'->ao M H M' H'->Q .next s') :
  wpAny (~~~2) X.A (exec (zZ y ke en er py cC lN kp qM qL d8 lO jw) X.env) Q X.xe s:=by
 refine wpAny_Try_except (AD (hZ (wpAny_Expr_any ?_ I.quiet hsx) (λ_ _ z=>False.elim z) λ_ _ z=>z))
 have hpo:=(I.hok p _ hp).1;have Uh:=(I.hok c' _ hc').1;refine oC (Oa I T.iy T.vy T.dy T.cy hy λu r=>?_)
 cases r;refine PySem.W.callWith_F0 ⟨_,_,_,_,hpo⟩ (BH (y0 (zY (R:=λr s'=>∃x H1 aL M1,r=.error (.ref x)/\yg X.prog X.w X.stack H s (λc o h=>c=.ref C/\o=none/\h=H1) (.ref x) s'/\S (zN zf M H) Dy σ0 aL M1 H1/\ao M H M1 H1) I T.calm T.room hpo Uh L.bind L.co L.gen L.kind L.nc Cl (S.into hS hs0 hn0) hb
  λx H1 aL M1 s'' cx S1 st=>⟨x,H1,aL,M1,rfl,cx,S1,st⟩) ?_))
 rintro r s1 ⟨x,H1,aL,M1,e,cx,S1,st⟩;subst e;obtain⟨x',C',H',e,I1,fl,e1,_,e3⟩:=zE T.ex I cx;cases e;cases e1;subst e3;refine wU I1 T.pn T.st T.fr T.ex fl T.nd T.gk T.mg T.dk T.qC T.qD T.up T.ie T.le T.de T.ce T.ir T.lr T.fn hsw λs' I'=>?_
 have s2:=S.after hS rfl S1 st;have s3:=s2.laid (o:=sM C x) fl.no;have s4:S zf gf (O.set ie (some (.ref x))) [] M1 (upd H' x (sM C x)):=s3.uR uq;obtain⟨Nv,s5⟩:=s4.gP (d:=.jE C) (v:=.ref x) hbr (hK▸.jE T.kC (s2.fresh fl.no) aE);have s6:S zf (gf.set ir (.dat (.jE C))) (((O.set ie (some (.ref x))).set ir (some (.ref x))).set ie none) Nv M1 (upd H' x (sM C x)):=s5.uR (by rw[eD (lS hnr)];exact uq)
 exact h s' _ _ M1 Nv I' s6 (st.trans (ao.laid fl.no))
end
end Ev
namespace L2
theorem Uo{CX:vU}{P:Program}{w:World}{K:Frag}{mg:Str->Option Value}{base:Heap}{k:Nat}{f:Addr}{name qual:Str}{params:Arguments}{body:List Stmt}{scope:Scope}{dV kV doc pm bh ct oc:Value}{an od:Option Addr}
  {osl:Array (Option Value)}{N ps:List Str}{A:Around}{outer:List Env}{s:Shared}{H:Hp}{args:Args}{us:List Value}{vs:List V}{Q:VK}{E:XK} (lk:K.lookup f=some ⟨oc,od,.func (PySem.W.fnOf name qual params body scope dV kV doc pm an bh ct),osl⟩) (cB:PySem.W.codeIn K bh qual=true) (S:bE N ps scope)
  (hr:bK (k+1) A) (e0:yM P w K mg base A outer s H) (hb:BindsTo s (PySem.W.fnOf name qual params body scope dV kV doc pm an bh ct) args (ps.zip us)) (r:Vals vs us) (hl:vs.length=ps.length)
  (hbody:∀s1,Inv (eH CX P w K mg base N qual scope f bh A outer s H E) [] (start N vs) H s1->wpAny (model P w) (A.deeper (envOfC qual scope s⁻¹ f bh)) (execs body (envOfC qual scope s⁻¹ f bh)) (SP (eH CX P w K mg base N qual scope f bh A outer s H E) [] { nx:=λ_ H'=>Q .non H',rt:=Q}) (eH CX P w K mg base N qual scope f bh A outer s H E).xe s1) :
  codeAny (model P w) A (.call (.ref f) args) (CR CX outer P w H s Q E) s:=by
 have KX:=e0.mod.yu.keeps λb o e=>(e0.bs b o e).1
 have lim:=e0.mod.nolimit.keeps λb o e=>(e0.bs b o e).1
 have hkind:∀y∈ps.zip us,scope.names.lookup y.1=some .local\/(scope.names.lookup y.1=some .cell/\((cellsFrom (s⁻¹+1) scope.names []).lookup y.1).isSome=true):=by
  rintro⟨n,v⟩ hy;rcases S.par n (BM hy).1 with q |q
  . exact .inl q
  . exact .inr ⟨q,AM _ _ _ (.inl q)⟩
 refine codeAny_call_function hr.depth (KX _ _ lk) rfl S.co S.gen rfl (PySem.W.codeRec_of KX cB) (hb _ _ _ _ ?_);refine wpAny_newFunctionEnv_cells S.kind hkind λenv he s1 x=>?_
 subst he;refine⟨lim.keeps x.toInCall.keep,codeAny_func ?_⟩;have I:Inv (eH CX P w K mg base N qual scope f bh A outer s H E) [] (start N vs) H s1:=mV S hr.hd e0 hl r x;refine hZ (hbody s1 I) (λfl s' hs=>?_) λe s' hs=>hs
 have fin:∀{σ':St}{H':Hp}{v:V}{u:Value},Inv (eH CX P w K mg base N qual scope f bh A outer s H E) [] σ' H' s'->RelV v u->Q v H'->CE outer P w H s Q u s':=
  λ{σ' H' v u} J rv q=>⟨v,H',J.os,J.bare,J.base,J.hok,rv,q⟩
 cases fl with
 |ret u=>obtain⟨v,σ',H',J,rv,q⟩:=hs;exact fin J rv q
 |next=>obtain⟨σ',H',J,q⟩:=hs;exact fin (v:=V.non) J rfl q
 |brk=>obtain⟨_,_,_,q⟩:=hs;exact False.elim q
 |cont=>obtain⟨_,_,_,q⟩:=hs;exact False.elim q
end L2
namespace Ev
open L2
structure Ob(K:Frag)(mg:Str->Option Value)(sc:Scope)(N:List Str)(C D:Addr)(y ke en er:Str)(ie ir:Nat):Prop where
 nd:N.Nodup
 gk:sc.names.lookup ke=some .globalImplicit
 mg:mg ke=some (.ref D)
 dk:(ke==(~~~3))=false
 qC:dz K C
 qD:dz K D
 up:qK K C D=true
 kC:Dq K C
 eN:N[ie]?=some en
 le:sc.names.lookup en=some .local
 de:(en==(~~~3))=false
 ce:(en==("__classdict__":Str))=false
 rN:N[ir]?=some er
 lr:Loc sc er
 yN:N[0]?=some y
 vy:rZ sc y
 dy:(y==(~~~3))=false
 cy:(y==("__classdict__":Str))=false
 ne:ie≠ir
 ie0:ie≠0
 ir0:ir≠0
theorem Ob.try{P:Program}{w:World}{K:Frag}{mg:Str->Option Value}{base:Heap}{N:List Str}{qual:Str}{sc:Scope}{f:Addr}{cd:Value}{A:Around}{outer:List Env}{s:Shared}{H:Hp}{E:XK}{C D:Addr}{y ke en er:Str}{ie ir k:Nat}
  (T:Ob K mg sc N C D y ke en er ie ir) (hr:bK k (A.deeper (envOfC qual sc s⁻¹ f cd))):Kr (eH sH P w K mg base N qual sc f cd A outer s H E) C D y ke en er 0 ie ir:=
 ⟨rfl,rfl,rfl,rfl,rfl,T.nd,T.gk,T.mg,T.dk,T.qC,T.qD,T.up,T.kC,T.eN,T.le,T.de,T.ce,T.rN,T.lr,.inl rfl,T.yN,T.vy,T.dy,T.cy,by have:=hr.dp;show (A.deeper (envOfC qual sc s⁻¹ f cd)).depth<_;lia⟩
structure Oc(X:Cx)(qn:Str)(q c:Addr):Prop where
 hq:(q,qn)∈bS X.K
 hu:∀p∈bS X.K,p.1=q->p.2=qn
 hcode:X.env.code=.ref c
 hC:∀b:Heap,X.K.In b->PySem.W.CodeHd b c q
 hqn:X.env.qual ++ "<lambda>"=qn
 hbi:∀b:Heap,X.K.In b->b.BuiltinsAt X.mg q
 Ug:mainGlobals≠q
structure Lt where
 params:Arguments
 body:Expr
 scope:Scope
 pos:Pos
noncomputable abbrev Lt.ex(l:Lt):Expr:=.Lambda l.params l.body l.scope l.pos
def Ks(X:Cx)(qn:Str)(M:List Addr)(H:Hp)(l:Lt)(v:V):Prop:=∃p c' g8 cl,v=.ref p/\p∉M/\c'∉M/\H p=some (jm p (PySem.W.kla_obj "<lambda>" qn l.params l.body l.scope cl ((X.mg "__name__").getD .none) c' g8))/\H c'=some (fy qn c')/\
 (∀x c,cl.lookup x=some c->X.env.cells.lookup x=some c/\(x,NameKind.free)∈l.scope.names)/\∀y∈l.scope.names,y.2=.free->∃c,cl.lookup y.1=some c
section
theorem S.ext(s:S z g O Y M H)(h:H a=some (.ext f)):a∉M:=λhm=>by
 rcases s.live a hm with ⟨o,e,gr⟩ |e
 . rw[h]at e;cases e;exact gr
 . obtain⟨q,hq,rfl⟩:=gL.mp e;obtain⟨ps,h1,_⟩:=s.tab q hq;rw[h]at h1;cases h1
noncomputable def YZ(X:Cx)(z:Z)(g:G)(qn:Str)(l:Lt):TE:=λO H Q=>∃Y M,S z g O Y M H/\∀v H',S z g O Y M H'->ao M H M H'->Ks X qn M H' l v->(∀b xs,H b=some (.lst xs)->H' b=some (.lst xs))->Q v H'
theorem Od(hK:z.K=X.K)(mk:Oc X qn q c)(B:bR X.env.scope l.scope)(L:kO l.params l.scope):PE X l.ex (YZ X z g qn l):=by rintro ah s O H Q I ⟨Y,M,hs,hQ⟩;exact zX I hs (by rw[hs.tt,hK];exact mk.hq) (by rw[hs.tt,hK];exact mk.hu) mk.hcode (mk.hC _ I.ok.mod.yu) mk.hqn (mk.hbi _ I.ok.mod.yu) mk.Ug (by rw[L.par];rfl) B λp c' g8 cl H' s' I' S' st' np h1 h2 c1 c2 kl=>⟨.ref p,H',I',rfl,hQ _ H' S' st' ⟨p,c',g8,cl,rfl,np,S'.ext h2,h1,h2,c1,c2⟩ kl⟩
end
section
variable{st:Stmt}{rest:List Stmt}{f C D p c':Addr}
theorem Oe(hK:z.K=X.K)(hr:bK (k+2) X.A)(hcalm:X.calm=true)(Ff:Eo X.K fx qual st f fd)(cD:aU st=.Assign [.Name er wW] (.Constant .none j np) Rk::zZ y ke en er py cpos0 lN kp qM qL d8 lO jw::rest)(Sc:bE Nf [y] (aD st))
  (hbd:L2.Binds X.K fd [y] []) (T:Ob X.K X.mg (aD st) Nf C D y ke en er ie ir) (L:kO params scope)
  (hbE:∀(Xf:Cx) (s:Shared) (H:Hp) (xe:Value->Shared->Prop) (zl:Z),Xf.prog=X.prog->Xf.w=X.w->Xf.K=X.K->Xf.mg=X.mg->Xf.base=X.base->bK (k+1) Xf.A->Xf.calm=true->PassesOwn (model Xf.prog Xf.w) (Xf.A.deeper (PySem.W.envX qn scope s⁻¹ p (.ref c') cl)) (PySem.W.envX qn scope s⁻¹ p (.ref c') cl) xe->zl.K=X.K->zl.bor=[]->jP (qI Xf N qn scope p (.ref c') cl s H xe) zl body g0 C Dy)
  (hrest:∀(bh:Value) (A:Around) (outer:List Env) (s:Shared) (H:Hp) (E:XK),PySem.W.codeIn X.K bh qual=true->bK k (A.deeper (envOfC qual (aD st) s⁻¹ f bh))->∀zf:Z,zf.K=X.K->zf.bor=[]->bZ (eH sH X.prog X.w X.K X.mg X.base Nf qual (aD st) f bh A outer s H E).jM zf rest ((List.replicate Nf.length .no).set ir (.dat (.jE C))) (.rt r) g3)
  (ho:cu [] g3 r=some r') (I1:L2.Inv X ah O H s) (S1:S z g O Y M H) (hp1:H p=some (jm p (PySem.W.kla_obj "<lambda>" qn params body scope cl pm c' g8))) (hc1:H c'=some (fy qn c')) (Y0:oW N σ0 scope cl H s.heap) (hs0:Slots z.K M H g0 σ0 []) (hn0:∀(i:Nat) (l:List Ev.D),g0[i]?≠some (.own l))
  {us:List Value} (rv:Vals [.ref p] us) {E:Value->Shared->Prop}{Q:Value->Shared->Prop} (hQ:∀u v H' s' aA M',L2.Inv X ah O H' s'->RelV v u->S z g O aA M' H'->ao M H M' H'->cH z g O aA M' H' r' v->Q u s'):wpAny (~~~2) X.A (call (.ref f) us) Q E s:=by
 obtain⟨oc,od,kV,doc,pm,an,bh,ct,osl,rfl,lk,cB⟩:=Ff.ex;have aQ:us.length=1:=by rw[<- rv.length];rfl
 refine BH (y0 (Uo (CX:=sH) (Q:=λv H'=>∃aA M',S z g O aA M' H'/\ao M H M' H'/\cH z g O aA M' H' r' v) (E:=λ_ _ _=>False) lk cB Sc hr I1.Eg (by have:=hbd s us I1.jL (by rw[nK];exact aQ);rw[nK]at this;exact this) rv rfl λs2 J=>?_) λrr s' hq'=>?_)
 ·
  rw[cD];have hr1:bK (k+1) (X.A.deeper (envOfC qual (aD st) s⁻¹ f bh)):=hr.deeper _;have hr2:=hr1.mono (AE k);have TT:=T.try (P:=X.prog) (w:=X.w) (base:=X.base) (outer:=X.stack) (H:=H) (E:=λ_ _ _=>False) hr2
  refine AD (hZ ((jY T.nd T.rN T.lr yx rfl (.inl rfl)) [] s2 _ _ { nx:=λσ' H'=>σ'=(start Nf [.ref p]).set ir (some .non)/\H'=H,rt:=λ_ _=>False} (J.wish _) ⟨rfl,rfl⟩) (λfl s3 q3=>?_) λ_ _ z=>False.elim z)
  cases fl with
  |ret u=>obtain⟨_,_,_,_,_,q⟩:=q3;exact q.elim
  |brk=>obtain⟨_,_,_,q⟩:=q3;exact q.elim
  |cont=>obtain⟨_,_,_,q⟩:=q3;exact q.elim
  |next=>
   obtain⟨σ3,H3,I3,e1,e2⟩:=q3;subst e1 e2;have I3:=I3.bI;have len0:(start Nf [.ref p]).length=Nf.length:=by have:=J.len;exact this
   have Y3:Slots z.K M H3 (List.replicate Nf.length .no) (start Nf [.ref p]) []:=by rw[<- len0];exact Slots.YX _
   have Up:∀(i:Nat) (l:List Ev.D),(List.replicate Nf.length Slot.no)[i]?≠some (.own l):=λi l e=>by
    have:=fA e;rw[t9]at this;cases this.2
   have S3:=S.into S1 Y3 Up;obtain⟨jk,S4⟩:=S3.gP (λh=>nomatch h) .non
   have hA4:jk=[]:=by
    have key:∀{g:G}{O:Sg}{Y:List Addr},Slots z.K M H3 g O Y->(∀(i:Nat) (l:List Ev.D),g[i]?≠some (.own l))->Y=[]:=λq=>by
     induction q with
     |nil=>intro _;rfl
     |no _ ih=>intro h;exact ih λi l e=>h (i+1) l e
     |dat _ _ ih=>intro h;exact ih λi l e=>h (i+1) l e
     |own _ _ _ ih=>intro h;exact absurd rfl (h 0 _)
    refine key S4.sl λi l e=>?_
    by_cases hi:i=ir
    .
     subst hi;rw[gN (by rw[i7];exact (a9.mp T.rN).1)]at e
     cases e
    . rw[eD (lS hi)]at e;exact Up i l e
   subst hA4;have hy:((start Nf [.ref p]).set ir (some .non))[0]?=some (some (.ref p)):=by rw[eD T.ir0];rfl
   have uq:((List.replicate Nf.length Slot.no).set ir (.dat .non))[ie]?=some .no:=by rw[eD (lS T.ne),List.getElem?_replicate,lL (a9.mp T.eN).1]
   have un3:=I3.base;have Rl:=hK;refine AD (Gz (σ0:=σ0) TT L I3 S4 Rl rfl rfl hy uq (λh=>nomatch h) T.ne hp1 hc1 (Y0.un un3) hs0 hn0
    (λxe hx=>hbE _ s3 H3 xe _ rfl rfl rfl rfl rfl hr1 rfl hx hK rfl) λs4 σ4 H4 M4 jk I4 S5 vP=>?_)
   obtain⟨t,pt,kt⟩:=hrest bh X.A X.stack s H3 (λ_ _ _=>False) cB hr2 (zN z M H3) hK rfl
   rw[List.set_set]at S5;refine pt.jM [] s4 σ4 H4 _ I4 (kt σ4 jk M4 H4 _ S5 λv σ5 Nv M5 H5 S6 Ys R6=>?_)
   obtain⟨M6,S7,Yt,R7⟩:=S1.leave .nil rfl yA S6 (vP.trans Ys) R6 rfl ho;exact⟨_,M6,S7,Yt,R7⟩
 .
  cases rr with
  |error ev=>exact False.elim hq'
  |ok Yz=>
   cases Yz with
   |ret u=>obtain⟨v,H',I',r1,aA,M',a,b,d⟩:=I1.after hq';exact hQ u v H' s' aA M' I' r1 a b d
   |next=>exact False.elim hq'
   |brk=>exact False.elim hq'
   |cont=>exact False.elim hq'
end
def z5(qqz X:Cx)(z:Z)(g:G)(qn:Str)(l:Lt)(r':R)(f:Addr):Prop:=
 ∀{ah: ~~~1}{σ1 σ0:Sg}{H1:Hp}{s1:Shared}{g1:G}{Y A0 M:List Addr}{p c':Addr}{cl:List (Str×Addr)}{pm g8:Value}{us:List Value}{Q E:Value->Shared->Prop},L2.Inv qqz ah σ1 H1 s1->S z g1 σ1 Y M H1->H1 p=some (jm p (PySem.W.kla_obj "<lambda>" qn l.params l.body l.scope cl pm c' g8))->H1 c'=some (fy qn c')->
  oW X.N σ0 l.scope cl H1 s1.heap->Slots z.K M H1 g σ0 A0->Vals [.ref p] us->(∀u v H' s' aA M',L2.Inv qqz ah σ1 H' s'->RelV v u->S z g1 σ1 aA M' H'->ao M H1 M' H'->cH z g1 σ1 aA M' H' r' v->Q u s')->wpAny (model qqz.prog qqz.w) qqz.A (call (.ref f) us) Q E s1
section
variable{st:Stmt}
theorem GC(hK:z.K=X.K)(Ff:Eo X.K fx qual st f fd)(hg:Gl X fx)(hm:X.mg fx=some (.ref f))(fY:(fx==(~~~3))=false)(mk:Oc X qn q c)(B:bR X.env.scope l.scope)(L:kO l.params l.scope)(hcall:z5 X X z g qn l r' f):az X z (.Call (.Name fx fp) [l.ex] [] cC) g r' g:=by
 refine⟨λO H Q=>∃Y M,S z g O Y M H/\∀v H' aA M',S z g O aA M' H'->ao M H M' H'->cH z g O aA M' H' r' v->Q v H',?_,λO Y M H Q s kq=>⟨Y,M,s,λv H' aA M'=>kq v H' aA M'⟩⟩
 rintro ah s O H Q I ⟨Y,M,hs,hQ⟩;refine oC (eF I hg hm ?_ fY);refine AH I.ok.mod.yu Ff.kp (hZ ((bQ (Od hK mk B L) jf rfl) cC ah s O H (λvs H'=>∃v,vs=[v]/\S z g O Y M H'/\ao M H M H'/\Ks X qn M H' l v) I ⟨Y,M,hs,λv H' a b d _=>⟨v,rfl,a,b,d⟩⟩) (λus s1 q1=>?_) λ_ _ z=>z) rfl rfl
 obtain⟨vs,H1,I1,rv,_,rfl,S1,cR,p,c',g8,cl,rfl,np1,nc1,hp1,hc1,Dw,N8⟩:=q1;exact⟨I1.jL,hcall I1 S1 hp1 hc1 (Gy I1 B L.nl Dw N8) S1.sl rv λu v H' s' aA M' I' r1 a b d=>⟨v,H',I',r1,hQ v H' aA M' a (cR.trans b) d⟩⟩
end
section
theorem z6(hw:∀u,RelV w u->u=cv):dg X (.builtin "isinstance") (λxs H Q=>∃x M d b,xs=[x,w]/\Pk X.K M H d x/\PySem.W.kitOne X.K (x9 d) cv=some b/\Q (.bl b) H):=by intro ah s O H xs us Q I r h;obtain⟨x,M,d,b,rfl,p,e,q⟩:=h;obtain⟨u,w',rfl,r1,r2⟩:=vals2 r;obtain rfl:=hw _ r2;exact zh I p r1 e λtk=>⟨.bl b,H,I.tok tk,rfl,q⟩
theorem z7(hK:z.K=X.K)(h:az X z a g r1 g1)(hp:pk r1 g1=some d)(he:∀M H v,Pk X.K M H d v->PySem.W.kitOne X.K (x9 d) cv=some b)
  (hg:Gl X "isinstance") (hm:X.mg "isinstance"=none) (hv:bootBuiltins "isinstance"=some (.builtin "isinstance")) (hw:∀u,RelV w u->u=cv) (Yn:PE X (.Name T pT) (tC w))
  (hs:starEach [a,.Name T pT] X.env=(false,eval a X.env)::starEach [.Name T pT] X.env):az X z (.Call (.Name "isinstance" p) [a,.Name T pT] [] pos) g (.dat (.bl b)) g1:=by
 obtain⟨t,q,k⟩:=h;refine⟨_,fE (z6 hw) hg hm hv (bQ q (bQ Yn jf) hs) ⋯ ⋯ hs,λO Y M H Q s kk=>k O Y M H _ s λv H' aA M' s' st R=>?_⟩
 have p:=hK▸s'.pk (ao.refl _ _) R hp;exact⟨v,M',d,b,rfl,p,he _ _ _ p,kk _ H' aA M' s' st (.bl b)⟩
end
open L2 PySem.W
noncomputable def g9:Slot->Slot
 |.own l=>.dat (.lst l)
 |s=>s
noncomputable def flat:D->Bool
 |.non=>true
 |.bl _=>true
 |.int _=>true
 |.str _=>true
 |_=>false
theorem Rep.flat{K:Frag}{M M':List Addr}{H H':Hp}{d:D}{v:V}(r:Rep K M H d v)(h:Ev.flat d=true):Rep K M' H' d v:=by
 cases r with
 |non=>exact .non
 |bl b=>exact .bl b
 |int i=>exact .int i
 |str x=>exact .str x
 |_=>symm
section
variable{g g':G}
theorem Slots.Y4{K:Frag}(q:Slots K M H g O Y){a:Addr}(h:a∈Y):∃(i:Nat) (l:List D) (xs:List V),g[i]?=some (Slot.own l)/\O[i]?=some (some (V.ref a))/\H a=some (.lst xs):=by
 induction q with
 |nil=>symm
 |no _ ih=>obtain⟨i,l,xs,h1,h2,h3⟩:=ih h;exact⟨i+1,l,xs,h1,h2,h3⟩
 |dat _ _ ih=>obtain⟨i,l,xs,h1,h2,h3⟩:=ih h;exact⟨i+1,l,xs,h1,h2,h3⟩
 |own e _ _ ih=>
  rcases b0.mp h with rfl |h
  . exact⟨0,_,_,rfl,rfl,e⟩
  . obtain⟨i,l,xs,h1,h2,h3⟩:=ih h;exact⟨i+1,l,xs,h1,h2,h3⟩
theorem Slots.g9{K:Frag}{M0:List Addr}(q:Slots K M H g O Y)(hl:∀m∈M0,m∈M)(hn:∀a∈Y,a∉M0):Slots K M0 H (g.map Ev.g9) O []:=by
 induction q with
 |nil=>exact .nil
 |no _ ih=>exact .no (ih hn)
 |dat r _ ih=>exact .dat (r.stay (ao.less hl)) (ih hn)
 |own e r _ ih=>exact .dat (.lst ⟨hn _ dA,e⟩ (r.stay (ao.less hl))) (ih λa ha=>hn a (a8 _ ha))
theorem GD{i:Nat}{l:List D}(h:(g.map Ev.g9)[i]?=some (.own l)):False:=by
 rw[nE]at h;cases e:g[i]? with
 |none=>rw[e]at h;symm
 |some u=>rw[e]at h;cases u <;> symm
theorem S.h0(s:S z g O Y M H)(hb:z.bor=[])(h:a∈Y):z.H0 a=none:=by
 obtain⟨i,l,xs,h1,h2,_⟩:=s.sl.Y4 h;rcases s.own i a l h1 h2 with ⟨q,_⟩ |q
 . rw[hb]at q;cases q
 . exact q
theorem S.z8(s:S z g O Y M H)(hb:z.bor=[]):S z (g.map Ev.g9) O [] (M.filter λm=>decide (m∉Y)) H where
 sl:=s.sl.g9 (λm hm=>(hV.mp hm).1) λa ha hm=>by have:=(hV.mp hm).2;simp at this;exact this ha
 nd:=yA
 sub:=λa h=>nomatch h
 own:=λi a l e _=>(GD e).elim
 live:=λm hm=>s.live m (hV.mp hm).1
 keep:=s.keep
 gK:=λm hm=>hV.mpr ⟨s.gK m hm,by
  have:m∉Y:=λh=>s.m0 m hm (s.h0 hb h)
  simpa using this⟩
 m0:=s.m0
 bm:=s.bm
 jg:=λp hp=>by
  have:p.1∈z.bor:=mM hp;rw[hb]at this;cases this
 tab:=s.tab
 tm:=s.tm
 tt:=s.tt
theorem S.Uq(s:S z g O Y M H)(hb:z.bor=[]){g1:G}{σ1:Sg}(s1:S z g1 σ1 aL M1 H1)(st:ao (M.filter λm=>decide (m∉Y)) H M1 H1):S z g O Y (Y++M1) H1/\ao M H (Y++M1) H1:=by
 have nA:∀a∈Y,a∉M.filter λm=>decide (m∉Y):=λa ha hm=>by have:=(hV.mp hm).2;simp at this;exact this ha
 have stM:ao M H (Y++M1) H1:=λb o e hb'=>by
  have h1:=st b o e λhm=>hb' (hV.mp hm).1
  refine⟨h1.1,λhm=>?_⟩
  rcases yB.mp hm with hm |hm
  . exact hb' (s.sub b hm)
  . exact h1.2 hm
 have lists:∀a∈Y,∃xs,H1 a=some (.lst xs):=λa ha=>by
  obtain⟨_,_,xs,_,_,e⟩:=s.sl.Y4 ha;exact⟨xs,(st a _ e (nA a ha)).1⟩
 refine⟨⟨s.sl.stay stM λa ha o e=>(st a o e (nA a ha)).1,s.nd,λa ha=>AA _ ha,s.own,λm hm=>?_,s1.keep,λm hm=>hU _ (s1.gK m hm),s.m0,s.bm,s.jg,s1.tab,s.tm,s.tt⟩,stM⟩
 rcases yB.mp hm with hm |hm
 . obtain⟨xs,e⟩:=lists m hm;exact .inl ⟨_,e,trivial⟩
 . exact s1.live m hm
theorem GF(hb:z.bor=[])(hf:Ev.flat d=true)(h:az X z e (g.map Ev.g9) (.dat d) g1):az X z e g (.dat d) g:=by
 obtain⟨t,q,k⟩:=h;refine⟨t,q,λO Y M H Q s kk=>k O [] _ H Q (s.z8 hb) λv H1 aL M1 s1 st R=>?_⟩
 obtain⟨a,b⟩:=s.Uq hb s1 st;exact kk v H1 Y _ a b (Rep.flat R hf)
theorem aH.flat{K:Frag}{l:List D}{xs:List V}(r:aH K M H l xs)(h:l.all Ev.flat=true):aH K M1 H1 l xs:=by
 induction l generalizing xs with
 |nil=>cases r;exact .nil
 |cons d l ih=>
  cases r with
  |cons r t=>rw[List.all_cons,eQ]at h;exact .cons (Rep.flat r h.1) (ih t h.2)
theorem z9{X:Cx}{e:Expr}{l:List D}{g1:G}(hb:z.bor=[])(hf:l.all Ev.flat=true)(h:az X z e (g.map Ev.g9) (.new l) g1):az X z e g (.new l) g:=by
 obtain⟨t,q,k⟩:=h;refine⟨t,q,λO Y M H Q s kk=>k O [] _ H Q (s.z8 hb) λv H1 aL M1 s1 st R=>?_⟩
 obtain⟨a,b⟩:=s.Uq hb s1 st;obtain⟨p,xs,rfl,r1,r2,r3,r4,r5⟩:=R;refine kk _ H1 Y _ a b ⟨p,xs,rfl,hU _ r1,λhp=>?_,r3,r4,aH.flat r5 hf⟩
 obtain⟨_,_,ys,_,_,e⟩:=s.sl.Y4 hp;exact (st p _ e λhm=>by have:=(hV.mp hm).2;simp at this;exact this hp).2 r1
end
inductive Rm(X:Cx):List Stmt->List TS->Prop
 |nil:Rm X [] []
 |cons {s:Stmt}{ss:List Stmt}{t:TS}{ts:List TS}:PS X s t->Rm X ss ts->Rm X (s::ss) (t::ts)
def Og:List TS->TS->TS
 | [],u=>u
 |t::ts,u=>RW t (Og ts u)
theorem Rm.Y5{X:Cx}{ss rest:List Stmt}{ts:List TS}{u:TS}(h:Rm X ss ts)(hu:n5 X rest u):n5 X (ss++rest) (Og ts u):=by
 induction h with
 |nil=>exact hu
 |cons a _ ih=>exact cS a ih
def mj(X:Cx)(z:Z)(ss:List Stmt)(g:G)(f:Fl)(g':G):Prop:=
 ∃ts,Rm X ss ts/\∀(u:TS) O Y M H (E:Ends),S z g O Y M H->nh z M H { E with nx:=u E} g' f->Og ts u E O H
theorem mj.lift(h:mj X.jM z ss g f g'):mj X z ss g f g':=by
 obtain⟨ts,q,k⟩:=h;refine⟨ts,?_,k⟩;clear k
 induction q with
 |nil=>exact .nil
 |cons a _ ih=>exact .cons (λah s O H D I hw=>hZ (a ah s O H D (I.wish _) hw) (λ_ _ q=>q.bI) λ_ _ z=>False.elim z) ih
theorem mj.bk{X:Cx}{z:Z}{ss rest:List Stmt}{g g1 g':G}{f:Fl}(h:mj X z ss g .nx g1)(h2:bZ X z rest g1 f g'):bZ X z (ss++rest) g f g':=by obtain⟨t2,q2,k2⟩:=h2;obtain⟨t,q,k⟩:=h;exact⟨_,q.Y5 q2,λO Y M H E s kE=>k t2 O Y M H E s λσ' aA M' H' s' st=>k2 σ' aA M' H' E s' (kE.trans st)⟩
theorem mj.end{X:Cx}{z:Z}{ss rest:List Stmt}{g g':G}{f:Fl}(h:mj X z ss g f g')(hn:f≠.nx):bZ X z (ss++rest) g f g':=by
 obtain⟨t,q,k⟩:=h;refine⟨_,q.Y5 bf,λO Y M H E s kE=>k _ O Y M H E s ?_⟩
 cases f with
 |nx=>exact absurd rfl hn
 |rt r=>exact kE
 |bk=>exact kE
 |ct=>exact kE
theorem mj.ra{X:Cx}{z:Z}{ss rest:List Stmt}{g g1 g':G}{C:Addr}(h:mj X z ss g .nx g1)(h2:zG X z rest g1 C g'):zG X z (ss++rest) g C g':=by obtain⟨t2,q2,k2⟩:=h2;obtain⟨t,q,k⟩:=h;exact⟨_,q.Y5 q2,λO Y M H E s kE=>k t2 O Y M H E s λσ' aA M' H' s' st=>k2 σ' aA M' H' E s' (kE.trans st)⟩
inductive GJ(z:Z)(Y M:List Addr)(H:Hp):List Addr->List (List D)->Prop
 |nil:GJ z Y M H [] []
 |cons {p:Addr}{as:List Addr}{xs:List V}{l:List D}{ll:List (List D)}:p∈M->p∉Y->z.H0 p=none->H p=some (.lst xs)->aH z.K M H l xs->GJ z Y M H as ll->GJ z Y M H (p::as) (l::ll)
def Rows(z:Z)(g:G)(iy:Nat)(M0:List Addr)(H0:Hp)(ll:List (List D))(O:Sg)(H:Hp):Prop:=
 ∃Y M a as,S z g O Y M H/\ao M0 H0 M H/\O[iy]?=some (some (.ref a))/\a∈M/\a∉Y/\z.H0 a=none/\H a=some (.lst (as.map .ref))/\a∉as/\as.Nodup/\GJ z Y M H as ll
end Ev
namespace HT
open PySem PyProof.Rows
end HT
namespace Ev
open L2
section
variable{X:Cx}{z:Z}{tg iter kx vx:Expr}{scope:Scope}{pos:Pos}{N':List Str}{k:Nat}{T:Tg}{aj:List D}{g g1 gE:G}{ks: ~~~5}{ds:List D}
theorem Aa(ns: ~~~0):(ns.map (Sum.inl:Int->Key)).map kV=ns.map V.int:=by rw[List.map_map];rfl
noncomputable def Ur: ~~~5->List D->~~~0->Option D
 |k::ks,d::ds,n=>if k=n then some d else Ur ks ds n
 |_,_,_=>none
theorem qN{K:Frag}{M:List Addr}{H:Hp}{n: ~~~0}{d:D}:∀{ks: ~~~5}{ds:List D}{vs:List V},aH K M H ds vs->Ur ks ds n=some d->∃v,atK ((ks.map (List.map Sum.inl)).zip vs) (n.map Sum.inl)=some v/\Rep K M H d v
 | [],_,_,_,h=>by symm
 |_::_,[],_,_,h=>by symm
 |k::ks,x::ds,_,r,h=>by
  cases r with
  |cons a b=>
   unfold Ur at h;unfold atK;rw[List.map_cons,List.zip_cons_cons,List.find?_cons];by_cases e:k=n
   . rw[lL e]at h;symm;subst e;exact⟨_,by rw[nN (show (k.map Sum.inl,_).1=k.map (Sum.inl:Int->Key)from rfl)];rfl,a⟩
   .
    rw[i8 e]at h;obtain⟨v,v1,v2⟩:=qN b h;refine⟨v,?_,v2⟩;rw[show decide ((k.map (Sum.inl:Int->Key),_).1=n.map Sum.inl)=false from pE λq=>e ((List.map_inj_right λa b e=>Sum.inl.inj e).mp q)]
    exact v1
theorem Oh{l:List D}{n: ~~~0}{d:D}(hK:z.K=X.K)(hu:X.A.units+1<cLine)(hi:dJ l=some n)(h:Ur ks ds n=some d):Q9 X z (.vY ks ds) (.tup l) (.dat d):=by
 refine⟨_,Ew hu,λg O Y M H v1 v2 Q s q1 q2 kk=>?_⟩
 obtain⟨b,ys,rfl,hb,rb⟩:=q2.tup;have e:=cE rb hi;subst e;cases q1 with
 |of q1=>cases q1 with
  |vY na ha hl rr=>obtain⟨v,e1,e2⟩:=qN rr h;exact⟨_,b,_,n.map Sum.inl,v,rfl,rfl,ha,by rw[Aa];exact hK▸hb.sq,e1,kk _ H Y M s (ao.refl _ _) e2⟩
end
section
variable{X:Cx}{z:Z}{g g1:G}{pos:Pos}
theorem Oi(h0:0<=j)(h1:j<=1000000)(h2:i.natAbs<2 ^ 64):lV X z (binaryOp .LShift) (.int i) (.int j) (.dat (.int (i * 2 ^ j.toNat))):=by
 refine⟨λx y H Q=>x=.int i/\y=.int j/\Q (.int (i * 2 ^ j.toNat)) H,λah s O H x y v u Q I r1 r2 h=>?_,λg O Y M H v1 v2 Q s q1 q2 kk=>⟨q1.int,q2.int,kk _ H Y M s (ao.refl _ _) (.int _)⟩⟩
 obtain⟨rfl,rfl,q⟩:=h;obtain⟨t,rfl⟩:=r1;obtain⟨t',rfl⟩:=r2;exact lshift_int_small h0 h1 h2 ⟨.int _,H,I.tok _,⟨_,rfl⟩,q⟩
end
section
variable{X:Cx}{z:Z}{g g1 g2:G}{pn pos fQ:Pos}{e ix:Expr}{i:Nat}{x:Str}{l l0 l1:List D}
noncomputable def Y6:V->V->Hp->VK->Prop:=λx y H Q=>∃p xs v,∃n:Nat,x=.ref p/\y=.int n/\H p=some (.lst xs)/\xs[n]?=some v/\Q v H
theorem Ad:R3 X Y6:=by intro ah s O H o i ov iv Q I ro ri h;obtain⟨p,xs,v,n,rfl,rfl,hp,hx,q⟩:=h;cases ro;obtain⟨t,rfl⟩:=ri;obtain⟨aB,r,pl,hz⟩:=I.list (cF.of hp);obtain⟨w,ew,rw'⟩:=r.get hx;have hn:=(a9.mp hx).1;rw[yY]at hz;exact wpAny_getItem_list pl.isList (Int.natCast_nonneg _) ⋯ (by simpa using ew) ⟨v,H,I,rw',q⟩
theorem Ae{n:Nat}{a b:Int}(hN:X.N[i]?=some x)(hv:rZ X.env.scope x)(hd:(x==(~~~3))=false)(cB:(x==("__classdict__":Str))=false)(hg:g[i]?=some (.own l0))(h2:az X z ix g ‹n› g1)(Ra:g1[i]?=some (.own l1))(hx:l1[n]?=some (.int a))(h:az X z e g1 ‹b› g2)(TJ:g2[i]?=some (.own l))(hn:rY l.length n=some n)
  (ha:∀ov iv new,augStore ix ov iv new=(do holding [new,ov,iv] (setItem ov iv new);release [new,ov,iv] [];pure .next)) :
  eS X z (.AugAssign (.Subscript (.Name x pn) ix fQ) .Add e pos) g .nx (g2.set i (.own (l.set n (.int (a+b))))):=by
 obtain⟨t2,q2,k2⟩:=h2;obtain⟨t,q,kk⟩:=h;refine⟨_,Eb (jd hN hv hd cB) q2 Ad q Lg set_list ha,λO Y M H E s kE=>?_⟩
 obtain⟨p,xs,e1,e2,e3,e4⟩:=s.sl.at hg;refine⟨.ref p,e1,k2 O Y M H _ s λw H1 aL M1 s1 cR R1=>?_⟩
 cases R1;obtain⟨p1,ys,f1,f2,f3,f4⟩:=s1.sl.at Ra;rw[e1]at f1;injection f1 with f1;injection f1 with f1;injection f1 with f1;subst f1;obtain⟨v,gv,rv⟩:=f4.get hx;cases rv;refine⟨p,ys,.int a,n,rfl,rfl,f3,gv,kk O aL M1 H1 _ s1 λw2 H2 aO M2 s2 aJ R2=>?_⟩
 cases R2;obtain⟨p2,zs,w1,w2,w3,w4⟩:=s2.sl.at TJ;rw[e1]at w1;injection w1 with w1;injection w1 with w1;injection w1 with w1;subst w1;refine⟨a,b,rfl,rfl,p,zs,n,n,rfl,rfl,w3,by rw[<- w4.length];exact hn,?_⟩
 obtain⟨s3,fC⟩:=s2.write TJ e1 (aH.set (.int _) n w4);exact kE O aO M2 _ s3 (cR.trans (aJ.trans fC))
end
open L2 PySem.W SeqAt
abbrev stK(v:Value):List (Str×Value):=[(("start":Str),v)]
theorem GK(a v:Value):checkTypeCall "enumerate" ⟨[a],stK v⟩=pure ():=by kernel_rfl
theorem GL(a v:Value):checkBuiltinCall "enumerate.__new__" ⟨[.type "enumerate",a],stK v⟩=pure ():=by kernel_rfl
theorem GP(o a v:Value):argsOk "object.__init__" ⟨[o,a],stK v⟩:=by
 unfold argsOk
 kernel_rfl
theorem Us{o a v:Value}:Meets (Builtin.«object.__init__» ⟨[o,a],stK v⟩) (λ_ R s=>s.TypeIs o "enumerate" /\R (.ok (.ret .none)) s):=by
 refine Meets.of_wp λprog w A R s hs=>?_
 obtain⟨hT,hq⟩:=hs;have hl:=F.called_enumerate.init.lookup;have hm:=F.called_enumerate.made;have uq:(some "enumerate.__new__" != some "object.__new__")=true:=by decide
 repeat (any_goals (first |assumption |wp_step))
 exact⟨_,rfl,hq⟩
theorem Oj(l:Addr)(t:Tok)(aj:Array Value)(n:Nat)(dct:Option Addr)(sl:Array (Option Value)) :
  Meets (Builtin.«enumerate.__new__» ⟨[.type "enumerate",.ref l],stK (.int 1 t)⟩) (λ_ R s=>s.heap.get? l=some { cls:=.type "list",dict:=dct,data:=.seq aj n,slots:=sl}/\
   R (.ok (.ret (.ref (s.heap.push { cls:=.type "list_iterator",data:=.fields #[.ref l,.int 0 0]}).objs.size)))
    { s with heap:=(s.heap.push { cls:=.type "list_iterator",data:=.fields #[.ref l,.int 0 0]}).push { cls:=.type "enumerate",data:=.fields #[.none,.bool false,.ref s⁻¹,rawInt 1,.none,.none]}}):=
 .of_wp λprog w A R s h=>by
  obtain⟨hp,g,d,tk,os⟩:=s;obtain⟨hl,h⟩:=h;have hsub:=sub_enumerate;have hL:Heap.IsList (Shared.heap ⟨hp,g,d,tk,os⟩) l aj:=⟨_,hl,rfl,n,rfl⟩
  wp_walk using nV hl
  refine wpAny_stack_any λst=>dS ?_
  split
  . rename_i c _ _ _ _ _;cases (c==Value.type "enumerate") <;> (wp_walk using nV hl,v6 hL;exact⟨_,rfl,h⟩)
  .
   wp_walk using nV hl,v6 hL
   exact⟨_,rfl,h⟩
open L2 PySem.W SeqAt
section
variable{prog:Program}{w:World}{A:Around}{E:Value->Shared->Prop}{s:Shared}
theorem Ut{a v:Value}{S:PySem.Spec}{Q:Value->Shared->Prop}(g:Meets (Builtin.«enumerate.__new__» ⟨[.type "enumerate",a],stK v⟩) S)
  (h:S A.in1 (wants (λobj s₁=>s₁.TypeIs obj "enumerate" /\Q obj s₁) E) s):wpAny (model prog w) A (call (.type "enumerate") [a] (stK v)) Q E s:=by
 have ft:=F.called_enumerate;have hct:=GK a v;obtain⟨c,tl,hmro⟩:=ft.mro;have hmade:=ft.made;have hsub:=ft.sub;have h1:=ft.notType;have h2:=ft.canCreate;refine BH (codeAny_of_tree ?_);show wpAny _ _ (callAny (.type "enumerate") _) _ _ _;refine dS ⟨Code.quiet_builtin _ (by decide +kernel),codeAny_builtin F.entry_type_call ?_⟩
 rw[Around.under_plain (weight_type_call_type _ _ _) (units_type_call_type _ _ _)]
 repeat (any_goals (first |assumption |wp_step))
 refine y0 (codeAny_call_builtin ft.plain F.entry_enumerate_new (wpAny_of_eq (GL a v) (g prog w A.in1 _ s h))) λr s₁ hr=>?_
 cases r with
 |error e=>exact hr
 |ok fl=>
  cases fl with
  |ret obj=>
   obtain⟨hT,hQ⟩:=hr;have hsi:s₁.TypeIs obj "enumerate" /\wants (λr s₂=>r=Value.none/\Q obj s₂) E (.ok (.ret .none)) s₁:=⟨hT,rfl,hQ⟩
   have hli:=ft.init.lookup;have hbi:=ft.init.bind obj
   repeat (any_goals (first |assumption |wp_step))
   refine y0 (codeAny_call_builtin ft.init.plain F.entry_object_init (ft.init.check _ _ _ _ _ _ _ _ hT (GP _ _ _) (Us prog w A.in1 (wants (λr s₂=>r=Value.none/\Q obj s₂) E) s₁ hsi))) λr₂ s₂ Y7=>?_
   cases r₂ with
   |error e=>exact Y7
   |ok fl₂=>
    cases fl₂ with
    |ret r=>
     obtain⟨rfl,hq⟩:=Y7
     repeat (any_goals (first |assumption |wp_step))
    |_=>exact Y7.elim
  |_=>exact hr.elim
end
open L2 PySem.W SeqAt
theorem oX{M:Model}{A:Around}{E:Value->Shared->Prop}{s:Shared}{env:Env}{pos:Pos}{T:String}{e:Expr}{kws:List Keyword}{Q:Value->Shared->Prop}
  (h:wpAny M A (spliced (backTo pos (starEach [e] env))) (λvs s₁=>wpAny M A (evalAll ((backToKw pos (keywordEach kws env)).map (·.2))) (λeu s₂=>wpAny M A (call (.type T) vs (((backToKw pos (keywordEach kws env)).filterMap (·.1)).zip eu)) Q E s₂) E s₁) E s)
  (he:starEach [e] env=[(false,eval e env)]) (hall:(backToKw pos (keywordEach kws env)).all (·.1.isSome)=true) (hkw:(backToKw pos (keywordEach kws env)).any (·.1.isNone)=false) :
  wpAny M A (callWith pos (.type T) [] (backTo pos (starEach [e] env)) (backToKw pos (keywordEach kws env))) Q E s:=by
 rw[he]at h ⊢
 unfold callWith;have h':wpAny M A (evalArgs (.type T) true (backTo pos [(false,eval e env)]) (backToKw pos (keywordEach kws env))) (λa s₁=>wpAny M A (call (.type T) ([]++a.pos) a.kw) Q E s₁) E s:=evalArgs_kwB (x:=eval e env) (rest:=[]) (Q:=λa s₁=>wpAny M A (call (.type T) a.pos a.kw) Q E s₁) hall h
 refine aS (mB (hZ h' (λa s₁ h₁=>aS (BD ?_)) λ_ _ x=>x))
 rw[hkw];exact aS (dS (aS (hZ h₁ (λr s₂ hr=>aS (mB (wpAny_point (dS hr)))) λ_ _ x=>x)))
theorem sX{prog:Program}{w:World}{A:Around}{E:Value->Shared->Prop}{s:Shared}{l:Addr}{t:Tok}{aj:Array Value}{Q:Value->Shared->Prop}(hL:s.heap.IsList l aj)
  (h:∀h',IsEnum h' (s⁻¹+1) s⁻¹ 1 .none->h'.IsListIter s⁻¹ l 0->h'.objs.size=s⁻¹+2->(∀b o,s.heap.get? b=some o->h'.get? b=some o)->Q (.ref (s⁻¹+1)) { s with heap:=h'}) :
  wpAny (model prog w) A (call (.type "enumerate") [.ref l] (stK (.int 1 t))) Q E s:=by
 obtain⟨⟨c,dct,dt,sl⟩,hl,hc,n,hd⟩:=hL;cases (show c=.type "list" from hc)
 cases (show dt=.seq aj n from hd)
 refine Ut (Oj l t aj n dct sl) ⟨hl,?_⟩;generalize hq:s.heap.push { cls:=.type "list_iterator",data:=.fields #[.ref l,.int 0 0]}=h1;have hz:h1.objs.size=s⁻¹+1:=by rw[<- hq];exact l9 ..
 have hi:h1.get? s⁻¹=some { cls:=.type "list_iterator",data:=.fields #[.ref l,.int 0 0]}:=by rw[<- hq];exact dC _ rfl
 have he:IsEnum (h1.push { cls:=.type "enumerate",data:=.fields #[.none,.bool false,.ref s⁻¹,rawInt 1,.none,.none]}) h1.objs.size s⁻¹ 1 .none:=dC h1 rfl;rw[hz]at he ⊢
 exact⟨⟨_,he,rfl⟩,h _ he ⟨_,a7 _ hi,rfl,rfl⟩ (by rw[l9,hz]) λb o x=>a7 _ (by rw[<- hq];exact a7 _ x)⟩
open L2 PySem.W SeqAt
section
variable{X:Cx}{z:Z}{g g1:G}{p rp pos kp kpos:Pos}{e:Expr}{es:List Expr}{k j:Nat}
noncomputable def fL(l:List D):List D:=l.zipIdx.map λp=>.tup [.int ((1+p.2:Nat):Int),p.1]
def Af:D->Option (List D)
 |.lst l=>some l
 |.fix l=>some l
 |_=>none
theorem wX{l:List D}{n:Nat}{d:D}(h:(fL l)[n]?=some d):∃x,l[n]?=some x/\d=.tup [.int ((1+n:Nat):Int),x]:=by
 unfold fL at h;rw[nE]at h;cases e:l.zipIdx[n]? with
 |none=>rw[e]at h;symm
 |some q=>
  rw[e]at h;symm;rw[List.getElem?_zipIdx]at e;cases e2:l[n]? with
  |none=>rw[e2]at e;cases e
  |some x=>rw[e2]at e;cases e;exact⟨x,rfl,by simp⟩
theorem wY(l:List D):(fL l).length=l.length:=by simp[fL]
theorem Ag{d:D}{l:List D}(hK:z.K=X.K)(ha:cI X z [e] g [.dat d] g1)(hs:Af d=some l)(hg:Gl X "enumerate")(hm:X.mg "enumerate"=none)(cD:starEach [e] X.env=[(false,eval e X.env)]) :
  cX X z (.Tuple es k pos) (.Call (.Name "enumerate" p) [e] [⟨some "start",.Constant (.int 1) j kp,kpos⟩] rp) g (fL l) g1:=by
 refine cX.of λah s O Y M H Post I T8 kk=>?_
 refine oC (fD I hg hm boot_enumerate (oX (ha.run I T8 λvs us s0 H1 aL M1 I0 r1 q1 q2 q3=>?_) cD rfl rfl))
 cases q3 with
 |dat YG R=>
  cases R;obtain⟨u,rfl,ru⟩:=vals1 r1;refine kws_cons (wpAny_Constant_int (kws_nil ?_));have I1:L2.Inv X ah O H1 { s0 with toks:=s0.toks+1}:=I0.tok _;generalize hs1:({ s0 with toks:=s0.toks+1}:Shared)=s1 at I1 ⊢
  have main:∀(a:Addr) (xs:List V) (aB:List Value),u=.ref a->s1.heap.IsList a aB.toArray->aH z.K M1 H1 l xs->(∀M2 H2,ao M1 H1 M2 H2->kN false X.K H2 a xs)->
    wpAny (~~~2) X.A (call (.type "enumerate") [u] (stK (.int 1 s0.toks))) Post X.xe s1:=λa xs aB hu hat rr N3=>by
   subst hu;refine sX hat λh' he hi iu hk=>kk _ _ λR kR=>?_
   refine wpAny_pyIter_enum he ?_;have I2:=I1.kept (t':=s1.toks) hk;refine⟨_,[s1⁻¹+1,s1⁻¹],_,YF false X.K a 1,H1,rfl,I2,nF _ _ a 1 (Nat.succ_ne_self _),⟨⟨_,he⟩,hi⟩,λb hb=>?_,kR _ H1 aL M1 q1 q2 λM2 H2 aJ=>?_⟩
   .
    rcases b0.mp hb with rfl |hb
    . exact I1.n8 (AE _) (I1.hok.fresh (AE _))
    . cases eP.mp hb;exact I1.n8 (eA _) (I1.hok.fresh (eA _))
   .
    have yd:=rr.stay aJ;refine⟨λn d hd=>?_,xs,N3 M2 H2 aJ,by rw[wY];exact rr.length.symm⟩
    obtain⟨x,e1,rfl⟩:=wX hd;obtain⟨v,e2,e3⟩:=yd.get e1;refine⟨⟨xs,v,N3 M2 H2 aJ,e2⟩,λy H' hy z' g' σ' aA hz' s'=>?_⟩
    obtain⟨p,y',w1,w3,rfl,rfl⟩:=hy;have w2:=w1 xs (N3 M2 H2 aJ);rw[e2]at w2;cases w2;refine⟨s'.laid w3,ao.laid w3,.tup (.inl ⟨s'.fresh w3,.inl aE⟩) (.cons (.int _) (.cons (e3.stay (ao.laid w3)) .nil))⟩
  cases YG with
  |@lst _ a xs hb rr=>cases hs;cases ru;obtain⟨aB,rv,pl,hz⟩:=I1.list (cF.of hb.2);exact main a xs aB rfl pl.isList rr λM2 H2 aJ=>cF.of (aJ _ _ hb.2 hb.1).1
  |@fix _ a xs hb rr=>
   cases hs;cases ru;obtain⟨aB,rv,pl,hz⟩:=I1.list (hK▸hb.sq);refine main a xs aB rfl pl.isList rr λM2 H2 aJ=>?_
   have:iE z.K M2 H2 a xs:=by
    rcases hb with ⟨na,o,hr⟩ |hk
    . exact .inl ⟨(aJ _ _ hr na).2,o,(aJ _ _ hr na).1⟩
    . exact .inr hk
   exact hK▸this.sq
  |_=>cases hs
end
open L2 PySem.W
inductive Bl where
 |len |list |tuple |max |min |str |all |sorted |sum |any |int
 deriving DecidableEq
set_option genInjectivity false in
inductive Ex where
 |val (d:D) |slot (i:Nat)
 |bin (op:Operator) (a b:Ex) |cmp (op:CmpOp) (a b:Ex) |chain (a:Ex) (ops:List CmpOp) (l:List Ex)
 |neg (a:Ex) |not (a:Ex) |and (l:List Ex) |or (l:List Ex) |ite (c a b:Ex)
 |tup (l:List Ex) |lst (l:List Ex)
 |ix (a b:Ex) |slice (a:Ex) (lo hi:Option Ex)
 |call (f:Nat) (l:List Ex) |blt (b:Bl) (l:List Ex) |wZ (a:Ex) (n:String) |Ah (a:Ex) (ns:List String)
 |comp (n k:Nat) (T:Tg) (it:Ex) (c:Option Ex) (e:Ex)
 |dB (a:Ex) |iN (a b:Ex)
 |enum (a:Ex) |dM (a:Ex) |zip (a b:Ex)
 |emp |stk |peek (e:Ex)
 |iO (f ir:Nat) (ca:List Addr) (e:Ex) |nG (a:Ex) (l:List (Addr×Bool))
 |append (i:Nat) (e:Ex)
set_option genInjectivity false in
inductive Sm where
 |ret (e:Ex) |expr (e:Ex) |set (i:Nat) (e:Ex) |setC (i:Nat) (e:Ex) |item (i:Nat) (j e:Ex)
 |qO (i:Nat) (j e:Ex)
 |ite (c:Ex) (a b:List Sm) |loop (T:Tg) (it:Ex) (b:List Sm) |while (c:Ex) (b:List Sm) |raise (ci:Nat) (e:Ex) |stuck
structure Fx where
 np:Nat
 n:Nat
 body:List Sm
noncomputable def Tg.cY:Tg->Bool
 |.tp _=>true
 |.nm _=>false
noncomputable def GQ(i j:Int):Bool:=(decide (-(2 ^ 64)<i)&&decide (i<2 ^ 64))||(decide (-(2 ^ 64)<j)&&decide (j<2 ^ 64))
noncomputable def GR(i j:Int):Bool:=decide (i.natAbs<2 ^ 20000)&&decide (j.natAbs<2 ^ 20000)
def lim:Nat:=16777216
noncomputable def iP{α:Type}(f:Int->Int->Option α)(a b:D):Option α:=match a with
 |.int i=>(match b with |.int j=>f i j |_=>none)
 |_=>none
noncomputable def Ol(a b:D):Option R:=match a with
 |.int i=>(match b with |.int j=>some (.dat (.int (i+j))) |_=>none)
 |.lst l=>(match b with |.lst m=>if l.length+m.length<=lim then some (.new (l++m))else none |_=>none)
 |.tup l=>(match b with |.tup m=>if l.length+m.length<=lim then some (.dat (.tup (l++m)))else none |_=>none)
 |_=>none
def w6(a:D)(k:Int):Option R:=match a with
 |.int i=>if GQ i k=true then some (.dat (.int (i * k)))else if GR i k=true then some (.dat (.int (i * k)))else none
 |.lst l=>if -(2 ^ 63)<=k/\k<2 ^ 63/\l.length * k.toNat<=lim then some (.new (List.replicate k.toNat l).flatten)else none
 |_=>none
def fB(op:Operator)(a b:D):Option R:=match op with
 |.Add=>Ol a b
 |.Sub=>iP (λi j=>some (.dat (.int (i - j)))) a b
 |.Mult=>(match b with |.int k=>w6 a k |_=>none)
 |.FloorDiv=>iP (λi j=>if 0<j/\j<18446744073709551616 then some (.dat (.int (i / j)))else none) a b
 |.Mod=>iP (λi j=>if 0<j then some (.dat (.int (i % j)))else none) a b
 |.Pow=>iP (λi j=>if 0<=j/\j<=1000/\i.natAbs<2 ^ 64 then some (.dat (.int (i ^ j.toNat)))else none) a b
 |.LShift=>iP (λi j=>if 0<=j/\j<=1000/\i.natAbs<2 ^ 64 then some (.dat (.int (i * 2 ^ j.toNat)))else none) a b
 |_=>none
def iQ(d1 d2:D):Bool:=lP d1&&lP d2&&decide (dep d1<=190)
noncomputable def ltF(a b:D):Option Bool:=match a with
 |.int i=>(match b with |.int j=>some (decide (i<j)) |_=>none)
 |_=>none
def gS(op:CmpOp)(d1 d2:D):Option Bool:=match op with
 |.Eq=>if iQ d1 d2=true then some (gj d1 d2)else none
 |.NotEq=>if iQ d1 d2=true then some (!gj d1 d2)else none
 |.Lt=>ltF d1 d2
 |.LtE=>iP (λi j=>some (decide (i<=j))) d1 d2
 |.Gt=>iP (λi j=>some (decide (i > j))) d1 d2
 |.GtE=>iP (λi j=>some (decide (i ≥ j))) d1 d2
 |_=>none
def Ro:D->D->Option D
 |.lst l,.int i=>fj l i
 |.fix l,.int i=>fj l i
 |.tup l,.int i=>fj l i
 |.vY ks ds,.tup l=>(match dJ l with |some n=>Ur ks ds n |none=>none)
 |_,_=>none
def Rp(b:Bl)(d:D):Option R:=match b with
 |.len=>(match TF d with |some n=>some ‹n› |none=>none)
 |.list=>(match cM d with |some l=>some (.new l) |none=>none)
 |.tuple=>(match cM d with |some l=>some (.dat (.tup l)) |none=>none)
 |.min=>(match cM d with |some l=>(match dJ l with |some (n::ns)=>some (.dat (.int (eV n ns))) |_=>none) |none=>none)
 |.all=>(match d with |.lst l=>(match qu l with |some bs=>some (.dat (.bl (bs.all id))) |none=>none) |_=>none)
 |.sorted=>(match cM d with |some l=>(match dJ l with |some ns=>if ns.length<64 then some (.new ((cz ns).map .int))else none |none=>none) |none=>none)
 |_=>none
def bl2(b:Bl)(d e:D):Option R:=match b with
 |.max=>iP (λi j=>some (.dat (.int (if j > i then j else i)))) d e
 |.min=>iP (λi j=>some (.dat (.int (if j<i then j else i)))) d e
 |_=>none
def mq(b:Bl)(ds:List D):Option R:=match ds with
 | [d]=>Rp b d
 | [d,e]=>bl2 b d e
 |_=>none
noncomputable def dD(t n:String):Bool:=t==n||(t == "bool" && n == "int")
noncomputable def Rq:Ex->Bool
 |.dB _=>true
 |.iN _ _=>true
 |.enum _=>true
 |.dM _=>true
 |.zip _ _=>true
 |_=>false
structure Rn where
 e:List Nat->Nat->Ex->G->Option (R×G)
 t:List Nat->Nat->Ex->G->Option (Bool×G)
 b:List Nat->Nat->List Sm->G->Option (Fl×G)
 x:List Nat->Nat->Ex->G->Option (Nat×G)
 xt:List Nat->Nat->Ex->G->Option (Nat×G)
 xb:List Nat->Nat->List Sm->G->Option (Nat×G)
noncomputable def toD(bor:List Nat):R->G->Option (D×G)
 |.dat d,g=>some (d,g)
 |.new l,g=>some (.lst l,g)
 |.var i,g=>if i∈bor then none else match g[i]? with |some (.own l)=>some (.lst l,g.set i (.dat (.lst l))) |_=>none
noncomputable def norm:R->R
 |.new l=>.dat (.lst l)
 |.dat d=>.dat d
 |.var i=>.var i
section
variable(rn:Rn)(bor:List Nat)(k:Nat)
noncomputable def gA(e:Ex)(g:G):Option (D×G):=match rn.e bor k e g with
 |some (r,g1)=>toD bor r g1
 |none=>none
noncomputable def kP:List Ex->G->Option (List D×G)
 | [],g=>some ([],g)
 |e::es,g=>match gA rn bor k e g with
  |some (d,g1)=>match kP es g1 with
   |some (ds,g2)=>some (d::ds,g2)
   |none=>none
  |none=>none
def argsR:List Ex->G->Option (List R×G)
 | [],g=>some ([],g)
 |e::es,g=>match rn.e bor k e g with
  |some (r,g1)=>match argsR es g1 with
   |some (rs,g2)=>some (norm r::rs,g2)
   |none=>none
  |none=>none
def Om:D->List CmpOp->List Ex->G->Option (Bool×G)
 |d1,[op],[b],g=>match gA rn bor k b g with
  |some (d2,g1)=>match gS op d1 d2 with |some c=>some (c,g1) |none=>none
  |none=>none
 |d1,op::op'::ops,b::b'::bs,g=>match gA rn bor k b g with
  |some (d2,g1)=>match gS op d1 d2 with
   |some true=>Om d2 (op'::ops) (b'::bs) g1
   |some false=>some (false,g1)
   |none=>none
  |none=>none
 |_,_,_,_=>none
def xg:List Ex->G->Option (R×G)
 | [],_=>none
 | [a],g=>rn.e bor k a g
 |a::b::l,g=>match rn.e bor k a g with
  |some (.dat (.bl true),g1)=>xg (b::l) g1
  |some (.dat (.bl false),g1)=>some (.dat (.bl false),g1)
  |_=>none
def Uu:List Ex->G->Option (R×G)
 | [],_=>none
 | [a],g=>rn.e bor k a g
 |a::b::l,g=>match rn.e bor k a g with
  |some (.dat (.bl false),g1)=>Uu (b::l) g1
  |some (.dat (.bl true),g1)=>some (.dat (.bl true),g1)
  |_=>none
def qP:List Ex->G->Option (Bool×G)
 | [],_=>none
 | [a],g=>rn.t bor k a g
 |a::b::l,g=>match rn.t bor k a g with
  |some (true,g1)=>qP (b::l) g1
  |some (false,g1)=>some (false,g1)
  |none=>none
def Ai:List Ex->G->Option (Bool×G)
 | [],_=>none
 | [a],g=>rn.t bor k a g
 |a::b::l,g=>match rn.t bor k a g with
  |some (false,g1)=>Ai (b::l) g1
  |some (true,g1)=>some (true,g1)
  |none=>none
noncomputable def kQ:Option Ex->G->Option (Option Int×G)
 |none,g=>some (none,g)
 |some e,g=>match gA rn bor k e g with
  |some (.int i,g1)=>some (some i,g1)
  |_=>none
noncomputable def pW(j:Int):Bool:=decide (-(2 ^ 62)<=j)&&decide (j<2 ^ 62)
def eW(tp:Bool)(it:Ex)(g:G):Option (List D×G):=match it with
 |.dB a=>match gA rn bor k a g with
  |some (.int j,g1)=>if pW j=true then some (fJ 0 j.toNat,g1)else none
  |_=>none
 |.iN a b=>match gA rn bor k a g with
  |some (.int c,g1)=>match gA rn bor k b g1 with
   |some (.int j,g2)=>if pW c=true/\pW j=true then some (fJ c (j - c).toNat,g2)else none
   |_=>none
  |_=>none
 |.zip a b=>if tp=true then match kP rn bor k [a,b] g with
  |some ([d1,d2],g1)=>match cM d1,cM d2 with |some l,some m=>if isTup d1=isTup d2 then some (oU l m,g1)else none |_,_=>none
  |_=>none
  else none
 |.dM a=>if tp=true then match gA rn bor k a g with
  |some (d,g1)=>match Af d with |some l=>some (fL l,g1) |none=>none
  |none=>none
  else none
 |.enum a=>if tp=true then match gA rn bor k a g with
  |some (d,g1)=>match cM d with |some l=>some (iM l,g1) |none=>none
  |none=>none
  else none
 |e=>match gA rn bor k e g with
  |some (.tup l,g1)=>some (l,g1)
  |some (.lst l,g1)=>some (l,g1)
  |some (.fix l,g1)=>some (l,g1)
  |_=>none
def Oo:Option Ex->G->Option (Bool×G)
 |none,g=>some (true,g)
 |some c,g=>rn.t bor k c g
def GX(T:Tg)(last:Nat)(c:Option Ex)(e:Ex):List D->G->Option G
 | [],g=>some g
 |d::l,g=>match T.set d g with
  |none=>none
  |some g1=>match Oo rn bor k c g1 with
   |none=>none
   |some (false,g2)=>GX T last c e l g2
   |some (true,g2)=>match gA rn bor k e g2 with
    |none=>none
    |some (x,g3)=>match g3[last]? with
     |some (.own acc)=>if acc.length<lim then GX T last c e l (g3.set last (.own (acc++[x])))else none
     |_=>none
def dN(n kk:Nat)(T:Tg)(it:Ex)(c:Option Ex)(e:Ex)(g:G):Option (List D×G):=match eW rn bor k T.cY it g with
 |none=>none
 |some (aj,g1)=>if g1.length=n/\(T.ix.any λi=>decide (i∈bor))=false then match GX rn bor k T (n+kk) c e aj (gC kk g1)with
   |none=>none
   |some gE=>match gE[n+kk]? with
    |some (.own acc)=>some (acc,gE.take n)
    |_=>none
  else none
def bG(fx:Fx)(k':Nat)(rs:List R)(g1:G):Option (R×G):=
 if rs.length=fx.np/\((vars 0 rs).map (·.2)).Nodup then match bM rs g1 with
  |none=>none
  |some gs=>match rn.b ((vars 0 rs).map (·.1)) k' fx.body (bN fx.n gs)with
   |some (.rt r,gc)=>match back (vars 0 rs) gc g1 with
    |some gO=>match cu ((vars 0 rs).map (·.1)) gc r with |some r'=>some (r',gO) |none=>none
    |none=>none
   |some (.nx,gc)=>match back (vars 0 rs) gc g1 with
    |some gO=>some (.dat .non,gO)
    |none=>none
   |_=>none
 else none
def aR(fns:List Fx)(e:Ex)(g:G):Option (R×G):=match e with
 |.val d=>some (.dat d,g)
 |.slot i=>match g[i]? with |some (.dat d)=>some (.dat d,g) |some (.own _)=>some (.var i,g) |_=>none
 |.bin op a b=>match argsR rn bor k [a,b] g with
  |some ([r1,r2],g2)=>match pk r1 g2,pk r2 g2 with
   |some d1,some d2=>match fB op d1 d2 with |some r=>some (r,g2) |none=>none
   |_,_=>none
  |_=>none
 |.cmp op a b=>match argsR rn bor k [a,b] g with
  |some ([r1,r2],g2)=>match pk r1 g2,pk r2 g2 with
   |some d1,some d2=>match gS op d1 d2 with |some c=>some (.dat (.bl c),g2) |none=>none
   |_,_=>none
  |_=>none
 |.chain a ops l=>match gA rn bor k a g with
  |some (d1,g1)=>match Om rn bor k d1 ops l g1 with |some (c,g2)=>some (.dat (.bl c),g2) |none=>none
  |none=>none
 |.neg a=>match gA rn bor k a g with |some (.int i,g1)=>some (.dat (.int (-i)),g1) |_=>none
 |.not a=>match rn.e bor k a g with |some (.dat (.bl c),g1)=>some (.dat (.bl (!c)),g1) |_=>none
 |.and l=>xg rn bor k l g
 |.or l=>Uu rn bor k l g
 |.ite c a b=>match rn.t bor k c g with
  |some (true,g1)=>rn.e bor k a g1
  |some (false,g1)=>rn.e bor k b g1
  |none=>none
 |.tup l=>match kP rn bor k l g with |some (ds,g1)=>if ds.length<=lim then some (.dat (.tup ds),g1)else none |none=>none
 |.lst l=>match kP rn bor k l g with |some (ds,g1)=>if ds.length<=lim then some (.new ds,g1)else none |none=>none
 |.ix a b=>match argsR rn bor k [a,b] g with
  |some ([r1,r2],g2)=>match pk r1 g2,pk r2 g2 with
   |some d1,some d2=>match Ro d1 d2 with |some d=>some (.dat d,g2) |none=>none
   |_,_=>none
  |_=>none
 |.slice a lo hi=>match rn.e bor k a g with
  |some (r,g1)=>match kQ rn bor k lo g1 with
   |some (i,g2)=>match kQ rn bor k hi g2 with
    |some (j,g3)=>match norm r with
     |.dat (.tup l)=>some (.dat (.tup (fK l i j)),g3)
     |.dat (.fix l)=>some (.new (fK l i j),g3)
     |r'=>match pk r' g3 with |some (.lst l)=>some (.new (fK l i j),g3) |_=>none
    |none=>none
   |none=>none
  |none=>none
 |.call f l=>match fns[f]?,k with
  |some fx,k'+1=>match argsR rn bor k l g with
   |some (rs,g1)=>bG rn fx k' rs g1
   |none=>none
  |_,_=>none
 |.blt b l=>match argsR rn bor k l g with
  |some (rs,g1)=>match v5 rs g1 with
   |some ds=>match mq b ds with |some r=>some (r,g1) |none=>none
   |none=>none
  |none=>none
 |.wZ a n=>match rn.e bor k a g with
  |some (r,g1)=>match pk (norm r) g1 with |some d=>some (.dat (.bl (dD (lQ d) n)),g1) |none=>none
  |none=>none
 |.Ah a ns=>match rn.e bor k a g with
  |some (r,g1)=>match pk (norm r) g1 with |some d=>some (.dat (.bl (ns.any (dD (lQ d)))),g1) |none=>none
  |none=>none
 |.comp n kk T it c e=>match dN rn bor k n kk T it c e g with |some (acc,g1)=>some (.new acc,g1) |none=>none
 |.emp=>some (.dat .emp,g)
 |.stk=>none
 |.peek e=>if bor.isEmpty=true then match rn.e [] k e (g.map g9)with |some (.dat d,_)=>if flat d=true then some (.dat d,g)else none |some (.new l,_)=>if l.all flat=true then some (.new l,g)else none |_=>none else none
 |.iO f ir ca e=>match fns[f]?,k with
  |some fx,k'+2=>match rn.x [] k' e (g.map noOwn)with
   |some (ci,_)=>match ca[ci]? with
    |some C=>match rn.b [] k' (fx.body.drop 2) ((List.replicate fx.n .no).set ir (.dat (.jE C)))with
     |some (.rt r,g3)=>match cu [] g3 r with |some r'=>some (r',g) |none=>none
     |_=>none
    |none=>none
   |none=>none
  |_,_=>none
 |.nG a l=>match rn.e bor k a g with
  |some (r,g1)=>match pk (norm r) g1 with
   |some (.jE C)=>match l.lookup C with |some b=>some (.dat (.bl b),g1) |none=>none
   |some .non=>some (.dat (.bl false),g1)
   |_=>none
  |none=>none
 |.append i e=>match g[i]? with
  |some (.own _)=>match gA rn bor k e g with
   |some (d,g1)=>match g1[i]? with |some (.own l)=>if l.length<lim then some (.dat .non,g1.set i (.own (l++[d])))else none |_=>none
   |none=>none
  |_=>none
 |.dB _=>none
 |.iN _ _=>none
 |.enum _=>none
 |.dM _=>none
 |.zip _ _=>none
def stepT(e:Ex)(g:G):Option (Bool×G):=match e with
 |.cmp op a b=>match argsR rn bor k [a,b] g with
  |some ([r1,r2],g2)=>match pk r1 g2,pk r2 g2 with
   |some d1,some d2=>match gS op d1 d2 with |some c=>some (c,g2) |none=>none
   |_,_=>none
  |_=>none
 |.chain a ops l=>match gA rn bor k a g with
  |some (d1,g1)=>Om rn bor k d1 ops l g1
  |none=>none
 |.not a=>match rn.t bor k a g with |some (c,g1)=>some (!c,g1) |none=>none
 |.and l=>qP rn bor k l g
 |.or l=>Ai rn bor k l g
 |.ite _ _ _=>none
 |e=>match rn.e bor k e g with
  |some (r,g1)=>match pk (norm r) g1 with
   |some d=>match FZ d with |some c=>some (c,g1) |none=>none
   |none=>none
  |none=>none
def bD(T:Tg)(b:G->Option (Fl×G)):List D->G->Option (Fl×G)
 | [],g=>some (.nx,g)
 |d::l,g=>match T.set d g with
  |none=>none
  |some g0=>match b g0 with
   |none=>none
   |some (.nx,g1)=>bD T b l g1
   |some (.ct,g1)=>bD T b l g1
   |some (.bk,g1)=>some (.nx,g1)
   |some (.rt r,g1)=>some (.rt r,g1)
noncomputable def Uv(c:G->Option (Bool×G))(b:G->Option (Fl×G)):Nat->G->Option (Fl×G)
 | 0,_=>none
 |n+1,g=>match c g with
  |none=>none
  |some (false,g1)=>some (.nx,g1)
  |some (true,g1)=>match b g1 with
   |none=>none
   |some (.nx,g2)=>Uv c b n g2
   |some (.ct,g2)=>Uv c b n g2
   |some (.bk,g2)=>some (.nx,g2)
   |some (.rt r,g2)=>some (.rt r,g2)
def aC(st:Sm)(g:G):Option (Fl×G):=match st with
 |.ret e=>match rn.e bor k e g with |some (r,g1)=>some (.rt r,g1) |none=>none
 |.expr e=>match rn.e bor k e g with |some (_,g1)=>some (.nx,g1) |none=>none
 |.set i e=>if i∈bor then none else match rn.e bor k e g with
  |some (.new l,g1)=>if i<g1.length then some (.nx,g1.set i (.own l))else none
  |some (r,g1)=>match toD bor r g1 with |some (d,g2)=>some (.nx,g2.set i (.dat d)) |none=>none
  |none=>none
 |.setC i e=>if i∈bor then none else match e with
  |.comp n kk T it c e=>match dN rn bor k n kk T it c e g with
   |some (acc,g1)=>if i<g1.length then some (.nx,g1.set i (.own acc))else none
   |none=>none
  |_=>none
 |.item i j e=>match gA rn bor k e g with
  |some (d,g1)=>match g1[i]? with
   |some (.own _)=>match gA rn bor k j g1 with
    |some (.int n,g2)=>match g2[i]? with
     |some (.own l)=>match rY l.length n with |some m=>some (.nx,g2.set i (.own (l.set m d))) |none=>none
     |_=>none
    |_=>none
   |_=>none
  |none=>none
 |.qO i j e=>match g[i]? with
  |some (.own _)=>match gA rn bor k j g with
   |some (.int n,g1)=>match g1[i]? with
    |some (.own l1)=>match l1[n.toNat]? with
     |some (.int a)=>match gA rn bor k e g1 with
      |some (.int b,g2)=>match g2[i]? with
       |some (.own l)=>if 0<=n/\rY l.length n=some n.toNat then some (.nx,g2.set i (.own (l.set n.toNat (.int (a+b)))))else none
       |_=>none
      |_=>none
     |_=>none
    |_=>none
   |_=>none
  |_=>none
 |.ite c a b=>match rn.t bor k c g with
  |some (true,g1)=>rn.b bor k a g1
  |some (false,g1)=>rn.b bor k b g1
  |none=>none
 |.loop T it b=>if T.ix.any (λi=>decide (i∈bor))=true then none else match eW rn bor k T.cY it g with
  |some (aj,g1)=>bD T (rn.b bor k b) aj g1
  |none=>none
 |.while c b=>Uv (rn.t bor k c) (rn.b bor k b) 100000 g
 |.raise _ _=>none
 |.stuck=>none
def bW:List Sm->G->Option (Fl×G)
 | [],g=>some (.nx,g)
 |st::rest,g=>match aC rn bor k st g with
  |some (.nx,g1)=>bW rest g1
  |some (f,g1)=>some (f,g1)
  |none=>none
def xW(it:Ex)(g:G):Option (Nat×G):=if Rq it=true then none else rn.x bor k it g
def xArgs:List Ex->G->Option (Nat×G)
 | [],_=>none
 |e::es,g=>match rn.x bor k e g with
  |some r=>some r
  |none=>match rn.e bor k e g with
   |some (_,g1)=>xArgs es g1
   |none=>none
def kU(fx:Fx)(k':Nat)(rs:List R)(g1:G):Option (Nat×G):=
 if rs.length=fx.np/\((vars 0 rs).map (·.2)).Nodup then match bM rs g1 with
  |none=>none
  |some gs=>match rn.xb ((vars 0 rs).map (·.1)) k' fx.body (bN fx.n gs)with
   |some (ci,gc)=>match back (vars 0 rs) gc g1 with |some gO=>some (ci,gO) |none=>none
   |none=>none
 else none
def qQ(fns:List Fx)(e:Ex)(g:G):Option (Nat×G):=match e with
 |.bin _ a b=>xArgs rn bor k [a,b] g
 |.ix a _=>rn.x bor k a g
 |.blt _ l=>xArgs rn bor k l g
 |.call f l=>match xArgs rn bor k l g with
  |some r=>some r
  |none=>match fns[f]?,k with
   |some fx,k'+1=>match argsR rn bor k l g with
    |some (rs,g1)=>kU rn fx k' rs g1
    |none=>none
   |_,_=>none
 |_=>none
def oY(e:Ex)(g:G):Option (Nat×G):=match e with
 |.not a=>rn.xt bor k a g
 |.call f l=>rn.x bor k (.call f l) g
 |.blt b l=>rn.x bor k (.blt b l) g
 |_=>none
def dO(T:Tg)(b:G->Option (Fl×G))(x:G->Option (Nat×G)):List D->G->Option (Nat×G)
 | [],_=>none
 |d::l,g=>match T.set d g with
  |none=>none
  |some g0=>match x g0 with
   |some r=>some r
   |none=>match b g0 with
    |some (.nx,g1)=>dO T b x l g1
    |some (.ct,g1)=>dO T b x l g1
    |_=>none
noncomputable def bx(st:Sm)(g:G):Option (Nat×G):=match st with
 |.ret e=>rn.x bor k e g
 |.expr e=>rn.x bor k e g
 |.set _ e=>rn.x bor k e g
 |.ite c a b=>match rn.xt bor k c g with
  |some r=>some r
  |none=>match rn.t bor k c g with
   |some (true,g1)=>rn.xb bor k a g1
   |some (false,g1)=>rn.xb bor k b g1
   |none=>none
 |.raise ci e=>match gA rn bor k e g with |some (_,g1)=>some (ci,g1) |none=>none
 |.loop T it b=>if T.ix.any (λi=>decide (i∈bor))=true then none else match eW rn bor k T.cY it g with
  |some (aj,g1)=>dO T (rn.b bor k b) (rn.xb bor k b) aj g1
  |none=>xW rn bor k it g
 |_=>none
def bT:List Sm->G->Option (Nat×G)
 | [],_=>none
 |st::rest,g=>match bx rn bor k st g with
  |some r=>some r
  |none=>match aC rn bor k st g with
   |some (.nx,g1)=>bT rest g1
   |_=>none
end
def step(fns:List Fx)(rn:Rn):Rn:=⟨λbor k e g=>aR rn bor k fns e g,λbor k e g=>stepT rn bor k e g,λbor k l g=>bW rn bor k l g,λbor k e g=>qQ rn bor k fns e g,λbor k e g=>oY rn bor k e g,λbor k l g=>bT rn bor k l g⟩
noncomputable def rn0:Rn:=⟨λ_ _ _ _=>none,λ_ _ _ _=>none,λ_ _ _ _=>none,λ_ _ _ _=>none,λ_ _ _ _=>none,λ_ _ _ _=>none⟩
def run(fns:List Fx):Nat->Rn
 | 0=>rn0
 |n+1=>step fns (run fns n)
structure Ct where
 N:List Str
 sc:Scope
 df:Bool
 q:Str
structure Fi where
 name:Str
 qual:Str
 st:Stmt
 N:List Str
 ps:List Str
structure Pg where
 fn:List Fi
 ct:List (Str×D)
 bn:List Str
 cls:List Str:=[]
 lam:Bool:=false
 jy:List Addr:=[]
 kt:Str:=Str.empty
 ups:List (Str×List (Addr×Bool)):=[]
def Aj(K:Frag)(mg:Str->Option Value)(n:Str)(bh:Value):Prop:=
 ∃c q,bh=.ref c/\(∀b:Heap,K.In b->PySem.W.CodeHd b c q)/\(q,j8 n)∈bS K/\(∀b:Heap,K.In b->b.BuiltinsAt mg q)/\mainGlobals≠q/\∀p∈bS K,p.1=q->p.2=j8 n
structure oZ(P:Pg)(K:Frag)(mg:Str->Option Value):Prop where
 fn:∀(i:Nat) (fi:Fi),P.fn[i]?=some fi->∃f fd,mg fi.name=some (.ref f)/\Eo K fi.name fi.qual fi.st f fd/\bE fi.N fi.ps (aD fi.st)/\L2.Binds K fd fi.ps []/\(fi.name==(~~~3))=false
 ct:∀(x:Str) (d:D),(x,d)∈P.ct->(x==(~~~3))=false/\∃v u,mg x=some u/\RelV v u/\∀M H,Rep K M H d v
 bn:∀x∈P.bn,mg x=none
 cls:∀x∈P.cls,(x==(~~~3))=false/\∃C,mg x=some (.ref C)/\dz K C
 lam:P.lam=true->∀n∈gG,∀bh,PySem.W.codeIn K bh n=true->Aj K mg n bh
 jy:∀(i:Nat) (C:Addr),P.jy[i]?=some C->∃x,P.cls[i]?=some x/\mg x=some (.ref C)/\dz K C/\Dq K C
 kt:P.lam=true->(P.kt==(~~~3))=false/\∃D,mg P.kt=some (.ref D)/\dz K D/\∀C∈P.jy,qK K C D=true
 ups:∀(x:Str) (l:List (Addr×Bool)),(x,l)∈P.ups->(x==(~~~3))=false/\∃cv,((mg x=some cv/\∃D,cv=.ref D)\/(x∈P.bn/\x≠ "__name__" /\bootBuiltins x=some cv/\∃n,cv=.type n))/\PySem.W.kitOne K (.type "NoneType") cv=some false/\∀C b,l.lookup C=some b->PySem.W.kitOne K (.ref C) cv=some b
structure aW(P:Pg)(k:Nat)(X:Cx)(c:Ct):Prop where
 N:X.N=c.N
 nd:c.N.Nodup
 W9:∀x,c.sc.names.lookup x=some .local->X.env.scope.names.lookup x=some .local
 o7:∀x,c.sc.names.lookup x=some .globalImplicit->Gl X x
 Y8:∀x,c.sc.names.lookup x=some .cell\/c.sc.names.lookup x=some .free->X.env.scope.names.lookup x=some .cell\/X.env.scope.names.lookup x=some .free
 cel:c.df=true->∀x,c.sc.names.lookup x=some .cell->X.env.scope.names.lookup x=some .cell
 fn:∀x,c.df=true\/c.sc.names.lookup x=some .local->X.fn x=true
 bk:c.df=true->X.env.blockKind=.function
 calm:X.calm=true
 xe:X.xe=λ_ _=>False
 md:oZ P X.K X.mg
 room:bK k X.A
 lam:c.q∈gG->P.lam=true->X.env.qual ++ "<lambda>"=j8 c.q/\Aj X.K X.mg c.q X.env.code
noncomputable def xh(sc:Scope)(x:Str):Bool:=match sc.names.lookup x with |some .local=>true |some .cell=>true |some .free=>true |_=>false
noncomputable def jo(c:Ct)(x:Str):Bool:=match c.sc.names.lookup x with |some .local=>true |some .cell=>c.df |_=>false
noncomputable def fU(x:Str):Bool:=!(x==(~~~3))&&!(x==("__classdict__":Str))
section
theorem aW.vis(h:aW P k X c)(hv:xh c.sc x=true):rZ X.env.scope x:=by
 unfold xh at hv;split at hv
 . rename_i e;exact .inl (h.W9 x e)
 . rename_i e;exact (h.Y8 x (.inl e)).elim (λq=>.inr (.inl q)) λq=>.inr (.inr q)
 . rename_i e;exact (h.Y8 x (.inr e)).elim (λq=>.inr (.inl q)) λq=>.inr (.inr q)
 . cases hv
theorem aW.nm(h:aW P k X c)(hi:c.N[i]?=some x)(hs:jo c x=true):FG X x i:=by
 refine⟨h.N▸h.nd,by rw[h.N];exact hi,?_,.inl (h.fn x ?_)⟩
 .
  unfold jo at hs;split at hs
  . rename_i e;exact .inl (h.W9 x e)
  . rename_i e;exact .inr (h.cel hs x e)
  . cases hs
 .
  unfold jo at hs;split at hs
  . rename_i e;exact .inr e
  . exact .inl hs
  . cases hs
theorem dP(h:fU x=true):(x==(~~~3))=false/\(x==("__classdict__":Str))=false:=by unfold fU at h;simp only[eQ,Bool.not_eq_true']at h;exact h
theorem bO{α:Type}{f:Int->Int->Option α}{a b:D}{r:α}(h:iP f a b=some r):∃i j,a=.int i/\b=.int j/\f i j=some r:=by
 unfold iP at h;left
 .
  left
  . exact⟨_,_,rfl,rfl,h⟩
  . symm
 . symm
theorem GZ{d1 d2:D}{r:R}(hK:z.K=X.K)(h:Ol d1 d2=some r):lV X z (binaryOp .Add) d1 d2 r:=by
 unfold Ol at h;left
 .
  left
  . symm;exact uJ Lp
  . symm
 .
  left
  .
   left
   . rename_i hc;symm;exact Mz hc
   . symm
  . symm
 .
  left
  .
   left
   . rename_i hc;symm;exact Fo hK hc
   . symm
  . symm
 . symm
theorem Ak:jB X (binaryOp .FloorDiv) (rI (λ_ j=>0<j/\j<18446744073709551616) λi j=>.int (i / j)):=Sf λi j _ _ _ _ _ hc q=>by
 have h1:0<j/\j<18446744073709551616:=hc;refine floordiv_int ⋯ (by rw[Int.fdiv_eq_ediv_of_nonneg i ⋯];exact q) (.inl (PyProof.noPylong_of_log2 ?_))
 have h2:j.natAbs.log2<64:=(Nat.log2_lt ⋯).mpr (by show _<18446744073709551616;lia)
 lia
theorem G0:jB X (binaryOp .Mult) (rI (λi j=>i.natAbs<2 ^ 20000/\j.natAbs<2 ^ 20000) λi j=>.int (i * j)):=Sf λ_ _ _ _ _ _ _ hc q=>mul_int q (IntMulOk.of_le (intBits_le_iff.mpr hc.1) (intBits_le_iff.mpr hc.2) ⋯)
theorem G3{d1:D}{k:Int}{r:R}(hK:z.K=X.K)(h:w6 d1 k=some r):lV X z (binaryOp .Mult) d1 (.int k) r:=by
 unfold w6 at h;left
 .
  left
  . rename_i hc;symm;refine kr Lr ?_;unfold GQ at hc;simp only[AL,eQ,kS]at hc;exact hc
  .
   left
   . rename_i hc;symm;unfold GR at hc;simp only[eQ,kS]at hc;exact kr G0 hc
   . symm
 .
  left
  . rename_i hc;symm;exact MF hc.1 hc.2.1 hc.2.2
  . symm
 . symm
theorem Oq(hK:z.K=X.K)(h:fB op d1 d2=some r):lV X z (binaryOp op) d1 d2 r:=by
 cases op with
 |Add=>exact GZ hK h
 |Sub=>obtain⟨i,j,rfl,rfl,h'⟩:=bO h;cases h';exact uJ Lq
 |Mult=>
  dsimp only[fB]at h;left
  . exact G3 hK h
  . symm
 |FloorDiv=>
  obtain⟨i,j,rfl,rfl,h'⟩:=bO h;split at h'
  . rename_i hc;cases h';exact kr Ak hc
  . cases h'
 |Mod=>
  obtain⟨i,j,rfl,rfl,h'⟩:=bO h;split at h'
  . rename_i hc;cases h';exact kr Ls hc
  . cases h'
 |Pow=>
  obtain⟨i,j,rfl,rfl,h'⟩:=bO h;split at h'
  . rename_i hc;cases h';exact kr oh ⟨hc.1,by have:=hc.2.1;lia,hc.2.2⟩
  . cases h'
 |LShift=>
  obtain⟨i,j,rfl,rfl,h'⟩:=bO h;split at h'
  . rename_i hc;cases h';exact Oi hc.1 (by have:=hc.2.1;lia) hc.2.2
  . cases h'
 |_=>symm
theorem kW(hK:z.K=X.K)(hr:bK k X.A)(h:gS op d1 d2=some b):lV X z (compareOp op) d1 d2 (.dat (.bl b)):=by
 have hu:=hr.un;cases op with
 |Eq=>
  dsimp only[gS]at h;left
  . rename_i hc;symm;simp only[iQ,eQ]at hc;exact Tv hK hc.1.1 hc.1.2 (by have:=hc.2;lia)
  . symm
 |NotEq=>
  dsimp only[gS]at h;left
  . rename_i hc;symm;simp only[iQ,eQ]at hc;exact Tz hK hc.1.1 hc.1.2 (by have:=hc.2;lia)
  . symm
 |Lt=>
  dsimp only[gS,ltF]at h;left
  .
   left
   . symm;exact oG Si
   . symm
  . symm
 |LtE=>obtain⟨i,j,rfl,rfl,h'⟩:=bO h;cases h';exact oG Sj
 |Gt=>obtain⟨i,j,rfl,rfl,h'⟩:=bO h;cases h';exact oG Sl
 |GtE=>obtain⟨i,j,rfl,rfl,h'⟩:=bO h;cases h';exact oG Sq
 |_=>symm
theorem Ot(hK:z.K=X.K)(hr:X.A.units+1<cLine)(h:Ro d1 d2=some d):Q9 X z d1 d2 (.dat d):=by
 unfold Ro at h;left
 . exact MK hK h
 . exact MN hK h
 . exact Fp hK h
 .
  left
  . rename_i e;exact Oh hK hr e h
  . symm
 . symm
noncomputable def Xa:Bl->Str×Value
 |.len=>("len",.builtin "len")
 |.list=>("list",.type "list")
 |.tuple=>("tuple",.type "tuple")
 |.max=>("max",.builtin "max")
 |.min=>("min",.builtin "min")
 |.str=>("str",.type "str")
 |.all=>("all",.builtin "all")
 |.any=>("any",.builtin "any")
 |.int=>("int",.type "int")
 |.sorted=>("sorted",.builtin "sorted")
 |.sum=>("sum",.builtin "sum")
theorem Ou{b:Bl}{d:D}{r:R}(hK:z.K=X.K)(hc:X.calm=true)(hr:X.A.units+6<cLine)(h:Rp b d=some r):CallD X z (Xa b).2 [d] r:=by
 cases b <;> dsimp only[Rp]at h
 case len=>
  left
  . rename_i e;symm;exact MT hK e
  . symm
 case list=>
  left
  . rename_i e;symm;exact Fq hK e
  . symm
 case tuple=>
  left
  . rename_i e;symm;exact zb hK e
  . symm
 case min=>
  left
  .
   rename_i e1;left
   . rename_i e2;symm;exact Gq hc hK e1 e2
   . symm
  . symm
 case all=>
  left
  .
   left
   . rename_i e;symm;exact M9 hc e
   . symm
  . symm
 case sorted=>
  left
  .
   rename_i e1;left
   .
    rename_i e2;left
    . rename_i e3;symm;exact wH hK e1 e2 e3
    . symm
   . symm
  . symm
 all_goals symm
theorem Ov{b:Bl}{ds:List D}{r:R}(hK:z.K=X.K)(hc:X.calm=true)(hr:X.A.units+6<cLine)(h:mq b ds=some r):CallD X z (Xa b).2 ds r:=by
 unfold mq at h;left
 . exact Ou hK hc hr h
 .
  cases b with
  |max=>obtain⟨i,j,rfl,rfl,h'⟩:=bO h;cases h';exact M7 hc
  |min=>obtain⟨i,j,rfl,rfl,h'⟩:=bO h;cases h';exact M8 hc
  |_=>symm
 . symm
noncomputable def o8:List String:=["int", "bool", "str", "tuple", "list", "dict"]
theorem qR{K:Frag}{M:List Addr}{H:Hp}{v:V}{d:D}(p:Pk K M H d v){n:String}(hn:n∈o8):PySem.W.kitOne K (x9 d) (.type n)=some (dD (lQ d) n):=by
 cases d with
 |jE C=>
  cases p with
  |of q=>
   cases q with
   |jE k _ _=>refine (k.kit n hn).trans ?_;unfold o8 at hn;simp only[b0,i6,Ap]at hn;rcases hn with rfl |rfl |rfl |rfl |rfl |rfl <;> first |rfl |decide
 |_=>unfold o8 at hn;simp only[b0,i6,Ap]at hn;rcases hn with rfl |rfl |rfl |rfl |rfl |rfl <;> first |rfl |decide
theorem nI{K:Frag}{M:List Addr}{H:Hp}{v:V}{d:D}(p:Pk K M H d v):∀{ns:List String},(∀n∈ns,n∈o8)->PySem.W.kitAny K (x9 d) (ns.map Value.type)=some (ns.any (dD (lQ d)))
 | [],_=>rfl
 |n::ns,h=>by
  show (match PySem.W.kitOne K (x9 d) (.type n)with |some true=>some true |some false=>PySem.W.kitAny K (x9 d) (ns.map Value.type) |none=>none)=_
  rw[qR p (h n dA),nI p λm hm=>h m (a8 _ hm),List.any_cons]
  cases dD (lQ d) n <;> rfl
end
noncomputable def xm(sc scope:Scope):Bool:=decide (scope.kind=.function)&&scope.names.all λy=>decide (y.2≠.cell)&&(decide (y.2≠.local)||decide (scope.names.lookup y.1=some .local)) &&
 (decide (y.2≠.free)||(decide (scope.names.lookup y.1=some .free)&&(decide (sc.names.lookup y.1=some .cell)||decide (sc.names.lookup y.1=some .free))))
noncomputable def o9(N N':List Str)(scope:Scope)(k:Nat):Bool:=decide (N'.length=N.length+(k+1))&&(match N'[N.length+k]? with |some x=>decide (scope.names.lookup x=none) |none=>true) &&
 (List.range N.length).all λi=>match N'[i]? with |some x=>decide (scope.names.lookup x=none)||(decide (N[i]?=some x)&&decide (scope.names.lookup x≠some .local)) |none=>true
inductive xq(c:Ct):List Expr->List Nat->Prop
 |nil:xq c [] []
 |cons {x:Str}{i:Nat}{pos:Pos}{es:List Expr}{is:List Nat}:c.N[i]?=some x->jo c x=true->xq c es is->xq c (.Name x pos::es) (i::is)
inductive xr(P:Pg)(c:Ct):List Expr->List String->Prop
 |nil:xr P c [] []
 |cons {T:Str}{n:String}{pos:Pos}{es:List Expr}{ns:List String}:T∈P.bn->c.sc.names.lookup T=some .globalImplicit->T=Str.ofString n->n∈o8->xr P c es ns->xr P c (.Name T pos::es) (n::ns)
inductive Ow(c:Ct):Expr->Tg->Prop
 |nm:c.N[i]?=some x->jo c x=true->Ow c (.Name x pos) (.nm i)
 |tp:xq c es is->Ow c (.Tuple es k pos) (.tp is)
noncomputable def Uw(c:Ct)(y:Str)(py pos:Pos)(scope:Scope):Bool:=(c.sc.names.lookup y==some .local)&&py.line==pos.line&&!(scope.names.any λ(n,k)=>n==y&&(k==.local||k==.cell))
inductive sY(R:Expr->Ex->Prop):List Expr->List Ex->Prop
 |nil:sY R [] []
 |cons {e:Expr}{es:List Expr}{x:Ex}{xs:List Ex}:R e x->sY R es xs->sY R (e::es) (x::xs)
inductive G4(R:Expr->Ex->Prop):Option Expr->Option Ex->Prop
 |none:G4 R Option.none Option.none
 |some {e:Expr}{x:Ex}:R e x->G4 R (Option.some e) (Option.some x)
inductive uS(R:Expr->Ex->Prop):List Expr->Option Ex->Prop
 |none:uS R [] Option.none
 |some {e:Expr}{x:Ex}:R e x->uS R [e] (Option.some x)
inductive mz(P:Pg)(R:Expr->Ex->Prop)(c:Ct):Expr->Ex->Prop
 |seq:R e x->mz P R c e x
 |dB:R a xa->("range":Str)∈P.bn->c.sc.names.lookup ("range":Str)=some .globalImplicit->mz P R c (.Call (.Name "range" p) [a] [] pos) (.dB xa)
 |iN:R a xa->R b xb->("range":Str)∈P.bn->c.sc.names.lookup ("range":Str)=some .globalImplicit->mz P R c (.Call (.Name "range" p) [a,b] [] pos) (.iN xa xb)
 |zip:R a xa->R b xb->("zip":Str)∈P.bn->c.sc.names.lookup ("zip":Str)=some .globalImplicit->mz P R c (.Call (.Name "zip" p) [a,b] [] pos) (.zip xa xb)
 |dM {a:Expr}{xa:Ex}{p pos kp kpos:Pos}{j:Nat}:R a xa->("enumerate":Str)∈P.bn->c.sc.names.lookup ("enumerate":Str)=some .globalImplicit->mz P R c (.Call (.Name "enumerate" p) [a] [⟨some "start",.Constant (.int 1) j kp,kpos⟩] pos) (.dM xa)
 |enum:R a xa->("enumerate":Str)∈P.bn->c.sc.names.lookup ("enumerate":Str)=some .globalImplicit->mz P R c (.Call (.Name "enumerate" p) [a] [] pos) (.enum xa)
noncomputable def uT(e:Expr):Option Str:=match e with |.Name x _=>some x |_=>none
theorem kX{e:Expr}{x:Str}(h:uT e=some x):∃p,e=.Name x p:=by cases e <;> first | (symm;exact⟨_,rfl⟩) |symm
noncomputable def Al{α:Type}(l:List α):Option α:=match l with | [a]=>some a |_=>none
theorem jQ{α:Type}{l:List α}{a:α}(h:Al l=some a):l=[a]:=by
 cases l with
 |nil=>symm
 |cons b l=>cases l with
  |nil=>symm;rfl
  |cons _ _=>symm
noncomputable def Ux(s:Stmt):Option (List Expr×Expr):=match s with |.Assign ts e _=>some (ts,e) |_=>none
theorem G5{s:Stmt}{r:List Expr×Expr}(h:Ux s=some r):∃p,s=.Assign r.1 r.2 p:=by cases s <;> first | (symm;exact⟨_,rfl⟩) |symm
noncomputable def Uy(e:Expr):Option Const:=match e with |.Constant c _ _=>some c |_=>none
theorem G6(h:Uy e=some c):∃j p,e=.Constant c j p:=by cases e <;> first | (symm;exact⟨_,_,rfl⟩) |symm
noncomputable def Uz(c:Const):Option Unit:=match c with |.none=>some () |_=>none
theorem G7(h:Uz c=some ()):c=.none:=by cases c <;> first |rfl |symm
noncomputable def UG(s:Stmt):Option Expr:=match s with |.Expr e _=>some e |_=>none
theorem G8{s:Stmt}{e:Expr}(h:UG s=some e):∃p,s=.Expr e p:=by cases s <;> first | (symm;exact⟨_,rfl⟩) |symm
noncomputable def UJ(e:Expr):Option (Expr×List Expr×List Keyword):=match e with |.Call f as ks _=>some (f,as,ks) |_=>none
theorem G9{e:Expr}{r:Expr×List Expr×List Keyword}(h:UJ e=some r):∃p,e=.Call r.1 r.2.1 r.2.2 p:=by cases e <;> first | (symm;exact⟨_,rfl⟩) |symm
noncomputable def UL(s:Stmt):Option (List Stmt×List ExceptHandler×List Stmt×List Stmt):=match s with |.Try b h o f _=>some (b,h,o,f) |_=>none
theorem Hf{s:Stmt}{r:List Stmt×List ExceptHandler×List Stmt×List Stmt}(h:UL s=some r):∃p,s=.Try r.1 r.2.1 r.2.2.1 r.2.2.2 p:=by cases s <;> first | (symm;exact⟨_,rfl⟩) |symm
noncomputable def Am{α:Type}(l:List α):Option Unit:=match l with | []=>some () |_=>none
theorem jR{α:Type}{l:List α}(h:Am l=some ()):l=[]:=by cases l with |nil=>rfl |cons _ _=>symm
noncomputable def UT(h:ExceptHandler):Option (Expr×Str×List Stmt):=match h with |.ExceptHandler t n b _=>t.bind λt=>n.bind λn=>some (t,n,b)
theorem Hg{h:ExceptHandler}{r:Expr×Str×List Stmt}(e:UT h=some r):∃p,h=.ExceptHandler (some r.1) (some r.2.1) r.2.2 p:=by
 obtain⟨t,n,b,p⟩:=h;cases t with
 |none=>cases e
 |some t=>cases n with
  |none=>cases e
  |some n=>cases e;exact⟨p,rfl⟩
def uU(s:Stmt):Option (Str×Expr):=(Ux s).bind λr=>(Al r.1).bind λt=>(uT t).bind λx=>some (x,r.2)
theorem qT{s:Stmt}{r:Str×Expr}(h:uU s=some r):∃p q,s=.Assign [.Name r.1 p] r.2 q:=by unfold uU at h;simp only[d6]at h;obtain⟨⟨ts,e⟩,h1,t,h2,x,h3,h4⟩:=h;cases h4;obtain⟨p,rfl⟩:=G5 h1;obtain⟨q,rfl⟩:=kX h3;have:=jQ h2;subst this;exact⟨q,p,rfl⟩
def Ox(l:List Stmt):Option Str:=(Al l).bind λs3=>(UG s3).bind λce=>(UJ ce).bind λf=>(Am f.2.1).bind λ_=>(Am f.2.2).bind λ_=>uT f.1
theorem Hi{l:List Stmt}{y:Str}(h:Ox l=some y):∃py cp ep,l=[.Expr (.Call (.Name y py) [] [] cp) ep]:=by replace h:=d6.1 h;obtain⟨s3,h1,h⟩:=h;cases jQ h1;clear h1;replace h:=d6.1 h;obtain⟨ce,h1,h⟩:=h;obtain⟨p,e1⟩:=G8 h1;cases e1;clear h1;replace h:=d6.1 h;obtain⟨⟨f1,f2,f3⟩,h1,h⟩:=h;obtain⟨q,e1⟩:=G9 h1;cases e1;clear h1;replace h:=d6.1 h;obtain⟨_,h1,h⟩:=h;replace h:=d6.1 h;obtain⟨_,h2,h⟩:=h;obtain⟨r,e1⟩:=kX h;exact⟨r,q,p,by have a:=jR h1;have b:=jR h2;dsimp only at a b e1 ⊢;rw[a,b,e1]⟩
def Oz(l:List ExceptHandler):Option (Str×Str×Str×Str):=(Al l).bind λhh=>(UT hh).bind λu=>(uT u.1).bind λke=>(Al u.2.2).bind λs4=>(uU s4).bind λb=>(uT b.2).bind λRr=>some (ke,u.2.1,b.1,Rr)
theorem Hj{l:List ExceptHandler}{r:Str×Str×Str×Str}(h:Oz l=some r):∃kp qM qL ap hp,l=[.ExceptHandler (some (.Name r.1 kp)) (some r.2.1) [.Assign [.Name r.2.2.1 qM] (.Name r.2.2.2 qL) ap] hp]:=by replace h:=d6.1 h;obtain⟨hh,h1,h⟩:=h;cases jQ h1;clear h1;replace h:=d6.1 h;obtain⟨⟨u1,u2,u3⟩,h1,h⟩:=h;obtain⟨p,e1⟩:=Hg h1;cases e1;clear h1;replace h:=d6.1 h;obtain⟨ke,h1,h⟩:=h;obtain⟨q,e1⟩:=kX h1;cases e1;clear h1;replace h:=d6.1 h;obtain⟨s4,h1,h⟩:=h;cases jQ h1;clear h1;replace h:=d6.1 h;obtain⟨⟨b1,b2⟩,h1,h⟩:=h;obtain⟨m,n,e1⟩:=qT h1;cases e1;clear h1;replace h:=d6.1 h;obtain⟨en,h1,h⟩:=h;obtain⟨o,e1⟩:=kX h1;cases e1;clear h1;symm;exact⟨q,m,o,n,p,rfl⟩
def UW(s:Stmt):Option Str:=(uU s).bind λa=>(Uy a.2).bind λc=>(Uz c).bind λ_=>some a.1
theorem Hl(h:UW s=some x):∃p j np ap,s=.Assign [.Name x p] (.Constant .none j np) ap:=by replace h:=d6.1 h;obtain⟨⟨a1,a2⟩,h1,h⟩:=h;obtain⟨p,q,e1⟩:=qT h1;cases e1;clear h1;replace h:=d6.1 h;obtain⟨c,h1,h⟩:=h;obtain⟨j,m,e1⟩:=G6 h1;cases e1;clear h1;replace h:=d6.1 h;obtain⟨_,h1,h⟩:=h;cases G7 h1;clear h1;symm;exact⟨p,j,m,q,rfl⟩
def U0(s:Stmt):Option (Str×Str×Str×Str×Str):=(UL s).bind λt=>(Am t.2.2.1).bind λ_=>(Am t.2.2.2).bind λ_=>(Ox t.1).bind λy=>(Oz t.2.1).bind λu=>some (y,u)
theorem Ho{s:Stmt}{r:Str×Str×Str×Str×Str}(h:U0 s=some r):∃l hs p,Ox l=some r.1/\Oz hs=some r.2/\s=.Try l hs [] [] p:=by replace h:=d6.1 h;obtain⟨⟨t1,t2,t3,t4⟩,h1,h⟩:=h;obtain⟨p,e1⟩:=Hf h1;cases e1;clear h1;replace h:=d6.1 h;obtain⟨_,h1,h⟩:=h;cases jR h1;clear h1;replace h:=d6.1 h;obtain⟨_,h1,h⟩:=h;cases jR h1;clear h1;replace h:=d6.1 h;obtain⟨y,h1,h⟩:=h;replace h:=d6.1 h;obtain⟨u,h2,h⟩:=h;symm;exact⟨t1,t2,p,h1,h2,rfl⟩
def OD(l:List Stmt):Option (Str×Str×Str×Str×Str×Str):=match l with
 |s1::s2::_=>(UW s1).bind λa=>(U0 s2).bind λt=>some (a,t)
 |_=>none
theorem Hq(h:OD l=some (er,y,ke,en,Hr,Rr)):∃wW j np Rk py cC lN kp qM qL d8 lO jw rest,l=.Assign [.Name er wW] (.Constant .none j np) Rk::.Try [.Expr (.Call (.Name y py) [] [] cC) lN] [.ExceptHandler (some (.Name ke kp)) (some en) [.Assign [.Name Hr qM] (.Name Rr qL) d8] lO] [] [] jw::rest:=by
 unfold OD at h;left
 . replace h:=d6.1 h;obtain⟨a,h1,h⟩:=h;replace h:=d6.1 h;obtain⟨t,h2,h⟩:=h;symm;obtain⟨p,j,np,ap,e1⟩:=Hl h1;obtain⟨l,hs,tp,h3,h4,e2⟩:=Ho h2;obtain⟨py,cp,ep,e3⟩:=Hi h3;obtain⟨kp,qM,qL,ap',hp,e4⟩:=Hj h4;exact⟨p,j,np,ap,py,cp,ep,kp,qM,qL,ap',hp,tp,_,by rw[e1,e2,e3,e4]⟩
 . symm
def Hs(fi:Fi)(ir:Nat)(kt:Str):Bool:=match OD (aU fi.st)with
 |some (er,y,ke,en,Hr,Rr)=>decide ((ke=kt/\Hr=er/\Rr=en/\fi.ps=[y])/\((aD fi.st).names.lookup ke=some .globalImplicit/\fi.N[fi.N.idxOf en]?=some en/\(aD fi.st).names.lookup en=some .local)/\(fi.N[ir]?=some er/\fi.N[0]?=some y)/\(fi.N.idxOf en≠ir/\fi.N.idxOf en≠0/\ir≠0))&&((fU en&&fU y)&&(xh (aD fi.st) y&&jo ⟨fi.N,aD fi.st,true,fi.qual⟩ er))
 |none=>false
noncomputable def Ao(params:Arguments)(scope:Scope):Bool:=(!scope.isCoroutine&&!scope.isGenerator)&&(decide (scope.kind=.function)&&((scope.names.all λy=>decide (y.2≠.cell)&&decide (y.2≠.local))&&((params.posonlyargs.isEmpty&&params.args.isEmpty)&&(params.vararg.isNone&&(params.kwonlyargs.isEmpty&&(params.kw_defaults.isEmpty&&(params.kwarg.isNone&&params.defaults.isEmpty)))))))
theorem uV(h:Ao params scope=true):kO params scope:=by obtain⟨a,b,c,d,e,f,g⟩:=params;simp only[Ao,eQ,Bool.not_eq_true',kS,i5,List.isEmpty_iff,Option.isNone_iff_eq_none]at h;obtain⟨h,h1,h2,⟨rfl,rfl⟩,rfl,rfl,rfl,rfl,rfl⟩:=h;exact⟨h.1,h.2,h1,λx hx=>(h2 x hx).1,λx hx=>(h2 x hx).2,rfl⟩
abbrev p0:Pos:=⟨0,0,0,0⟩
inductive Xc(P:Pg)(R:Expr->Ex->Prop)(RS:Stmt->Sm->Prop)(c:Ct):List Stmt->Sm->Prop
inductive sZ(RG:List Stmt->Sm->Prop)(RS:Stmt->Sm->Prop):List Stmt->List Sm->Prop
 |nil:sZ RG RS [] []
 |grp {ss rest:List Stmt}{x:Sm}{xs:List Sm}:RG ss x->sZ RG RS rest xs->sZ RG RS (ss++rest) (x::xs)
 |cons {s:Stmt}{ss:List Stmt}{x:Sm}{xs:List Sm}:RS s x->sZ RG RS ss xs->sZ RG RS (s::ss) (x::xs)
noncomputable def tD(k:Scope->Pos->Bool)(e:Expr):Bool:=match e with |.ListComp _ _ s p=>k s p |.DictComp ..=>true |_=>false
theorem ak{a b:Bool}(h:(a&&b)=true):a=true/\b=true:=by cases a <;> cases b <;> first |exact⟨rfl,rfl⟩ |symm
theorem dec{p:Prop} [Decidable p] (h:decide p=true):p:=mE h
theorem gU(h:(!b)=true):b=false:=by cases b <;> first |rfl |symm
theorem Aq{α:Type}{l:List α}(h:l.isEmpty=true):l=[]:=by cases l with |nil=>rfl |cons _ _=>symm
theorem two{α:Type}{l:List α}(h:2<=l.length):∃a b m,l=a::b::m:=by
 cases l with
 |nil=>exact absurd h (AB 1)
 |cons a l=>cases l with
  |nil=>exact absurd h (Nat.not_succ_le_self 1)
  |cons b m=>exact⟨a,b,m,rfl⟩
noncomputable def Rt(c:Ct)(x:Str):Bool:=decide (c.sc.names.lookup x=some .globalImplicit)
def yi(P:Pg)(c:Ct)(x:Str):Bool:=P.bn.contains x&&Rt c x
theorem aN(h:yi P c x=true):x∈P.bn/\c.sc.names.lookup x=some .globalImplicit:=⟨An.mp (ak h).1,dec (ak h).2⟩
noncomputable def nm(c:Ct)(i:Nat):Str:=c.N.getD i Str.empty
def Ar(c:Ct)(i:Nat):Bool:=decide (c.N[i]?=some (nm c i))&&(xh c.sc (nm c i)&&fU (nm c i))
def stB(c:Ct)(i:Nat):Bool:=decide (c.N[i]?=some (nm c i))&&jo c (nm c i)
theorem jI(h:Ar c i=true):c.N[i]?=some (nm c i)/\xh c.sc (nm c i)=true/\fU (nm c i)=true:=⟨dec (ak h).1,(ak (ak h).2).1,(ak (ak h).2).2⟩
def bang(x:Str):Str:=⟨x.cps.push 33⟩
def U1(n:Nat):Str:=⟨(List.replicate n 33).toArray⟩
noncomputable def Au(scope:Scope):List Str:=scope.names.filterMap λy=>if y.2==.local then some y.1 else none
def qU(N:List Str)(scope:Scope):List Str:=(N.map λy=>if scope.names.lookup y==some .local then bang y else y)++Au scope++[U1 (N.length+1)]
noncomputable def tE:List Str->Bool
 | []=>true
 |x::l=>!l.contains x&&tE l
theorem nJ:∀{l:List Str},tE l=true->l.Nodup
 | [],_=>yA
 |x::l,h=>by
  refine eR.mpr ⟨λhm=>?_,nJ (ak h).2⟩
  have:=(ak h).1;rw[An.mpr hm]at this;cases this
noncomputable def kids(e:Expr):List Expr:=match e with
 |.BoolOp _ vs _=>vs
 |.BinOp a _ b _=>[a,b]
 |.UnaryOp _ a _=>[a]
 |.Lambda _ b _ _=>[b]
 |.IfExp t a b _=>[t,a,b]
 |.ListComp e gs _ _=>e::gs.flatMap λg=>g.target::g.iter::g.ifs
 |.DictComp e v gs _ _=>e::v::gs.flatMap λg=>g.target::g.iter::g.ifs
 |.Compare a _ bs _=>a::bs
 |.Call f as ks _=>f::(as++ks.map (·.value))
 |.FormattedValue v _ _ _=>[v]
 |.JoinedStr vs _=>vs
 |.Attribute v _ _=>[v]
 |.Subscript a b _=>[a,b]
 |.List es _=>es
 |.Tuple es _ _=>es
 |.Slice a b s p=>[a.getD (.Name Str.empty p),b.getD (.Name Str.empty p),s.getD (.Name Str.empty p)]
 |_=>[]
def kid(e:Expr)(i:Nat):Expr:=(kids e).getD i e
noncomputable def Av(e:Expr):Nat:=match e with |.Constant _ k _=>k |.Tuple _ k _=>k |_=>0
noncomputable def gB(e:Expr):Scope:=match e with |.Lambda _ _ s _=>s |.ListComp _ _ s _=>s |.DictComp _ _ _ s _=>s |_=>aD (.Pass e.pos)
noncomputable def U3(e:Expr):Arguments:=match e with |.Lambda a _ _ _=>a |_=>default
noncomputable def opT(e:Expr):Operator:=match e with |.BinOp _ o _ _=>o |_=>.Add
noncomputable def kwT(e:Expr):Pos:=match e with |.Call _ _ ks _=>(match ks with |k::_=>k.pos |_=>e.pos) |_=>e.pos
def yj(c:Ct)(t:Expr):Ct:=⟨qU c.N (gB t),gB t,false,Str.empty⟩
def U4(c:Ct)(t:Expr):Ct:=⟨c.N,gB t,false,Str.empty⟩
noncomputable def qV(P:Pg)(i:Nat):Str:=match P.fn[i]? with |some fi=>fi.name |none=>Str.empty
theorem pq(h:P.fn[i]?.isSome=true):∃fi,P.fn[i]?=some fi/\fi.name=qV P i:=by
 unfold qV;cases e:P.fn[i]? with
 |none=>rw[e]at h;symm
 |some g=>exact⟨g,rfl,rfl⟩
section
variable{R:Expr->Ex->Prop}{s:Ex->Expr->Expr}{f:Ex->Expr->Bool}(hf:∀{x t},f x t=true->R (s x t) x)
include hf
noncomputable def gD(s:Ex->Expr->Expr)(t:Expr):Nat->List Ex->List Expr
 |_,[]=>[]
 |i,x::xs=>s x (kid t i)::gD s t (i+1) xs
noncomputable def Ht(f:Ex->Expr->Bool)(t:Expr):Nat->List Ex->Bool
 |_,[]=>true
 |i,x::xs=>f x (kid t i)&&Ht f t (i+1) xs
theorem bU(h:Ht f t i xs=true):sY R (gD s t i xs) xs:=by
 induction xs generalizing i with
 |nil=>exact .nil
 |cons x xs ih=>exact .cons (hf (ak h).1) (ih (ak h).2)
noncomputable def OJ(s:Ex->Expr->Expr)(t:Expr)(x:Option Ex):Option Expr:=match x with |some x=>some (s x t) |none=>none
noncomputable def U5(f:Ex->Expr->Bool)(t:Expr)(x:Option Ex):Bool:=match x with |some x=>f x t |none=>true
theorem Aw(h:U5 f t x=true):G4 R (OJ s t x) x:=by
 cases x with
 |none=>exact .none
 |some x=>exact .some (hf h)
noncomputable def O1(s:Ex->Expr->Expr)(t:Expr)(x:Option Ex):List Expr:=match x with |some x=>[s x t] |none=>[]
theorem O2(h:U5 f t x=true):uS R (O1 s t x) x:=by
 cases x with
 |none=>exact .none
 |some x=>exact .some (hf h)
end
noncomputable def Hu(s:Ex->Expr->Expr)(x:Ex)(t:Expr):Expr:=match x with
 |.dB a=>.Call (.Name "range" (kid t 0).pos) [s a (kid t 1)] [] t.pos
 |.iN a b=>.Call (.Name "range" (kid t 0).pos) [s a (kid t 1),s b (kid t 2)] [] t.pos
 |.zip a b=>.Call (.Name "zip" (kid t 0).pos) [s a (kid t 1),s b (kid t 2)] [] t.pos
 |.dM a=>.Call (.Name "enumerate" (kid t 0).pos) [s a (kid t 1)] [⟨some "start",.Constant (.int 1) (Av (kid t 2)) (kid t 2).pos,kwT t⟩] t.pos
 |.enum a=>.Call (.Name "enumerate" (kid t 0).pos) [s a (kid t 1)] [] t.pos
 |x=>s x t
def Y9(P:Pg)(c:Ct)(f:Ex->Expr->Bool)(x:Ex)(t:Expr):Bool:=match x with
 |.dB a=>yi P c "range" && f a (kid t 1)
 |.iN a b=>yi P c "range" && (f a (kid t 1)&&f b (kid t 2))
 |.zip a b=>yi P c "zip" && (f a (kid t 1)&&f b (kid t 2))
 |.dM a=>yi P c "enumerate" && f a (kid t 1)
 |.enum a=>yi P c "enumerate" && f a (kid t 1)
 |x=>f x t
theorem tF{P:Pg}{R:Expr->Ex->Prop}{s:Ex->Expr->Expr}{f:Ex->Expr->Bool}(hf:∀{x t},f x t=true->R (s x t) x){c:Ct}{x:Ex}{t:Expr}(h:Y9 P c f x t=true):mz P R c (Hu s x t) x:=by
 cases x
 case dB a=>exact .dB (hf (ak h).2) (aN (ak h).1).1 (aN (ak h).1).2
 case iN a b=>exact .iN (hf (ak (ak h).2).1) (hf (ak (ak h).2).2) (aN (ak h).1).1 (aN (ak h).1).2
 case zip a b=>exact .zip (hf (ak (ak h).2).1) (hf (ak (ak h).2).2) (aN (ak h).1).1 (aN (ak h).1).2
 case dM a=>exact .dM (hf (ak h).2) (aN (ak h).1).1 (aN (ak h).1).2
 case enum a=>exact .enum (hf (ak h).2) (aN (ak h).1).1 (aN (ak h).1).2
 all_goals exact .seq (hf h)
noncomputable def O4(t:Expr):Nat->List String->List Expr
 |_,[]=>[]
 |i,n::ns=>.Name (Str.ofString n) (kid t i).pos::O4 t (i+1) ns
def Za(P:Pg)(c:Ct):List String->Bool
 | []=>true
 |n::ns=>(o8.contains n&&yi P c (Str.ofString n))&&Za P c ns
theorem O5(h:Za P c ns=true):xr P c (O4 t i ns) ns:=by
 induction ns generalizing i with
 |nil=>exact .nil
 |cons n ns ih=>exact .cons (aN (ak (ak h).1).2).1 (aN (ak (ak h).1).2).2 rfl (An.mp (ak (ak h).1).1) (ih (ak h).2)
noncomputable def O6(c:Ct)(t:Expr):Nat->List Nat->List Expr
 |_,[]=>[]
 |j,i::is=>.Name (nm c i) (kid t j).pos::O6 c t (j+1) is
def okN(c:Ct):List Nat->Bool
 | []=>true
 |i::is=>stB c i&&okN c is
theorem O7(h:okN c is=true):xq c (O6 c t j is) is:=by
 induction is generalizing j with
 |nil=>exact .nil
 |cons i is ih=>exact .cons (dec (ak (ak h).1).1) (ak (ak h).1).2 (ih (ak h).2)
def Hv(c:Ct)(T:Tg)(t:Expr):Expr:=match T with
 |.nm i=>.Name (nm c i) t.pos
 |.tp is=>.Tuple (O6 c t 0 is) (Av t) t.pos
theorem tG(h:okN c T.ix=true):Ow c (Hv c T t) T:=by
 cases T with
 |nm i=>exact .nm (dec (ak (ak h).1).1) (ak (ak h).1).2
 |tp is=>exact .tp (O7 h)
noncomputable def O8(a b:D):Bool:=match a with |.int i=>(match b with |.int j=>decide (i=j) |_=>false) |_=>false
theorem Hw(h:O8 a b=true):a=b:=by
 cases a with
 |int i=>cases b with
  |int j=>exact congrArg D.int (dec (show decide (i=j)=true from h))
  |_=>exact nt h
 |_=>exact nt h
def Xd(y:Str)(d:D):List (Str×D)->Bool
 | []=>false
 |p::l=>(decide (p.1=y)&&O8 p.2 d)||Xd y d l
theorem O9(h:Xd y d l=true):(y,d)∈l:=by
 induction l with
 |nil=>symm
 |cons p l ih=>
  obtain⟨x,d'⟩:=p;have hh:((decide (x=y)&&O8 d' d)||Xd y d l)=true:=h
  rcases AL _ _▸hh with h |h
  . obtain⟨h1,h2⟩:=ak h;obtain rfl:=dec h1;rw[Hw h2];exact dA
  . exact a8 _ (ih h)
noncomputable def Zb(d:D):Const:=match d with |.int i=>.int i |.bl b=>.bool b |.str y=>.str y |_=>.none
noncomputable def Zc(d:D):Bool:=match d with |.int _=>true |.bl _=>true |.str _=>true |.non=>true |_=>false
def tH(d:D)(t:Expr):Expr:=match uT t with |some y=>.Name y t.pos |none=>.Constant (Zb d) (Av t) t.pos
def Zd(P:Pg)(c:Ct)(d:D)(t:Expr):Bool:=match uT t with |some y=>Rt c y&&Xd y d P.ct |none=>Zc d
def blK(c:Ct)(t:Expr)(k:Nat):Bool:=xm c.sc (gB t)&&(o9 c.N (qU c.N (gB t)) (gB t) k&&tE (qU c.N (gB t)))
def ixK(c:Ct)(k:Nat)(T:Tg):Bool:=T.ix.all λi=>decide (c.N.length<=i/\i<c.N.length+k)
theorem Pa(h:ixK c k T=true):∀i∈T.ix,c.N.length<=i/\i<c.N.length+k:=λi hi=>dec (i5.mp h i hi)
def o1(x:Option Ex):Nat:=match x with |some _=>1 |none=>0
def U6(P:Pg)(i ir:Nat):Bool:=match P.fn[i]? with |some fi=>Hs fi ir P.kt |none=>false
def Ku(e:Expr):Bool:=match e with |.Call f es ks _=>(uT f).isSome&&(!es.isEmpty&&ks.isEmpty) |_=>false
theorem qW{e:Expr}(h:Ku e=true):∃x p a es pos,e=.Call (.Name x p) (a::es) [] pos:=by
 cases e
 case Call f es ks pos=>
  obtain⟨h1,h2⟩:=ak (show ((uT f).isSome&&(!es.isEmpty&&ks.isEmpty))=true from h);obtain⟨x,hx⟩:=Option.isSome_iff_exists.mp h1;obtain⟨p,rfl⟩:=kX hx;cases es with
  |nil=>cases (ak h2).1
  |cons a es=>rw[Aq (ak h2).2];exact⟨x,p,a,es,pos,rfl⟩
 all_goals exact nt h
def Hx(P:Pg)(s:Ct->Ex->Expr->Expr)(c:Ct)(x:Ex)(t:Expr):Expr:=match x with
 |.val d=>tH d t
 |.slot i=>.Name (nm c i) t.pos
 |.bin op a b=>.BinOp (s c a (kid t 0)) op (s c b (kid t 1)) t.pos
 |.cmp op a b=>.Compare (s c a (kid t 0)) [op] [s c b (kid t 1)] t.pos
 |.chain a ops xs=>.Compare (s c a (kid t 0)) ops (gD (s c) t 1 xs) t.pos
 |.neg a=>.UnaryOp .USub (s c a (kid t 0)) t.pos
 |.not a=>.UnaryOp .Not (s c a (kid t 0)) t.pos
 |.and xs=>.BoolOp .And (gD (s c) t 0 xs) t.pos
 |.or xs=>.BoolOp .Or (gD (s c) t 0 xs) t.pos
 |.ite a b d=>.IfExp (s c a (kid t 0)) (s c b (kid t 1)) (s c d (kid t 2)) t.pos
 |.tup xs=>.Tuple (gD (s c) t 0 xs) (Av t) t.pos
 |.lst xs=>.List (gD (s c) t 0 xs) t.pos
 |.ix a b=>.Subscript (s c a (kid t 0)) (s c b (kid t 1)) t.pos
 |.slice a lo hi=>.Subscript (s c a (kid t 0)) (.Slice (OJ (s c) (kid (kid t 1) 0) lo) (OJ (s c) (kid (kid t 1) 1) hi) none (kid t 1).pos) t.pos
 |.call i xs=>.Call (.Name (qV P i) (kid t 0).pos) (gD (s c) t 1 xs) [] t.pos
 |.blt b xs=>.Call (.Name (Xa b).1 (kid t 0).pos) (gD (s c) t 1 xs) [] t.pos
 |.wZ a n=>.Call (.Name "isinstance" (kid t 0).pos) [s c a (kid t 1),.Name (Str.ofString n) (kid t 2).pos] [] t.pos
 |.Ah a ns=>.Call (.Name "isinstance" (kid t 0).pos) [s c a (kid t 1),.Tuple (O4 (kid t 2) 0 ns) (Av (kid t 2)) (kid t 2).pos] [] t.pos
 |.comp _ _ T it co xe=>.ListComp (s (yj c t) xe (kid t 0)) [⟨Hv (yj c t) T (kid t 1),Hu (s c) it (kid t 2),O1 (s (yj c t)) (kid t 3) co,0⟩] (gB t) t.pos
 |.emp=>.Dict [] [] t.pos
 |.peek xe=>s c xe t
 |.stk=>.BinOp (kid t 0) (opT t) (kid t 1) t.pos
 |.nG a _=>.Call (.Name "isinstance" (kid t 0).pos) [s c a (kid t 1),.Name ((uT (kid t 2)).getD Str.empty) (kid t 2).pos] [] t.pos
 |.iO i _ _ xb=>.Call (.Name (qV P i) (kid t 0).pos) [.Lambda (U3 (kid t 1)) (s (U4 c (kid t 1)) xb (kid (kid t 1) 0)) (gB (kid t 1)) (kid t 1).pos] [] t.pos
 |.append i x=>.Call (.Attribute (.Name (nm c i) (kid (kid t 0) 0).pos) "append" (kid t 0).pos) [s c x (kid t 1)] [] t.pos
 |_=>t
noncomputable def lnB(t:Expr):Bool:=(kid t 0).pos.endLine==t.pos.line
def ok1(P:Pg)(s:Ct->Ex->Expr->Expr)(f:Ct->Ex->Expr->Bool)(c:Ct)(x:Ex)(t:Expr):Bool:=match x with
 |.val d=>Zd P c d t
 |.slot i=>Ar c i
 |.bin _ a b=>f c a (kid t 0)&&f c b (kid t 1)
 |.cmp op a b=>f c a (kid t 0)&&(f c b (kid t 1)&&!behindInMarks op (s c b (kid t 1)))
 |.chain a ops xs=>f c a (kid t 0)&&(Ht (f c) t 1 xs&&(!lastMarks ops (gD (s c) t 1 xs)&&(decide (2<=ops.length)&&decide (2<=xs.length))))
 |.neg a=>f c a (kid t 0)
 |.not a=>f c a (kid t 0)
 |.and xs=>Ht (f c) t 0 xs
 |.or xs=>Ht (f c) t 0 xs
 |.ite a b d=>f c a (kid t 0)&&(f c b (kid t 1)&&f c d (kid t 2))
 |.tup xs=>Ht (f c) t 0 xs
 |.lst xs=>Ht (f c) t 0 xs
 |.ix a b=>f c a (kid t 0)&&f c b (kid t 1)
 |.slice a lo hi=>f c a (kid t 0)&&(U5 (f c) (kid (kid t 1) 0) lo&&U5 (f c) (kid (kid t 1) 1) hi)
 |.call i xs=>P.fn[i]?.isSome&&(Rt c (qV P i)&&(Ht (f c) t 1 xs&&!xs.isEmpty))
 |.blt b xs=>yi P c (Xa b).1&&(Ht (f c) t 1 xs&&!xs.isEmpty)
 |.wZ a n=>yi P c "isinstance" && (f c a (kid t 1)&&(o8.contains n&&yi P c (Str.ofString n)))
 |.Ah a ns=>yi P c "isinstance" && (f c a (kid t 1)&&(decide (ns.length<=100)&&Za P c ns))
 |.comp n k T it co xe=>decide (n=c.N.length)&&(blK c t k&&(okN (yj c t) T.ix&&(ixK c k T&&(Y9 P c (f c) it (kid t 2)&&(U5 (f (yj c t)) (kid t 3) co&&f (yj c t) xe (kid t 0))))))
 |.emp=>true
 |.peek xe=>Ku (s c xe t)&&f c xe t
 |.stk=>true
 |.nG a l=>yi P c "isinstance" && (f c a (kid t 1)&&(Rt c ((uT (kid t 2)).getD Str.empty)&&decide (((uT (kid t 2)).getD Str.empty,l)∈P.ups)))
 |.iO i ir ca xb=>P.fn[i]?.isSome&&((decide (ca=P.jy)&&Rt c (qV P i)||ca.isEmpty)&&((decide (c.q∈gG)&&P.lam)&&(U6 P i ir&&(xm c.sc (gB (kid t 1))&&(Ao (U3 (kid t 1)) (gB (kid t 1))&&f (U4 c (kid t 1)) xb (kid (kid t 1) 0))))))
 |.append i x=>lnB t&&(Ar c i&&f c x (kid t 1))
 |_=>false
def d9(P:Pg):Nat->Ct->Ex->Expr->Expr
 | 0=>λ_ _ t=>t
 |n+1=>Hx P (d9 P n)
def qX(P:Pg):Nat->Ct->Ex->Expr->Bool
 | 0=>λ_ _ _=>false
 |n+1=>ok1 P (d9 P n) (qX P n)
def Cm(P:Pg)(c:Ct)(e:Expr)(x:Ex):Prop:=∃n t,e=d9 P n c x t/\qX P n c x t=true
theorem Cm.mk{P:Pg}{n:Nat}{c:Ct}{x:Ex}{t:Expr}(h:qX P n c x t=true):Cm P c (d9 P n c x t) x:=⟨n,t,rfl,h⟩
theorem Cm.Hy(h:Cm P c e x):∃n t,e=Hx P (d9 P n) c x t/\ok1 P (d9 P n) (qX P n) c x t=true:=by
 obtain⟨n,t,rfl,h⟩:=h;cases n with
 |zero=>symm
 |succ n=>exact⟨n,t,rfl,h⟩
theorem Cm.Ze(h:Cm P c e x):Rq x=false:=by obtain⟨n,t,_,q⟩:=h.Hy;cases x <;> first |rfl |exact Bool.noConfusion (show false=true from q)
abbrev ym (P:Pg) (c:Ct) (es:List Expr) (xs:List Ex):Prop:=sY (Cm P c) es xs
abbrev CmO (P:Pg) (c:Ct) (e:Option Expr) (x:Option Ex):Prop:=G4 (Cm P c) e x
abbrev Hz (P:Pg) (c:Ct) (es:List Expr) (x:Option Ex):Prop:=uS (Cm P c) es x
abbrev U7 (P:Pg) (c:Ct) (e:Expr) (x:Ex):Prop:=mz P (Cm P c) c e x
noncomputable def ek(t:Stmt):List Expr:=match t with
 |.Return o p=>[o.getD (.Name Str.empty p)]
 |.Assign ts e _=>e::ts
 |.AugAssign a _ e _=>[a,e]
 |.For a b _ _ _=>[a,b]
 |.While a _ _ _=>[a]
 |.If a _ _ _=>[a]
 |.Raise o _ p=>[o.getD (.Name Str.empty p)]
 |.Expr e _=>[e]
 |_=>[]
def aM(t:Stmt)(i:Nat):Expr:=(ek t).getD i (.Name Str.empty t.pos)
noncomputable def Ru(t:Stmt):List Stmt:=match t with |.For _ _ b _ _=>b |.While _ b _ _=>b |.If _ b _ _=>b |_=>[]
noncomputable def bd1(t:Stmt):List Stmt:=match t with |.If _ _ b _=>b |_=>[]
noncomputable def sg(l:List Stmt)(i:Nat):Stmt:=l.getD i (.Pass p0)
def Pb:Sm->Nat
 |_=>0
def mC(fg:Sm->List Stmt->List Stmt)(fs:Sm->Stmt->Stmt):List Sm->List Stmt->List Stmt
 | [],_=>[]
 |x::xs,ss=>if 0<Pb x then fg x (ss.take (Pb x))++mC fg fs xs (ss.drop (Pb x))else fs x (sg ss 0)::mC fg fs xs ss.tail
def Dz(fg:Sm->List Stmt->Bool)(fs:Sm->Stmt->Bool):List Sm->List Stmt->Bool
 | [],_=>true
 |x::xs,ss=>if 0<Pb x then fg x (ss.take (Pb x))&&Dz fg fs xs (ss.drop (Pb x))else fs x (sg ss 0)&&Dz fg fs xs ss.tail
theorem Ph(hg:∀{x ss},kg x ss=true->RG (sg' x ss) x)(hs:∀{x t},ks x t=true->RS (ss' x t) x)(h:Dz kg ks xs ss=true):sZ RG RS (mC sg' ss' xs ss) xs:=by
 induction xs generalizing ss with
 |nil=>exact .nil
 |cons x xs ih=>
  unfold Dz at h;unfold mC;by_cases hx:0<Pb x
  .
   rw[lL hx]at h ⊢
   exact .grp (hg (ak h).1) (ih (ak h).2)
  .
   rw[i8 hx]at h ⊢
   exact .cons (hs (ak h).1) (ih (ak h).2)
noncomputable def Pj(P:Pg)(m:Nat)(fs:Sm->Stmt->Stmt)(c:Ct)(x:Sm)(ss:List Stmt):List Stmt:=match x with
 |_=>ss
noncomputable def Pn(P:Pg)(m:Nat)(ks:Sm->Stmt->Bool)(c:Ct)(x:Sm)(ss:List Stmt):Bool:=match x with
 |_=>false
theorem Pp(hs:∀{x t},ks x t=true->RS (fs x t) x)(h:Pn P m ks c x ss=true):Xc P (Cm P c) RS c (Pj P m fs c x ss) x:=by
 cases x
 all_goals exact nt h
def U8(P:Pg)(m:Nat)(fs:Sm->Stmt->Stmt)(c:Ct)(x:Sm)(t:Stmt):Stmt:=match x with
 |.ret x=>.Return (some (d9 P (m+1) c x (aM t 0))) t.pos
 |.expr x=>.Expr (d9 P (m+1) c x (aM t 0)) t.pos
 |.set i x=>.Assign [.Name (nm c i) (aM t 1).pos] (d9 P (m+1) c x (aM t 0)) t.pos
 |.setC i x=>.Assign [.Name (nm c i) (aM t 1).pos] (d9 P (m+1) c x (aM t 0)) t.pos
 |.item i xj x=>.Assign [.Subscript (.Name (nm c i) (kid (aM t 1) 0).pos) (d9 P (m+1) c xj (kid (aM t 1) 1)) (aM t 1).pos] (d9 P (m+1) c x (aM t 0)) t.pos
 |.qO i xj x=>.AugAssign (.Subscript (.Name (nm c i) (kid (aM t 0) 0).pos) (d9 P (m+1) c xj (kid (aM t 0) 1)) (aM t 0).pos) .Add (d9 P (m+1) c x (aM t 1)) t.pos
 |.ite e a b=>.If (d9 P (m+1) c e (aM t 0)) (mC (Pj P m fs c) fs a (Ru t)) (mC (Pj P m fs c) fs b (bd1 t)) t.pos
 |.loop T it b=>.For (Hv c T (aM t 0)) (Hu (d9 P (m+1) c) it (aM t 1)) (mC (Pj P m fs c) fs b (Ru t)) [] t.pos
 |.while e b=>.While (d9 P (m+1) c e (aM t 0)) (mC (Pj P m fs c) fs b (Ru t)) [] t.pos
 |.raise i x=>.Raise (some (.Call (.Name (P.cls.getD i Str.empty) (kid (aM t 0) 0).pos) [d9 P (m+1) c x (kid (aM t 0) 1)] [] (aM t 0).pos)) none t.pos
 |_=>t
def U9(P:Pg)(m:Nat)(ks:Sm->Stmt->Bool)(c:Ct)(x:Sm)(t:Stmt):Bool:=match x with
 |.ret x=>qX P (m+1) c x (aM t 0)
 |.expr x=>qX P (m+1) c x (aM t 0)&&!tD (λ_ _=>true) (d9 P (m+1) c x (aM t 0))
 |.set i x=>stB c i&&(qX P (m+1) c x (aM t 0)&&!tD (λs p=>Uw c (nm c i) (aM t 1).pos p s) (d9 P (m+1) c x (aM t 0)))
 |.setC i x=>decide (c.N[i]?=some (nm c i))&&(Uw c (nm c i) (aM t 1).pos (aM t 0).pos (gB (aM t 0))&&(qX P (m+1) c x (aM t 0)&&(match x with
  |.comp _ _ _ _ _ _=>true
  |_=>false)))
 |.item i xj x=>Ar c i&&(qX P (m+1) c xj (kid (aM t 1) 1)&&(qX P (m+1) c x (aM t 0)&&!tD (λ_ _=>true) (d9 P (m+1) c x (aM t 0))))
 |.qO i xj x=>Ar c i&&(qX P (m+1) c xj (kid (aM t 0) 1)&&qX P (m+1) c x (aM t 1))
 |.ite e a b=>qX P (m+1) c e (aM t 0)&&(Dz (Pn P m ks c) ks a (Ru t)&&Dz (Pn P m ks c) ks b (bd1 t))
 |.loop T it b=>okN c T.ix&&(Y9 P c (qX P (m+1) c) it (aM t 1)&&Dz (Pn P m ks c) ks b (Ru t))
 |.while e b=>qX P (m+1) c e (aM t 0)&&Dz (Pn P m ks c) ks b (Ru t)
 |.raise i x=>decide (P.cls[i]?=some (P.cls.getD i Str.empty))&&(Rt c (P.cls.getD i Str.empty)&&qX P (m+1) c x (kid (aM t 0) 1))
 |.stuck=>true
def Kv(P:Pg)(m:Nat):Nat->Ct->Sm->Stmt->Stmt
 | 0=>λ_ _ t=>t
 |n+1=>λc=>U8 P m (Kv P m n c) c
def Kw(P:Pg)(m:Nat):Nat->Ct->Sm->Stmt->Bool
 | 0=>λ_ _ _=>false
 |n+1=>λc=>U9 P m (Kw P m n c) c
def DG(P:Pg)(c:Ct)(s:Stmt)(x:Sm):Prop:=∃m n t,s=Kv P m n c x t/\Kw P m n c x t=true
abbrev pX (P:Pg) (c:Ct) (ss:List Stmt) (xs:List Sm):Prop:=sZ (Xc P (Cm P c) (DG P c) c) (DG P c) ss xs
theorem DG.mk{P:Pg}{m n:Nat}{c:Ct}{x:Sm}{t:Stmt}(h:Kw P m n c x t=true):DG P c (Kv P m n c x t) x:=⟨m,n,t,rfl,h⟩
theorem pX.mk{P:Pg}{m n:Nat}{c:Ct}{xs:List Sm}{ss:List Stmt}(h:Dz (Pn P m (Kw P m n c) c) (Kw P m n c) xs ss=true):pX P c (mC (Pj P m (Kv P m n c) c) (Kv P m n c) xs ss) xs:=Ph (Pp .mk) .mk h
theorem Zf(h:(!tD (λ_ _=>true) e)=true):tD (λ_ _=>true) e=false:=gU h
theorem DG.Hy(h:DG P c s x):∃m n t,s=U8 P m (Kv P m n c) c x t/\U9 P m (Kw P m n c) c x t=true:=by
 obtain⟨m,n,t,rfl,h⟩:=h;cases n with
 |zero=>symm
 |succ n=>exact⟨m,n,t,rfl,h⟩
noncomputable def Ax(e:Expr):Bool:=match e with
 |.Constant .. |.Name .. |.BinOp .. |.Compare .. |.UnaryOp .. |.BoolOp .. |.IfExp .. |.Tuple .. |.List .. |.Subscript .. |.Call .. |.JoinedStr .. |.ListComp .. |.Dict .. |.DictComp ..=>true
 |_=>false
theorem Cm.Ax(h:Cm P c e x):Ax e=true:=by
 obtain⟨n,t,rfl,q⟩:=h.Hy;clear h;cases x
 case val d=>show Ev.Ax (tH d t)=true;unfold tH;split <;> rfl
 case peek xe=>obtain⟨x,p,a,es,pos,e⟩:=qW (ak q).1;show Ev.Ax (d9 P n c xe t)=true;rw[e];rfl
 all_goals first |rfl |exact Bool.noConfusion (show false=true from q)
section
theorem Cm.star(h:Cm P c e x)(es:List Expr):starEach (e::es) env=(false,eval e env)::starEach es env:=by have hs:=h.Ax;cases e <;> first |rfl |exact Bool.noConfusion (show false=true from hs)
theorem sY.star(h:ym P c es xs):starEach es env=es.map λe=>(false,eval e env):=by
 induction es generalizing xs with
 |nil=>rfl
 |cons e es ih=>
  cases h with
  |cons h1 h2=>rw[h1.star,ih h2];rfl
theorem sY.plain(h:ym P c es xs):(backTo pos (starEach es env)).any (·.1)=false:=by
 rw[h.star];unfold backTo
 induction es generalizing xs with
 |nil=>rfl
 |cons e es ih=>
  cases h with
  |cons h1 h2=>rw[List.map_cons,List.map_cons,List.any_cons,ih h2];rfl
theorem Cm.folded(h:Cm P c e x)(y:Value):foldedSetIterable e env y=pure y:=by have hs:=h.Ax;cases e <;> first |rfl |exact Bool.noConfusion (show false=true from hs)
theorem mz.folded(h:U7 P c e x)(y:Value):foldedSetIterable e env y=pure y:=by
 cases h with
 |seq h=>exact h.folded y
 |dB _ _ _=>rfl
 |iN _ _ _ _=>rfl
 |dM _ _ _=>rfl
 |enum _ _ _=>rfl
 |zip _ _ _ _=>rfl
theorem Cm.uW(h:Cm P c e x):jN e:=by have hs:=h.Ax;cases e <;> first |exact λ_ _=>rfl |exact Bool.noConfusion (show false=true from hs)
end
structure iR(P:Pg)(rn:Rn):Prop where
 e:∀{X:Cx}{c:Ct}{z:Z}{k:Nat}{x:Ex}{e:Expr}{g g':G}{r:R},aW P k X c->z.K=X.K->Cm P c e x->rn.e z.bor k x g=some (r,g')->az X z e g r g'
 t:∀{X:Cx}{c:Ct}{z:Z}{k:Nat}{x:Ex}{e:Expr}{g g':G}{b:Bool},aW P k X c->z.K=X.K->Cm P c e x->rn.t z.bor k x g=some (b,g')->bL X z e g b g'
 b:∀{X:Cx}{c:Ct}{z:Z}{k:Nat}{xs:List Sm}{fZ:List Stmt}{g g':G}{f:Fl},aW P k X c->c.df=true->z.K=X.K->pX P c fZ xs->rn.b z.bor k xs g=some (f,g')->bZ X z fZ g f g'
theorem nL(h:o9 N N' scope k=true):Names N N' scope k:=by
 unfold o9 at h;simp only[eQ,kS,i5,B3]at h;obtain⟨⟨h1,h2⟩,h3⟩:=h;refine⟨h1,λx e=>?_,λi x e hi=>?_⟩
 . rw[e]at h2;exact mE h2
 . have h4:=h3 i hi;rw[e]at h4;simp only[AL,eQ,kS]at h4;exact h4
theorem pA(ct:aW P k X c)(h:xm c.sc scope=true):bR X.env.scope scope:=by
 unfold xm at h;simp only[eQ,kS,i5,AL]at h;obtain⟨h1,h2⟩:=h;refine⟨h1,λy hy=>(h2 y hy).1.1,λy hy e=>?_,λy hy e=>?_,λy hy e=>?_⟩
 . exact ((h2 y hy).1.2).elim (λq=>absurd e q) id
 . exact ((h2 y hy).2).elim (λq=>absurd e q) λq=>q.1
 . exact ((h2 y hy).2).elim (λq=>absurd e q) λq=>ct.Y8 _ q.2
theorem gW{X:Cx}{N':List Str}{scope:Scope}{b:Bk}{x:Str}:(X.blk N' scope b).env.scope.names.lookup x=(scope.names.lookup x).map λk=>if (k==NameKind.free&&X.env.scope.kind==.function&&X.env.kindOf x==some .cell)then NameKind.cell else k:=cL
theorem aW.blk{P:Pg}{k:Nat}{X:Cx}{c:Ct}{scope:Scope}{N':List Str}(ct:aW P k X c)(hnd:N'.Nodup)(b:Bk):aW P k (X.blk N' scope b) ⟨N',scope,false,Str.empty⟩:=by
 refine⟨rfl,hnd,λx e=>?_,λx e=>?_,λx e=>?_,λe=>absurd e ⋯,λx e=>?_,λe=>absurd e ⋯,ct.calm,rfl,ct.md,ct.room,λe=>absurd (show Str.empty∈gG from e) ⋯⟩
 . have e':=e;rw[gW,e'];rfl
 . have e':=e;show (X.blk N' scope b).env.scope.names.lookup x=_;rw[gW,e'];rfl
 .
  rw[gW];rcases e with e |e
  . have e':=e;rw[e'];exact .inl rfl
  .
   have e':=e;rw[e',BN];by_cases hq:(NameKind.free==NameKind.free&&X.env.scope.kind==.function&&X.env.kindOf x==some .cell)=true
   . rw[lL hq];exact .inl rfl
   . rw[i8 hq];exact .inr rfl
 .
  rcases e with e |e
  . cases e
  . have e':=e;show (scope.names.lookup x==some .local)=true;rw[e'];rfl
section
theorem bq(h:az X z e g r g'):az X z e g (norm r) g':=by
 cases r with
 |dat d=>exact h
 |new l=>exact j9 h
 |var i=>exact h
theorem Ay(h:az X z e g r g1)(hd:toD z.bor r g1=some (d,g')):az X z e g (.dat d) g':=by
 cases r with
 |dat d'=>cases hd;exact h
 |new l=>cases hd;exact j9 h
 |var i=>
  have hd:(if i∈z.bor then none else match g1[i]? with |some (.own l)=>some (D.lst l,g1.set i (.dat (.lst l))) |_=>none)=some (d,g'):=hd
  split at hd
  . cases hd
  .
   rename_i hb;split at hd
   . rename_i l hg;cases hd;exact vZ h hg hb
   . cases hd
theorem aP(hS:iR P rn)(ct:aW P k X c)(hK:z.K=X.K)(hc:Cm P c e x)(h:gA rn z.bor k x g=some (d,g')):az X z e g (.dat d) g':=by
 unfold gA at h;left
 . rename_i r g1 e1;exact Ay (hS.e ct hK hc e1) h
 . symm
theorem kY:∀(ds:List D),qk (ds.map R.dat)=some ds
 | []=>rfl
 |d::ds=>by
  show (match qk (ds.map R.dat)with |some ds=>some (d::ds) |none=>none)=_
  rw[kY ds]
theorem kZ(hS:iR P rn)(ct:aW P k X c)(hK:z.K=X.K):∀{es:List Expr}{xs:List Ex}{g g':G}{ds:List D},ym P c es xs->kP rn z.bor k xs g=some (ds,g')->cI X z es g (ds.map .dat) g':=by
 intro es xs g g' ds hc h
 induction hc generalizing g ds with
 |nil=>symm;exact fG
 |cons h1 h2 ih=>
  unfold kP at h;left
  .
   rename_i d g1 e1;left
   . rename_i ds g2 e2;symm;exact dw (aP hS ct hK h1 e1) (ih e2) (h1.star _)
   . symm
  . symm
theorem k9(hS:iR P rn)(ct:aW P k X c)(hK:z.K=X.K):∀{es:List Expr}{xs:List Ex}{g g':G}{rs:List R},ym P c es xs->argsR rn z.bor k xs g=some (rs,g')->cI X z es g rs g':=by
 intro es xs g g' rs hc h
 induction hc generalizing g rs with
 |nil=>symm;exact fG
 |cons h1 h2 ih=>
  unfold argsR at h;left
  .
   rename_i r g1 e1;left
   .
    rename_i rs g2 e2;symm;have q:=bq (hS.e ct hK h1 e1);have q2:=ih e2;cases r with
    |dat d=>exact dw q q2 (h1.star _)
    |new l=>exact dw q q2 (h1.star _)
    |var i=>exact Mw q q2 (h1.star _)
   . symm
  . symm
theorem fV(h:argsR rn bor k [a,b] g=some (rs,g2)):∃r1 r2 g1,rn.e bor k a g=some (r1,g1)/\rn.e bor k b g1=some (r2,g2)/\rs=[norm r1,norm r2]:=by
 unfold argsR at h;left
 .
  rename_i r1 g1 e1;unfold argsR at h;left
  .
   rename_i rs' g3 e3;split at e3
   . rename_i r2 g4 e2;cases e3;symm;exact⟨r1,r2,g1,e1,e2,rfl⟩
   . cases e3
  . symm
 . symm
theorem Az(hS:iR P rn)(ct:aW P k X c)(hK:z.K=X.K):∀{bs:List Expr}{xs:List Ex}{ops:List CmpOp}{g g':G}{d1:D}{b:Bool},ym P c bs xs->Om rn z.bor k d1 ops xs g=some (b,g')->oJ X z d1 ops bs g b g':=by
 intro bs xs ops g g' d1 b hc h
 induction hc generalizing ops g d1 with
 |nil=>unfold Om at h;left <;> first |contradiction |symm
 |cons h1 h2 ih=>
  unfold Om at h;left
  .
   rename_i op x _ e;cases e;cases h2;left
   .
    rename_i d2 g1 e1;left
    . rename_i b e2;symm;exact .last (aP hS ct hK h1 e1) (kW hK ct.room e2)
    . symm
   . symm
  .
   rename_i e;cases e;left
   .
    rename_i d2 g1 e1;left
    .
     rename_i e2;cases h2 with
     |cons h2 h3=>exact .link (aP hS ct hK h1 e1) (kW hK ct.room e2) (ih h)
    .
     rename_i e2;symm;cases h2 with
     |cons h2 h3=>exact .stop (aP hS ct hK h1 e1) (kW hK ct.room e2)
    . symm
   . symm
  . symm
theorem HB(hS:iR P rn)(ct:aW P k X c)(hK:z.K=X.K):∀{es:List Expr}{xs:List Ex}{g g':G}{r:R},ym P c es xs->xg rn z.bor k xs g=some (r,g')->az X z (.BoolOp .And es pos) g r g':=by
 intro es xs g g' b hc h
 induction hc generalizing g with
 |nil=>symm
 |cons h1 h2 ih=>
  cases h2 with
  |nil=>exact yX (hS.e ct hK h1 h)
  |cons h2 h3=>
   unfold xg at h;left
   . rename_i g1 e1;exact Fe (hS.e ct hK h1 e1) (ih h)
   . rename_i g1 e1;symm;exact Fd (hS.e ct hK h1 e1)
   . symm
theorem Pq(hS:iR P rn)(ct:aW P k X c)(hK:z.K=X.K):∀{es:List Expr}{xs:List Ex}{g g':G}{r:R},ym P c es xs->Uu rn z.bor k xs g=some (r,g')->az X z (.BoolOp .Or es pos) g r g':=by
 intro es xs g g' b hc h
 induction hc generalizing g with
 |nil=>symm
 |cons h1 h2 ih=>
  cases h2 with
  |nil=>exact yX (hS.e ct hK h1 h)
  |cons h2 h3=>
   unfold Uu at h;left
   . rename_i g1 e1;exact Ms (hS.e ct hK h1 e1) (ih h)
   . rename_i g1 e1;symm;exact Mr (hS.e ct hK h1 e1)
   . symm
theorem Ba(hS:iR P rn)(ct:aW P k X c)(hK:z.K=X.K):∀{es:List Expr}{xs:List Ex}{g g':G}{b:Bool},ym P c es xs->qP rn z.bor k xs g=some (b,g')->jF X z (.BoolOp .And es pos) g b g':=by
 intro es xs g g' b hc h
 induction hc generalizing g with
 |nil=>symm
 |cons h1 h2 ih=>
  cases h2 with
  |nil=>exact EY (hS.t ct hK h1 h)
  |cons h2 h3=>
   unfold qP at h;left
   . rename_i g1 e1;exact Fc (hS.t ct hK h1 e1) (ih h)
   . rename_i g1 e1;symm;exact Fb (hS.t ct hK h1 e1)
   . symm
theorem HD(hS:iR P rn)(ct:aW P k X c)(hK:z.K=X.K):∀{es:List Expr}{xs:List Ex}{g g':G}{b:Bool},ym P c es xs->Ai rn z.bor k xs g=some (b,g')->jF X z (.BoolOp .Or es pos) g b g':=by
 intro es xs g g' b hc h
 induction hc generalizing g with
 |nil=>symm
 |cons h1 h2 ih=>
  cases h2 with
  |nil=>exact Mm (hS.t ct hK h1 h)
  |cons h2 h3=>
   unfold Ai at h;left
   . rename_i g1 e1;exact Mq (hS.t ct hK h1 e1) (ih h)
   . rename_i g1 e1;symm;exact Mp (hS.t ct hK h1 e1)
   . symm
theorem qY(hS:iR P rn)(ct:aW P k X c)(hK:z.K=X.K)(hc:CmO P c e x)(h:kQ rn z.bor k x g=some (o,g')):oK X z e g o g':=by
 cases hc with
 |none=>symm;exact wA
 |@some e' x' hc=>
  have h:(match gA rn z.bor k x' g with |some (.int i,g1)=>some (some i,g1) |_=>none)=some (o,g'):=h
  left
  . rename_i e1;symm;exact wB (aP hS ct hK hc e1)
  . symm
theorem qZ(ct:aW P k X c)(h:c.sc.names.lookup x=some .globalImplicit):Gl X x:=ct.o7 x h
theorem HF(h:Rq it=false):eW rn bor k tp it g=match gA rn bor k it g with |some (.tup l,g1)=>some (l,g1) |some (.lst l,g1)=>some (l,g1) |some (.fix l,g1)=>some (l,g1) |_=>none:=by cases it <;> first |rfl |exact Bool.noConfusion (show true=false from h)
theorem tK(hS:iR P rn)(ct:aW P k X c)(hK:z.K=X.K)(htp:tp=true->∃es k pos,tg=.Tuple es k pos)(hc:U7 P c iter it)(h:eW rn z.bor k tp it g=some (aj,g')):cX X z tg iter g aj g':=by
 cases hc with
 |zip ha ha2 hb hg=>
  unfold eW at h;dsimp only at h;left
  .
   rename_i ht;obtain⟨es,k0,pos,rfl⟩:=htp ht;left
   .
    rename_i d1 d2 g1 e1;left
    .
     rename_i l m e2 e3;left
     . rename_i e4;symm;exact N7 hK (kZ hS ct hK (.cons ha (.cons ha2 .nil)) e1) e2 e3 e4 (qZ ct hg) (ct.md.bn _ hb) (ha.star _) (by rw[ha2.star];rfl)
     . symm
    . symm
   . symm
  . symm
 |dM ha hb hg=>
  unfold eW at h;dsimp only at h;left
  .
   rename_i ht;obtain⟨es,k0,pos,rfl⟩:=htp ht;left
   .
    rename_i d g1 e1;left
    . rename_i l e2;symm;exact Ag hK (dw (aP hS ct hK ha e1) fG (ha.star _)) e2 (qZ ct hg) (ct.md.bn _ hb) (ha.star _)
    . symm
   . symm
  . symm
 |enum ha hb hg=>
  unfold eW at h;dsimp only at h;left
  .
   rename_i ht;obtain⟨es,k0,pos,rfl⟩:=htp ht;left
   .
    rename_i d g1 e1;left
    . rename_i l e2;symm;exact Gr hK (dw (aP hS ct hK ha e1) fG (ha.star _)) e2 (qZ ct hg) (ct.md.bn _ hb) (ha.star _)
    . symm
   . symm
  . symm
 |dB ha hb hg=>
  unfold eW at h;dsimp only at h;left
  .
   rename_i j g1 e1;left
   . rename_i hj;symm;simp only[pW,eQ,kS]at hj;exact FH (dw (aP hS ct hK ha e1) fG (ha.star _)) (qZ ct hg) (ct.md.bn _ hb) (by rw[ha.star];rfl) hj.1 hj.2
   . symm
  . symm
 |iN ha hb' hb hg=>
  unfold eW at h;dsimp only at h;left
  .
   rename_i c0 g1 e1;left
   .
    rename_i j g2 e2;left
    . rename_i hj;symm;simp only[pW,eQ,kS]at hj;exact FJ (dw (aP hS ct hK ha e1) (dw (aP hS ct hK hb' e2) fG (hb'.star _)) (ha.star _)) (qZ ct hg) (ct.md.bn _ hb) (by rw[ha.star,hb'.star];rfl) (by rw[hb'.star];rfl) ⟨hj.1.1,hj.1.2,hj.2.1,hj.2.2⟩
    . symm
   . symm
  . symm
 |seq hc=>
  have h':=(HF hc.Ze).symm.trans h;split at h'
  . rename_i e1;cases h';exact Np hK (aP hS ct hK hc e1)
  . rename_i e1;cases h';exact Nq (aP hS ct hK hc e1)
  . rename_i e1;cases h';exact Nr hK (aP hS ct hK hc e1)
  . cases h'
theorem Bb(hS:iR P rn)(ct:aW P k X c)(hK:z.K=X.K)(hc:Hz P c ifs co)(h:Oo rn z.bor k co g=some (b,g')):gH X z ifs g b g':=by
 cases hc with
 |none=>symm;exact FN
 |some hc=>exact FP (hS.t ct hK hc h)
theorem Bc(h:Ow c tg T):T.cY=true->∃es k pos,tg=.Tuple es k pos:=by
 cases h with
 |nm _ _=>intro e;cases e
 |tp _=>intro _;exact⟨_,_,_,rfl⟩
theorem Pr(ct:aW P k X c)(h:xq c es is):iI X es is:=by
 induction h with
 |nil=>exact .nil
 |cons h1 h2 _ ih=>exact .cons (ct.nm h1 h2) ih
theorem Bd(ct:aW P k X c)(hK:z.K=X.K)(h:Ow c tg T)(hb:∀i∈T.ix,i∉z.bor):kF X z tg T:=by
 cases h with
 |nm h1 h2=>exact TL (ct.nm h1 h2) (hb _ (eP.mpr rfl))
 |tp h1=>exact TQ ct.calm hK (Pr ct h1) hb
theorem tL(hS:iR P rn){Xb:Bk->Cx}{cb:Ct}(Va:∀b,aW P k (Xb b) cb)(Kq:∀b,z.K=(Xb b).K){T:Tg}{last:Nat}{ifs:List Expr}{co:Option Ex}{jV:Expr}{xe:Ex}(hi:Hz P cb ifs co)(he:Cm P cb jV xe) :
  ∀{aj:List D}{g gE:G},GX rn z.bor k T last co xe aj g=some gE->jG T last (λg b g'=>∀bk:Bk,gH (Xb bk) z ifs g b g') (λg d g'=>∀bk:Bk,az (Xb bk) z jV g (.dat d) g') aj g gE
 | [],_,_,h=>by symm;exact .nil
 |d::l,_,_,h=>by
  unfold GX at h;left
  . symm
  .
   rename_i g1 e1;left
   . symm
   . rename_i g2 e2;exact .skip e1 (λbk=>Bb hS (Va bk) (Kq bk) hi e2) (tL hS Va Kq hi he h)
   .
    rename_i g2 e2;left
    . symm
    .
     rename_i x g3 e3;left
     .
      rename_i acc e4;left
      . rename_i hl;exact .take e1 (λbk=>Bb hS (Va bk) (Kq bk) hi e2) (λbk=>aP hS (Va bk) (Kq bk) he e3) e4 hl (tL hS Va Kq hi he h)
      . symm
     . symm
end
def fM(P:Pg)(mg:Str->Option Value)(ci:Nat)(C:Addr):Prop:=∃x,P.cls[ci]?=some x/\mg x=some (.ref C)
structure DK(P:Pg)(k:Nat)(X:Cx)(c:Ct):Prop where
 ct:aW P k X.jM c
 ex:X.ex=[]
 pa:PassesOwn (~~~2) X.A X.env X.xe
structure lg(P:Pg)(rn:Rn):Prop where
 x:∀{X:Cx}{c:Ct}{z:Z}{k:Nat}{x:Ex}{e:Expr}{g g':G}{ci:Nat}{C:Addr},DK P k X c->z.K=X.K->fM P X.mg ci C->Cm P c e x->rn.x z.bor k x g=some (ci,g')->jP X z e g C g'
 t:∀{X:Cx}{c:Ct}{z:Z}{k:Nat}{x:Ex}{e:Expr}{g g':G}{ci:Nat}{C:Addr},DK P k X c->z.K=X.K->fM P X.mg ci C->Cm P c e x->rn.xt z.bor k x g=some (ci,g')->Rg X z e g C g'
 b:∀{X:Cx}{c:Ct}{z:Z}{k:Nat}{xs:List Sm}{fZ:List Stmt}{g g':G}{ci:Nat}{C:Addr},DK P k X c->c.df=true->z.K=X.K->fM P X.mg ci C->pX P c fZ xs->rn.xb z.bor k xs g=some (ci,g')->zG X z fZ g C g'
structure HJ(P:Pg)(fi:Fi)(fx:Fx):Prop where
 np:fx.np=fi.ps.length
 n:fx.n=fi.N.length
 body:pX P ⟨fi.N,aD fi.st,true,fi.qual⟩ (aU fi.st) fx.body
def gI(P:Pg)(fns:List Fx):Prop:=∀(f:Nat) (fi:Fi) (fx:Fx),P.fn[f]?=some fi->fns[f]?=some fx->HJ P fi fx
theorem lq{P:Pg}{k:Nat}{prog:Program}{w:World}{K:Frag}{mg:Str->Option Value}{base:Heap}{N ps:List Str}{qual:Str}{scope:Scope}{f:Addr}{bh:Value}{A:Around}{outer:List Env}{s:Shared}{H:Hp}{E:XK}
  (S:bE N ps scope) (md:oZ P K mg) (cB:PySem.W.codeIn K bh qual=true) (hr:bK k (A.deeper (envOfC qual scope s⁻¹ f bh))):aW P k (eH sH prog w K mg base N qual scope f bh A outer s H E).jM ⟨N,scope,true,qual⟩:=by
 refine⟨rfl,S.nd,λx e=>e,λx e=>e,λx e=>e,λ_ x e=>e,λx _=>rfl,λ_=>?_,rfl,rfl,md,hr,λe h=>⟨rfl,md.lam h _ e _ cB⟩⟩
 show (if scope.kind.isAnnotationScope then ScopeKind.function else scope.kind)=.function
 rw[S.kind];rfl
section
theorem Be(hS:iR P rn){k':Nat}(ct:aW P (k'+1) X c)(hK:z.K=X.K){f:Nat}{fi:Fi}{fx:Fx}(Vb:P.fn[f]?=some fi)(pS:HJ P fi fx)(Ky:c.sc.names.lookup fi.name=some .globalImplicit){e:Expr}{es:List Expr}{xs:List Ex}{rs:List R}{g g1 gO:G}{r:R}
  (hc:ym P c (e::es) xs) (ha:cI X z (e::es) g rs g1) (h:bG rn fx k' rs g1=some (r,gO)):az X z (.Call (.Name fi.name p) (e::es) [] pos) g r gO:=by
 obtain⟨f,fd,hm,hF,Rv,hB,fY⟩:=ct.md.fn _ fi Vb;have F:gJ X.prog X.w X.K X.mg X.base sH (k'+1) f fd fi.ps (Ko X.K fi.N fi.ps.length λbor g r g'=>rn.b bor k' fx.body g=some (.rt r,g')\/(rn.b bor k' fx.body g=some (.nx,g')/\r=.dat .non)):=by
  refine zp hF Rv λbh A outer s H E cB hr z' g r g' Rl hrun=>?_
  have Zg:aW P k' (eH sH X.prog X.w X.K X.mg X.base fi.N fi.qual (aD fi.st) f bh A outer s H E).jM ⟨fi.N,aD fi.st,true,fi.qual⟩:=lq Rv ct.md cB hr;rcases hrun with h |⟨h,rfl⟩
  . exact⟨_,hS.b Zg rfl Rl pS.body h,.inl rfl⟩
  . exact⟨_,hS.b Zg rfl Rl pS.body h,.inr ⟨rfl,rfl⟩⟩
 have h1:∃h2:ym P c es xs.tail,starEach (e::es) X.env=(false,eval e X.env)::starEach es X.env:=by
  cases hc with
  |cons h1 h2=>exact⟨h2,h1.star _⟩
 obtain⟨h2,cD⟩:=h1;unfold bG at h;left
 .
  rename_i hl;left
  . symm
  .
   rename_i gs e1;left
   .
    rename_i r0 gc e2;left
    .
     rename_i gO' e3;left
     . rename_i r' e4;symm;exact uL F hK ct.room (ct.o7 _ Ky) hm hF.kp hB ha (by rw[hl.1,pS.np]) e1 hl.2 (.inl (by rw[<- pS.n];exact e2)) e3 e4 fY cD h2.plain
     . symm
    . symm
   .
    rename_i gc e2;left
    . rename_i gO' e3;symm;exact uL F hK ct.room (ct.o7 _ Ky) hm hF.kp hB ha (by rw[hl.1,pS.np]) e1 hl.2 (.inr ⟨by rw[<- pS.n];exact e2,rfl⟩) e3 rfl fY cD h2.plain
    . symm
   . symm
 . symm
theorem rm(hS:iR P rn)(ct:aW P k X c)(hK:z.K=X.K)
  (hnd:N'.Nodup) (hT:Ow ⟨N',scope,false,Str.empty⟩ tg T) (hTi:∀i∈T.ix,c.N.length<=i/\i<c.N.length+kk) (hi:U7 P c iter it) (hf:Hz P ⟨N',scope,false,Str.empty⟩ ifs co) (he:Cm P ⟨N',scope,false,Str.empty⟩ jV xe)
  (h:dN rn z.bor k c.N.length kk T it co xe g=some (acc,g')) :
  ∃aj g1 gE,cX X z tg iter g aj g1/\(∀b:Bk,kF (X.blk N' scope b) z tg T)/\(∀i∈T.ix,g1.length<=i/\i<g1.length+kk)/\
   jG T (g1.length+kk) (λg b g'=>∀bk:Bk,gH (X.blk N' scope bk) z ifs g b g') (λg d g'=>∀bk:Bk,az (X.blk N' scope bk) z jV g (.dat d) g') aj (gC kk g1) gE/\gE[g1.length+kk]?=some (.own acc)/\g'=gE.take g1.length:=by
 unfold dN at h;left
 . symm
 .
  rename_i aj g1 e1;left
  .
   rename_i hl;left
   . symm
   .
    rename_i gE e2;left
    .
     rename_i acc' e3;symm;obtain⟨hl,hb⟩:=hl;rw[<- hl]at e2 e3 hTi ⊢
     refine⟨aj,g1,gE,tK hS ct hK (Bc hT) hi e1,λb=>Bd (ct.blk hnd b) hK hT λi hi hm=>?_,hTi,tL hS (λb=>ct.blk hnd b) (λb=>hK) hf he e2,e3,rfl⟩
     rw[List.any_eq_false]at hb;exact hb i hi (nN hm)
    . symm
  . symm
end
theorem HN{P:Pg}{c:Ct}{er y ke en Hr:Str}{wW np Rk py cC lN kp qM qL d8 lO jw:Pos}{j:Nat}{rest:List Stmt}{bd:List Sm}(h:pX P c (.Assign [.Name er wW] (.Constant .none j np) Rk::zZ y ke en Hr py cC lN kp qM qL d8 lO jw::rest) bd):pX P c rest (bd.drop 2):=by
 have nog:∀{s:Stmt}{ss:List Stmt}{x:Sm}{r:List Stmt},Xc P (Cm P c) (DG P c) c ss x->ss++r=s::rest->(∀a b p,s≠.Assign a b p)->False:=λg e n=>by
  cases g <;> (injection e with e1 e2;exact n _ _ _ e1.symm)
 generalize hq:(Stmt.Assign [.Name er wW] (.Constant .none j np) Rk::zZ y ke en Hr py cC lN kp qM qL d8 lO jw::rest)=fZ at h;cases h with
 |nil=>cases hq
 |grp g _=>cases g <;> (injection hq with e1 e2;injection e1 with e3 e4;cases e4)
 |cons _ h1=>
  injection hq with e1 e2;generalize hq2:(zZ y ke en Hr py cC lN kp qM qL d8 lO jw::rest)=aJ at e2;subst e2;cases h1 with
  |nil=>cases hq2
  |grp g _=>exact (nog g hq2.symm (λa b p e=>nomatch e)).elim
  |cons _ h2=>injection hq2 with e1 e2;subst e2;exact h2
section
variable{X:Cx}{c:Ct}
theorem Bf(ct:aW P k X c)(h:xr P c es ns):kJ X es ns/\∀n∈ns,n∈o8:=by
 induction h with
 |nil=>exact⟨.nil,λn hn=>nomatch hn⟩
 |@cons T n pos es ns h1 h2 h3 h4 _ ih=>
  refine⟨.cons ?_ ih.1,λm hm=>(b0.mp hm).elim (λe=>e▸h4) (ih.2 m)⟩
  subst h3;refine⟨ct.o7 _ h2,ct.md.bn _ h1,?_,?_,?_⟩ <;> (unfold o8 at h4;simp only[b0,i6,Ap]at h4;rcases h4 with rfl |rfl |rfl |rfl |rfl |rfl <;> first |rfl |decide)
theorem Pu(hc:Cm P c e x):((backTo cC (starEach [e] X.env)).all (λx=>!x.1)&&(backToKw cC (keywordEach [] X.env)).all (λx=>x.1.isSome)
   && decide ([e].length+([]:List Keyword).length+(if ([]:List Keyword).isEmpty then 0 else 1)<30))=true:=by
 rw[hc.star];rfl
theorem HQ(hS:iR P rn)(hX:lg P rn){fns:List Fx}(hF:gI P fns){k':Nat}{qqz:Cx}(md:oZ P qqz.K qqz.mg)(hr:bK (k'+2) qqz.A)(hcm:qqz.calm=true)(hKY:z.K=qqz.K)(Ti:c.N.Nodup)(hN:X.N=c.N){f ir:Nat}{fi:Fi}{l:Lt}{xb:Ex}{g Dy g3:G}{r0 r':R}{fx:Fx}{ci:Nat}{C:Addr}{n:Str}
  (h1:P.fn[f]?=some fi) (h5:P.lam=true) (h6:Hs fi ir P.kt=true) (h8:Ao l.params l.scope=true) (h9:Cm P ⟨c.N,l.scope,false,Str.empty⟩ l.body xb)
  (e1:fns[f]?=some fx) (e2:rn.x [] k' xb (g.map noOwn)=some (ci,Dy)) (e3:P.jy[ci]?=some C) (e4:rn.b [] k' (fx.body.drop 2) ((List.replicate fx.n .no).set ir (.dat (.jE C)))=some (.rt r0,g3)) (e5:cu [] g3 r0=some r') {fa:Addr}{fd:FuncData} (F:Eo qqz.K fi.name fi.qual fi.st fa fd) (Sc:bE fi.N fi.ps (aD fi.st)) (bd:L2.Binds qqz.K fd fi.ps []):z5 qqz X z g (j8 n) l r' fa:=by
 have pS:=hF f fi fx h1 e1;obtain⟨xC,c1,c2,qC,kC⟩:=md.jy ci C e3;obtain⟨dk,D,mD,qD,hup⟩:=md.kt h5;have L:=uV h8;unfold Hs at h6;split at h6
 .
  rename_i er y ke en Hr Rr hv;obtain⟨wW,j,np,Rk,py,cC,lN,kp,qM,qL,d8,lO,jw,rest,cD⟩:=Hq hv;obtain⟨p1,p2⟩:=ak h6;obtain⟨⟨q1,q2,q3,q4⟩,⟨q5,q6,q7⟩,⟨q8,q9⟩,q10,q11,q12⟩:=dec p1;subst q1 q2 q3;obtain⟨p3,p4⟩:=ak p2;have pe:=dP (ak p3).1;have py':=dP (ak p3).2;have vy:rZ (aD fi.st) y:=by
   have:=(ak p4).1;unfold xh at this;split at this
   . rename_i e;exact .inl e
   . rename_i e;exact .inr (.inl e)
   . rename_i e;exact .inr (.inr e)
   . cases this
  have lr:Loc (aD fi.st) Hr:=by
   have:=(ak p4).2;unfold jo at this;split at this
   . rename_i e;exact .inl e
   . rename_i e;exact .inr e
   . cases this
  have hb:=pS.body;rw[cD]at hb;have hrs:=HN hb;intro ah σ1 σ0 H1 s1 g1 Y A0 M p c' cl pm g8 us Q E I1 S1 hp1 hc1 Y0 Y3 rv hQ;refine Oe (Dy:=Dy) hKY hr hcm F cD (q4▸Sc) (q4▸bd)
   ⟨Sc.nd,q5,mD,dk,qC,qD,hup C (fA e3),kC,q6,q7,pe.1,pe.2,q8,lr,q9,vy,py'.1,py'.2,q10,q11,q12⟩ L (λXf s H xe zl a1 a2 a3 a4 a5 hr hc hp Zh Zi=>?_) (λbh A outer s H E cB hr zf Zh Zi=>?_) e5 I1 S1 hp1 hc1 Y0 Y3.noOwn (λi l e=>wV e) rv hQ
  .
   have Zj:fM P (qI Xf X.N (j8 n) l.scope p (.ref c') cl s H xe).mg ci C:=⟨xC,c1,a4▸c2⟩;refine hX.x (c:=⟨c.N,l.scope,false,Str.empty⟩) ⟨⟨hN,Ti,λx e=>e,λx e=>e,λx e=>e,(λe=>nomatch e),λx e=>?_,(λe=>nomatch e),rfl,rfl,?_,hr.deeper _,λe=>absurd (show Str.empty∈gG from e) ⋯⟩,rfl,hp⟩ (Zh.trans a3.symm) Zj h9 (by rw[Zi];exact e2)
   .
    rcases e with e |e
    . cases e
    . exact absurd rfl (L.nl _ (L2.mem_of_lookup e))
   . show oZ P Xf.K Xf.mg;rw[a3,a4];exact md
  .
   have e4':rn.b zf.bor k' (fx.body.drop 2) ((List.replicate fi.N.length .no).set ir (.dat (.jE C)))=some (.rt r0,g3):=by rw[Zi,<- pS.n];exact e4
   exact hS.b (lq Sc md cB hr) rfl Zh hrs e4'
 . cases h6
theorem Vc(ct:aW P k X c)(h4:c.q∈gG)(h5:P.lam=true):∃q cc,Oc X (j8 c.q) q cc:=by obtain⟨hqn,cc,q,hcode,hC,hq,hbi,Ug,hu⟩:=ct.lam h4 h5;exact⟨q,cc,hq,hu,hcode,hC,hqn,hbi,Ug⟩
theorem HR(hS:iR P rn)(hX:lg P rn){fns:List Fx}(hF:gI P fns){k':Nat}(ct:aW P (k'+2) X c)(hK:z.K=X.K){x:Str}{f ir:Nat}{fi:Fi}{params:Arguments}{body:Expr}{scope:Scope}{xb:Ex}{fp Vd pos:Pos}{g Dy g3:G}{r0 r':R}{fx:Fx}{ci:Nat}{C:Addr}
  (h1:P.fn[f]?=some fi) (h2:fi.name=x) (h3:c.sc.names.lookup x=some .globalImplicit) (h4:c.q∈gG) (h5:P.lam=true) (h6:Hs fi ir P.kt=true) (h7:xm c.sc scope=true) (h8:Ao params scope=true) (h9:Cm P ⟨c.N,scope,false,Str.empty⟩ body xb)
  (e1:fns[f]?=some fx) (e2:rn.x [] k' xb (g.map noOwn)=some (ci,Dy)) (e3:P.jy[ci]?=some C) (e4:rn.b [] k' (fx.body.drop 2) ((List.replicate fx.n .no).set ir (.dat (.jE C)))=some (.rt r0,g3)) (e5:cu [] g3 r0=some r') :
  az X z (.Call (.Name x fp) [.Lambda params body scope Vd] [] pos) g r' g:=by
 obtain⟨fa,fd,m1,F,Sc,bd,db⟩:=ct.md.fn f fi h1;obtain⟨q,cc,mk⟩:=Vc ct h4 h5;subst h2;exact GC (l:=⟨params,body,scope,Vd⟩) hK F (ct.o7 _ h3) m1 db mk (pA ct h7) (uV h8) (HQ hS hX hF ct.md ct.room ct.calm hK ct.nd ct.N h1 h5 h6 h8 h9 e1 e2 e3 e4 e5 F Sc bd)
def Rw(X:Cx)(z:Z)(e:Expr)(g:G)(o:Option (R×G)):Prop:=∀r g',o=some (r,g')->az X z e g r g'
theorem Rw.none:Rw X z e g none:=λ_ _ h=>nomatch h
theorem Rw.some{e:Expr}{g g':G}{r:R}(h:az X z e g r g'):Rw X z e g (some (r,g')):=λ_ _ q=>by cases q;exact h
theorem rq(h:qX P (m+1) c (.comp n' kk T it co xe) t=true):n'=c.N.length/\xm c.sc (gB t)=true/\o9 c.N (qU c.N (gB t)) (gB t) kk=true/\(qU c.N (gB t)).Nodup/\Ow (yj c t) (Hv (yj c t) T (kid t 1)) T/\(∀i∈T.ix,c.N.length<=i/\i<c.N.length+kk)/\U7 P c (Hu (d9 P m c) it (kid t 2)) it/\Hz P (yj c t) (O1 (d9 P m (yj c t)) (kid t 3) co) co/\Cm P (yj c t) (d9 P m (yj c t) xe (kid t 0)) xe:=by obtain⟨h1,a1⟩:=ak h;obtain⟨h2,a2⟩:=ak a1;obtain⟨h3,a3⟩:=ak a2;obtain⟨h4,a4⟩:=ak a3;obtain⟨h5,a5⟩:=ak a4;exact⟨dec h1,(ak h2).1,(ak (ak h2).2).1,nJ (ak (ak h2).2).2,tG h3,Pa h4,tF .mk h5,O2 .mk (ak a5).1,.mk (ak a5).2⟩
theorem Pw(ct:aW P k X c)(hK:z.K=X.K)(h:Zd P c d t=true):az X z (tH d t) g (.dat d) g:=by
 unfold Zd at h;unfold tH;cases e:uT t with
 |some y=>rw[e]at h;obtain⟨hd,v,u,q1,q2,q3⟩:=ct.md.ct _ _ (O9 (ak h).2);exact Ez (ct.o7 _ (dec (ak h).1)) q1 q2 (hK▸q3) hd
 |none=>
  rw[e]at h;cases d with
  |int i=>exact Ma
  |bl i=>exact Tp
  |str i=>exact Mg
  |non=>exact Mf
  |_=>exact nt h
theorem HS(hS:iR P rn)(hX:lg P rn){fns:List Fx}(hF:gI P fns)(ct:aW P k X c)(hK:z.K=X.K){e:Expr}{x:Ex}{g:G}(hc:Cm P c e x):Rw X z e g (aR rn z.bor k fns x g):=by
 obtain⟨n,t,rfl,hk⟩:=hc.Hy;cases x
 case val d=>exact .some (Pw ct hK hk)
 case slot i=>
  have h1:=(jI hk).1;have h2:=(jI hk).2.1;have h3:=(jI hk).2.2;obtain⟨hd,cB⟩:=dP h3;unfold aR;dsimp only;split
  . rename_i e1;exact .some (Mh (by rw[ct.N];exact h1) (ct.vis h2) hd cB e1)
  . rename_i e1;exact .some (Ey (by rw[ct.N];exact h1) (ct.vis h2) hd cB e1)
  . exact .none
 case bin op a b=>
  have h1:=(Cm.mk (ak hk).1);have h2:=(Cm.mk (ak hk).2);unfold aR;dsimp only;split
  .
   rename_i r1 r2 g2 e1;obtain⟨s1,s2,g1,q1,q2,q3⟩:=fV e1;cases q3;split
   .
    rename_i d1 d2 p1 p2;split
    . rename_i r0 e3;exact .some (Mi (bq (hS.e ct hK h1 q1)) (bq (hS.e ct hK h2 q2)) p1 p2 (Oq hK e3))
    . exact .none
   . exact .none
  . exact .none
 case cmp op a b=>
  have h1:=(Cm.mk (ak hk).1);have h2:=(Cm.mk (ak (ak hk).2).1);have h3:=gU (ak (ak hk).2).2;unfold aR;dsimp only;split
  .
   rename_i r1 r2 g2 e1;obtain⟨s1,s2,g1,q1,q2,q3⟩:=fV e1;cases q3;split
   .
    rename_i d1 d2 p1 p2;split
    . rename_i r0 e3;exact .some (Mj (bq (hS.e ct hK h1 q1)) (bq (hS.e ct hK h2 q2)) p1 p2 (kW hK ct.room e3) h3)
    . exact .none
   . exact .none
  . exact .none
 case chain a ops xs=>
  obtain⟨k1,k2⟩:=ak hk;obtain⟨k3,k4⟩:=ak k2;obtain⟨k5,k6⟩:=ak k4;obtain⟨Ny,Nz,ops,rfl⟩:=two (dec (ak k6).1);obtain⟨x1,x2,xs,rfl⟩:=two (dec (ak k6).2);have h1:=Cm.mk k1;have h2:=bU (R:=Cm P c) .mk k3;have h3:=gU k5;unfold aR;dsimp only;split
  .
   rename_i d1 g1 e1;split
   . rename_i b g2 e2;exact .some (zA (aP hS ct hK h1 e1) (Az hS ct hK h2 e2) h3)
   . exact .none
  . exact .none
 case neg a=>
  have h1:=Cm.mk hk;unfold aR;dsimp only;split
  . rename_i i g1 e1;exact .some (Tr (aP hS ct hK h1 e1) rfl MP)
  . exact .none
 case not a=>
  have h1:=Cm.mk hk;unfold aR;dsimp only;split
  . rename_i b g1 e1;exact .some (Mt (hS.e ct hK h1 e1))
  . exact .none
 case and xs=>have h1:=bU (R:=Cm P c) .mk hk;exact λ_ _ h=>HB hS ct hK h1 h
 case or xs=>have h1:=bU (R:=Cm P c) .mk hk;exact λ_ _ h=>Pq hS ct hK h1 h
 case ite a b d=>
  have h1:=(Cm.mk (ak hk).1);have h2:=(Cm.mk (ak (ak hk).2).1);have h3:=(Cm.mk (ak (ak hk).2).2);unfold aR;dsimp only;split
  . rename_i g1 e1;exact λ_ _ h=>Mu (hS.t ct hK h1 e1) (hS.e ct hK h2 h)
  . rename_i g1 e1;exact λ_ _ h=>Mv (hS.t ct hK h1 e1) (hS.e ct hK h3 h)
  . exact .none
 case tup xs=>
  have h1:=bU (R:=Cm P c) .mk hk;unfold aR;dsimp only;split
  .
   rename_i ds g1 e1;split
   . rename_i hl;exact .some (Mx (kZ hS ct hK h1 e1) (kY _) hl)
   . exact .none
  . exact .none
 case lst xs=>
  have h1:=bU (R:=Cm P c) .mk hk;unfold aR;dsimp only;split
  .
   rename_i ds g1 e1;split
   . rename_i hl;exact .some (My (kZ hS ct hK h1 e1) (kY _) hl)
   . exact .none
  . exact .none
 case ix a b=>
  have h1:=(Cm.mk (ak hk).1);have h2:=(Cm.mk (ak hk).2);unfold aR;dsimp only;split
  .
   rename_i r1 r2 g2 e1;obtain⟨s1,s2,g1,q1,q2,q3⟩:=fV e1;cases q3;split
   .
    rename_i d1 d2 p1 p2;split
    . rename_i r0 e3;exact .some (Tq (bq (hS.e ct hK h1 q1)) (bq (hS.e ct hK h2 q2)) p1 p2 (Ot hK (by have:=ct.room.units;lia) e3) h2.uW)
    . exact .none
   . exact .none
  . exact .none
 case slice a lo hi=>
  have h1:=(Cm.mk (ak hk).1);have h2:=Aw (R:=Cm P c) .mk (ak (ak hk).2).1;have h3:=Aw (R:=Cm P c) .mk (ak (ak hk).2).2;unfold aR;dsimp only;split
  .
   rename_i r0 g1 e1;have q:=bq (hS.e ct hK h1 e1);split
   .
    rename_i i g2 e2;have q2:=qY hS ct hK h2 e2;split
    .
     rename_i j g3 e3;have q3:=qY hS ct hK h3 e3;split
     . rename_i l e4;rw[e4]at q;exact .some (wF hK q q2 q3)
     . rename_i l e4;rw[e4]at q;exact .some (wD hK q q2 q3)
     .
      split
      . rename_i e5;exact .some (wC (d:=.non) hK q q2 q3 e5)
      . exact .none
    . exact .none
   . exact .none
  . exact .none
 case call i xs=>
  obtain⟨k1,k2⟩:=ak hk;obtain⟨k3,k4⟩:=ak k2;obtain⟨fi,h1,h2⟩:=pq k1;cases xs with
  |nil=>cases (ak k4).2
  |cons x xs=>
  have h3:=dec k3;have h4:=bU (R:=Cm P c) .mk (ak k4).1;show Rw X z (.Call (.Name (qV P i) (kid t 0).pos) (gD (d9 P n c) t 1 (x::xs)) [] t.pos) g _;rw[<- h2]at h3 ⊢
  unfold aR;dsimp only;split
  .
   rename_i fx k' Zg pS;split
   . rename_i rs g1 e1;exact λ_ _ h=>Be hS ct hK h1 (hF _ _ _ h1 pS) h3 h4 (k9 hS ct hK h4 e1) h
   . exact .none
  . exact .none
 case blt b xs=>
  cases xs with
  |nil=>cases (ak (ak hk).2).2
  |cons x xs=>
  have h2:=(aN (ak hk).1).1;have h3:=(aN (ak hk).1).2;have h4:=bU (R:=Cm P c) .mk (ak (ak hk).2).1;unfold aR;dsimp only;split
  .
   rename_i rs g1 e1;split
   .
    rename_i ds e2;split
    .
     rename_i r0 e3;have ha:=k9 hS ct hK h4 e1;have cB:=Ov hK ct.calm (by have:=ct.room.units;lia) e3
     have cD:=(Cm.mk (ak (ak (ak hk).2).1).1).star (env:=X.env) (gD (d9 P n c) t 2 xs);have cW:=(bU .mk (ak (ak (ak hk).2).1).2).plain (env:=X.env) (pos:=t.pos);cases b <;> first |exact .some (yZ ha e2 cB (ct.o7 _ h3) (ct.md.bn _ h2) rfl ⋯ ⋯ cD cW) |exact .some (v7 ha e2 cB (ct.o7 _ h3) (ct.md.bn _ h2) rfl ⋯ ⋯ cD cW)
    . exact .none
   . exact .none
  . exact .none
 case wZ a n'=>
  have h1:=Cm.mk (ak (ak hk).2).1;have h2:=(aN (ak hk).1).1;have h3:=(aN (ak hk).1).2;have h4:=(aN (ak (ak (ak hk).2).2).2).1;have h5:=(aN (ak (ak (ak hk).2).2).2).2;have h7:=An.mp (ak (ak (ak hk).2).2).1;unfold aR;dsimp only;split
  .
   rename_i r0 g1 e1;split
   .
    rename_i d e2;obtain⟨t1,_⟩:=Bf ct (xr.cons (pos:=(kid t 2).pos) h4 h5 rfl h7 .nil);cases t1 with
    |cons t1 _=>exact .some (Nb hK (bq (hS.e ct hK h1 e1)) e2 (λ_ _ _ p=>qR p h7) (ct.o7 _ h3) (ct.md.bn _ h2) rfl t1.gl t1.mg t1.bt t1.nn t1.db (h1.star _))
   . exact .none
  . exact .none
 case Ah a ns=>
  have h1:=Cm.mk (ak (ak hk).2).1;have h2:=(aN (ak hk).1).1;have h3:=(aN (ak hk).1).2;have h4:=dec (ak (ak (ak hk).2).2).1;have h5:=O5 (t:=kid t 2) (i:=0) (ak (ak (ak hk).2).2).2;unfold aR;dsimp only;split
  .
   rename_i r0 g1 e1;split
   . rename_i d e2;obtain⟨t1,t2⟩:=Bf ct h5;exact .some (Gb hK (bq (hS.e ct hK h1 e1)) e2 t1 ⋯ (λ_ _ _ p=>nI p t2) (ct.o7 _ h3) (ct.md.bn _ h2) rfl (h1.star _))
   . exact .none
  . exact .none
 case emp=>exact .some (N4)
 case peek xe=>
  have h1:=Cm.mk (ak hk).2;unfold aR;dsimp only;split
  .
   rename_i hb;have hb:=List.isEmpty_iff.mp hb;split
   .
    rename_i d g1 e1;split
    . rename_i hf;exact .some (GF hb hf (hS.e ct hK h1 (by rw[hb];exact e1)))
    . exact .none
   .
    rename_i l g1 e1;split
    . rename_i hf;exact .some (z9 hb hf (hS.e ct hK h1 (by rw[hb];exact e1)))
    . exact .none
   . exact .none
  . exact .none
 case stk=>exact .none
 case nG a l=>
  have h1:=Cm.mk (ak (ak hk).2).1;have h2:=(aN (ak hk).1).1;have h3:=(aN (ak hk).1).2;have h4:=dec (ak (ak (ak hk).2).2).2;have h5:=dec (ak (ak (ak hk).2).2).1;unfold aR;dsimp only;obtain⟨db,cv,hcv,hn,hC⟩:=ct.md.ups _ _ h4;have cls:∃w:V,(∀u,RelV w u->u=cv)/\PE X (.Name ((uT (kid t 2)).getD Str.empty) (kid t 2).pos) (tC w):=by
   rcases hcv with ⟨m1,D,rfl⟩ |⟨m1,m2,m3,n,rfl⟩
   . exact⟨.ref D,λu r=>r,uw (ct.o7 _ h5) m1 rfl db⟩
   . exact⟨.ty n,λu r=>r,n6 (ct.o7 _ h5) (ct.md.bn _ m1) m3 rfl m2 db⟩
  obtain⟨w,hw,pw⟩:=cls;split
  .
   rename_i r0 g1 e1;split
   .
    rename_i C e2;split
    . rename_i b e3;exact .some (z7 hK (bq (hS.e ct hK h1 e1)) e2 (λ_ _ _ _=>hC C b e3) (ct.o7 _ h3) (ct.md.bn _ h2) rfl hw pw (h1.star _))
    . exact .none
   . rename_i e2;exact .some (z7 hK (bq (hS.e ct hK h1 e1)) e2 (λ_ _ _ _=>hn) (ct.o7 _ h3) (ct.md.bn _ h2) rfl hw pw (h1.star _))
   . exact .none
  . exact .none
 case iO i ir ca xb=>
  obtain⟨g1,k1⟩:=ak hk;obtain⟨g2,k2⟩:=ak k1;obtain⟨g3,k3⟩:=ak k2;obtain⟨h6,k5⟩:=ak k3;obtain⟨fi,h1,h2⟩:=pq g1;unfold U6 at h6;rw[h1]at h6;have h3:=(Bool.or_eq_true_iff.mp g2).imp (λh=>(⟨dec (ak h).1,dec (ak h).2⟩:_/\_)) Aq
  have h4:=dec (ak g3).1;have h5:=(ak g3).2;have h7:=(ak k5).1;have h8:=(ak (ak k5).2).1;have h9:=Cm.mk (ak (ak k5).2).2;unfold aR;dsimp only;split
  .
   rename_i fx k' e1;split
   .
    rename_i ci Dy e2;split
    .
     rename_i C e3;split
     .
      rename_i r0 g3 e4;split
      .
       rename_i r' e5;rcases h3 with ⟨rfl,h3⟩ |rfl
       . exact .some (HR hS hX hF ct hK h1 h2 h3 h4 h5 h6 h7 h8 h9 e1 e2 e3 e4 e5)
       . exact .some (nomatch e3)
      . exact .none
     . exact .none
    . exact .none
   . exact .none
  . exact .none
 case comp n' kk T it co xe=>
  obtain⟨rfl,h1,h2,h3,h4,h5,h6,h7,h8⟩:=rq hk;unfold aR;dsimp only;split
  . rename_i acc g1 e1;obtain⟨aj,g1,gE,w1,w2,w3,w4,w5,rfl⟩:=rm hS ct hK h3 h4 h5 h6 h7 h8 e1;exact .some (FQ (pA ct h1) ct.calm (by rw[ct.N];exact nL h2) w1 w2 w3 w4 w5 λy=>h6.folded y)
  . exact .none
 case append i x=>
  have h1:=(jI (ak (ak hk).2).1).1;have h2:=(jI (ak (ak hk).2).1).2.1;have h3:=(jI (ak (ak hk).2).1).2.2;have h4:=(Cm.mk (ak (ak hk).2).2);have h5:=(ak hk).1;obtain⟨hd,cB⟩:=dP h3;unfold aR;dsimp only;split
  .
   rename_i l0 e0;split
   .
    rename_i d g1 e1;split
    .
     rename_i l e2;split
     . rename_i hl;exact .some (wu (by rw[ct.N];exact h1) (ct.vis h2) hd cB e0 (dw (aP hS ct hK h4 e1) fG (h4.star _)) e2 hl rfl (Pu h4) h5 (h4.star _))
     . exact .none
    . exact .none
   . exact .none
  . exact .none
 all_goals exact Bool.noConfusion (show false=true from hk)
theorem Bg(hS:iR P rn)(hX:lg P rn)(hF:gI P fns)(ct:aW P k X c)(hK:z.K=X.K)(hc:Cm P c e x)(h:aR rn z.bor k fns x g=some (r,g')):az X z e g r g':=HS hS hX hF ct hK hc r g' h
end
section
theorem Bh(hS:iR P rn)(ct:aW P k X c)(hK:z.K=X.K)(hc:Cm P c e x)(h:stepT rn z.bor k x g=some (b,g')):bL X z e g b g':=by
 have plain:(match rn.e z.bor k x g with |some (r,g1)=>(match pk (norm r) g1 with |some d=>(match FZ d with |some c=>some (c,g1) |none=>none) |none=>none) |none=>none)=some (b,g')->
   (∀whole,isTrue e X.env whole=(do let v <- whole;standAt e.pos;holding [v] (truthy v)))->bL X z e g b g':=by
  intro h he;left
  .
   rename_i r g1 e1;left
   .
    rename_i d e2;left
    . rename_i b' e3;symm;exact zD hK (bq (hS.e ct hK hc e1)) e2 e3 he
    . symm
   . symm
  . symm
 obtain⟨n,t,rfl,hk⟩:=hc.Hy;cases x
 case cmp op a b=>
  have h1:=Cm.mk (ak hk).1;have h2:=Cm.mk (ak (ak hk).2).1;have h3:=gU (ak (ak hk).2).2;unfold stepT at h;dsimp only at h;left
  .
   rename_i r1 r2 g2 e1;obtain⟨s1,s2,g1,q1,q2,q3⟩:=fV e1;cases q3;left
   .
    rename_i d1 d2 p1 p2;left
    . rename_i r0 e3;symm;exact Mk (bq (hS.e ct hK h1 q1)) (bq (hS.e ct hK h2 q2)) p1 p2 (kW hK ct.room e3) h3
    . symm
   . symm
  . symm
 case chain a ops xs=>
  obtain⟨k1,k2⟩:=ak hk;obtain⟨k3,k4⟩:=ak k2;obtain⟨k5,k6⟩:=ak k4;obtain⟨Ny,Nz,ops,rfl⟩:=two (dec (ak k6).1);obtain⟨x1,x2,xs,rfl⟩:=two (dec (ak k6).2);have h1:=Cm.mk k1;have h2:=bU (R:=Cm P c) .mk k3;have h3:=gU k5;unfold stepT at h;dsimp only at h;left
  . rename_i d1 g1 e1;exact zB (aP hS ct hK h1 e1) (Az hS ct hK h2 h) h3
  . symm
 case not a=>
  have h1:=Cm.mk hk;unfold stepT at h;dsimp only at h;left
  . rename_i b' g1 e1;symm;exact Ml (hS.t ct hK h1 e1)
  . symm
 case and xs=>exact (Ba hS ct hK (bU .mk hk) h).tr
 case or xs=>exact (HD hS ct hK (bU .mk hk) h).tr
 case ite a b d=>symm
 case val d=>exact plain h (by rw[show Hx P (d9 P n) c (.val d) t=tH d t from rfl];unfold tH;split <;> exact λ_=>rfl)
 case peek xe=>exact plain h (by obtain⟨x,p,a,es,pos,e⟩:=qW (ak hk).1;rw[show Hx P (d9 P n) c (.peek xe) t=d9 P n c xe t from rfl,e];exact λ_=>rfl)
 all_goals first |exact plain h λ_=>rfl |exact Bool.noConfusion (show false=true from hk)
theorem uX(ct:aW P k X c):PassesOwn (~~~2) X.A X.env X.xe:=by rw[ct.xe];exact PassesOwn.never
theorem lu(hb:∀{g g':G}{f:Fl},b g=some (f,g')->bZ X z body g f g'):∀{aj:List D}{g g':G}{f:Fl},bD T b aj g=some (f,g')->cT X z body T aj g f g'
 | [],_,_,_,h=>by symm;exact .nil
 |d::l,_,_,_,h=>by
  unfold bD at h;left
  . symm
  .
   rename_i g0 e0;left
   . symm
   . rename_i g1 e1;exact .next e0 (hb e1) (lu hb h)
   . rename_i g1 e1;exact .cont e0 (hb e1) (lu hb h)
   . rename_i g1 e1;symm;exact .brk e0 (hb e1)
   . rename_i g1 e1;symm;exact .ret e0 (hb e1)
theorem tM(ht:∀{g g':G}{v:Bool},t g=some (v,g')->bL X z ce g v g')(hb:∀{g g':G}{f:Fl},b g=some (f,g')->bZ X z body g f g') :
  ∀{n:Nat}{g g':G}{f:Fl},Uv t b n g=some (f,g')->jH X z ce body n g f g'
 | 0,_,_,_,h=>by symm
 |n+1,_,_,_,h=>by
  unfold Uv at h;left
  . symm
  . rename_i g1 e1;symm;exact .done (ht e1)
  .
   rename_i g1 e1;left
   . symm
   . rename_i g2 e2;exact .next (ht e1) (hb e2) (tM ht hb h)
   . rename_i g2 e2;exact .cont (ht e1) (hb e2) (tM ht hb h)
   . rename_i g2 e2;symm;exact .brk (ht e1) (hb e2)
   . rename_i g2 e2;symm;exact .ret (ht e1) (hb e2)
theorem lz(h:Cm P c e x)(hn:tD (λ_ _=>true) e=false)(t:Option Expr)(l:Nat)(env:Env):swapsWith e t l env=pure false:=by have hs:=h.Ax;cases e <;> first |rfl |exact Bool.noConfusion (show true=false from hn) |exact Bool.noConfusion (show false=true from hs)
theorem rz(ct:aW P k X c)(fS:c.df=true)(hl:jo c y=true):swapsWith (.ListComp a b s p) (some (.Name y py)) l X.env=pure (Uw c y py p s):=by
 show (pure (X.env.blockKind==.function&&X.env.kindOf y==some .local&&py.line==(Expr.ListComp a b s p).pos.line&&!(s.names.any λ(n,k)=>n==y&&(k==.local||k==.cell))):Sem Bool)=_
 rw[ct.bk fS];have e:(X.env.kindOf y==some .local)=(c.sc.names.lookup y==some .local):=by
  unfold jo at hl;split at hl
  . rename_i e;rw[e];show (X.env.scope.names.lookup y==_)=_;rw[ct.W9 y e]
  . rename_i e;rw[e];show (X.env.scope.names.lookup y==_)=_;rw[ct.cel fS y e]
  . cases hl
 rw[e];rfl
theorem nM(ct:aW P k X c)(fS:c.df=true)(hl:jo c y=true)(h:Cm P c e x)(hn:tD (λs p=>Uw c y py p s) e=false):swapsWith e (some (.Name y py)) l X.env=pure false:=by have hs:=h.Ax;cases e <;> first |rfl |exact Bool.noConfusion (show true=false from hn) |exact Bool.noConfusion (show false=true from hs) | (rw[rz ct fS hl];exact congrArg pure hn)
theorem Px{x:Str}{pn fQ:Pos}{ix:Expr}{xi:Ex}{X:Cx}(h:Cm P c ix xi):∀v,assign (.Subscript (.Name x pn) ix fQ) X.env v=(do
   let ov <- holding [v] (eval (.Name x pn) X.env)
   let iv <- holding [v,ov] (eval ix X.env)
   standAt fQ
   holding [v,ov,iv] (setItem ov iv v)
   release [v,ov,iv] []):=by
 have hs:=h.Ax;cases ix <;> first |exact λ_=>rfl |exact Bool.noConfusion (show false=true from hs)
theorem HW{ix:Expr}{xi:Ex}(h:Cm P c ix xi):∀ov iv new,augStore ix ov iv new=(do holding [new,ov,iv] (setItem ov iv new);release [new,ov,iv] [];pure .next):=by have hs:=h.Ax;cases ix <;> first |exact λ_ _ _=>rfl |exact Bool.noConfusion (show false=true from hs)
theorem Py(h:Cm P c e x):swappedStores [.Subscript (.Name y pn) ix fQ] e env=pure none:=by cases e <;> first |rfl |exact Bool.noConfusion (show false=true from hs)
theorem lA(hS:iR P rn)(ct:aW P k X c)(fS:c.df=true)(hK:z.K=X.K)(hc:DG P c s x)(h:aC rn z.bor k x g=some (f,g')):eS X z s g f g':=by
 obtain⟨mm,n,t,rfl,hk⟩:=hc.Hy;cases x
 case ret x=>
  have h1:=Cm.mk hk;unfold aC at h;dsimp only at h;left
  . rename_i r g1 e1;symm;exact Nj (hS.e ct hK h1 e1)
  . symm
 case expr x=>
  have h1:=Cm.mk (ak hk).1;have h2:=Zf (ak hk).2;unfold aC at h;dsimp only at h;left
  . rename_i r g1 e1;symm;exact Fv (hS.e ct hK h1 e1) (lz h1 h2 _ _ _)
  . symm
 case set i x=>
  have h1:=dec (ak (ak hk).1).1;have h2:=(ak (ak hk).1).2;have h3:=Cm.mk (ak (ak hk).2).1;have h4:=gU (ak (ak hk).2).2;have nm:=ct.nm h1 h2;have hsw:swapsWith (d9 P (mm+1) c x (aM t 0)) (some (.Name (Ev.nm c i) (aM t 1).pos)) t.pos.line X.env=pure false:=nM ct fS h2 h3 h4;unfold aC at h;dsimp only at h;left
  . symm
  .
   rename_i hb;left
   .
    rename_i l g1 e1;left
    . rename_i hl;symm;exact Fy nm.nd nm.ix nm.lc (hS.e ct hK h3 e1) hl hsw nm.fn hb
    . symm
   .
    rename_i r g1 _ e1;left
    . rename_i d g2 e2;symm;exact Fw nm.nd nm.ix nm.lc (Ay (hS.e ct hK h3 e1) e2) hsw nm.fn hb
    . symm
   . symm
 case setC i x=>
  obtain⟨g1,g2⟩:=ak hk;obtain⟨h2,g4⟩:=ak g2;obtain⟨h3,g6⟩:=ak g4;have h1:=dec g1;cases x
  case comp n' kk T it co xe=>
   have hl:c.sc.names.lookup (Ev.nm c i)=some .local:=by unfold Uw at h2;simp only[eQ]at h2;exact eq_of_beq h2.1.1
   have cD:jo c (Ev.nm c i)=true:=by unfold jo;rw[hl]
   have nm:=ct.nm h1 cD;unfold aC at h;dsimp only at h;left
   . symm
   .
    rename_i hb;left
    .
     rename_i acc g1 e1;left
     .
      rename_i hi;symm;obtain⟨rfl,k1,k2,k3,k4,k5,k6,k7,k8⟩:=rq h3
      . obtain⟨aj,g1,gE,w1,w2,w3,w4,w5,rfl⟩:=rm hS ct hK k3 k4 k5 k6 k7 k8 e1;exact FT (pA ct k1) ct.calm (by rw[ct.N];exact nL k2) w1 w2 w3 w4 w5 nm.nd nm.ix (ct.W9 _ hl) hb hi (by rw[rz ct fS cD,h2]) λww=>k6.folded ww
     . symm
    . symm
  all_goals exact Bool.noConfusion (show false=true from g6)
 case item i xj x=>
  have h1:=(jI (ak hk).1).1;have h2:=(jI (ak hk).1).2.1;have h3:=(jI (ak hk).1).2.2;have h4:=Cm.mk (ak (ak hk).2).1;have h5:=Cm.mk (ak (ak (ak hk).2).2).1;have h6:=Zf (ak (ak (ak hk).2).2).2;obtain⟨hd,cB⟩:=dP h3;unfold aC at h;dsimp only at h;left
  .
   rename_i d g1 e1;left
   .
    rename_i l0 e2;left
    .
     rename_i n g2 e3;left
     .
      rename_i l e4;left
      . rename_i m e5;symm;have hsw:=lz h5 h6 (some (.Subscript (.Name (Ev.nm c i) (kid (aM t 1) 0).pos) (d9 P (mm+1) c xj (kid (aM t 1) 1)) (aM t 1).pos)) t.pos.line X.env;have cD:swappedStores [.Subscript (.Name (Ev.nm c i) (kid (aM t 1) 0).pos) (d9 P (mm+1) c xj (kid (aM t 1) 1)) (aM t 1).pos] (d9 P (mm+1) c x (aM t 0)) X.env=pure none:=Py h5;exact Fz (by rw[ct.N];exact h1) (ct.vis h2) hd cB (aP hS ct hK h5 e1) e2 (aP hS ct hK h4 e3) e4 e5 (Px h4) hsw cD rfl
      . symm
     . symm
    . symm
   . symm
  . symm
 case qO i xj x=>
  have h1:=(jI (ak hk).1).1;have h2:=(jI (ak hk).1).2.1;have h3:=(jI (ak hk).1).2.2;have h4:=Cm.mk (ak (ak hk).2).1;have h5:=Cm.mk (ak (ak hk).2).2;obtain⟨hd,cB⟩:=dP h3;unfold aC at h;dsimp only at h;left
  .
   rename_i l0 e0;left
   .
    rename_i n g1 e1;left
    .
     rename_i l1 e2;left
     .
      rename_i a e3;left
      .
       rename_i b g2 e4;left
       .
        rename_i l e5;left
        .
         rename_i hn;symm;obtain⟨m,rfl⟩:∃m:Nat,n=m:=⟨n.toNat,by have:=hn.1;lia⟩
         exact Ae (by rw[ct.N];exact h1) (ct.vis h2) hd cB e0 (aP hS ct hK h4 e1) e2 e3 (aP hS ct hK h5 e4) e5 hn.2 (HW h4)
        . symm
       . symm
      . symm
     . symm
    . symm
   . symm
  . symm
 case ite e a b=>
  have h1:=Cm.mk (ak hk).1;have h2:=pX.mk (ak (ak hk).2).1;have h3:=pX.mk (ak (ak hk).2).2;unfold aC at h;dsimp only at h;left
  . rename_i g1 e1;exact Km (hS.t ct hK h1 e1) (by rw[lL rfl];exact hS.b ct fS hK h2 h)
  . rename_i g1 e1;exact Km (hS.t ct hK h1 e1) (by rw[i8 oP];exact hS.b ct fS hK h3 h)
  . symm
 case loop T it b=>
  have h1:=tG (t:=aM t 0) (ak hk).1;have h2:=tF (R:=Cm P c) .mk (ak (ak hk).2).1;have h3:=pX.mk (ak (ak hk).2).2;unfold aC at h;dsimp only at h;left
  . symm
  .
   rename_i hb;left
   . rename_i aj g1 e1;exact Nt (uX ct) ct.calm (tK hS ct hK (Bc h1) h2 e1) (Bd ct hK h1 λi hi hm=>hb (by rw[List.any_eq_true];exact⟨i,hi,nN hm⟩)) (lu (λe=>hS.b ct fS hK h3 e) h) λy=>h2.folded y
   . symm
 case «while» e b=>have h1:=Cm.mk (ak hk).1;have h2:=pX.mk (ak hk).2;exact zC (uX ct) (tM (λe=>hS.t ct hK h1 e) (λe=>hS.b ct fS hK h2 e) h)
 case raise i x=>symm
 case stuck=>symm
 all_goals exact Bool.noConfusion (show false=true from hk)
theorem tN(hS:iR P rn)(ct:aW P k X c)(fS:c.df=true)(hK:z.K=X.K)(h:Xc P (Cm P c) (DG P c) c ss x)(e:aC rn z.bor k x g=some (f,g')):mj X z ss g f g':=by
 cases h with
theorem Bj(hS:iR P rn)(ct:aW P k X c)(fS:c.df=true)(hK:z.K=X.K):∀{fZ:List Stmt}{xs:List Sm}{g g':G}{f:Fl},pX P c fZ xs->bW rn z.bor k xs g=some (f,g')->bZ X z fZ g f g':=by
 intro fZ xs g g' f hc h
 induction hc generalizing g with
 |nil=>symm;exact Nc
 |grp h1 h2 ih=>
  unfold bW at h;left
  . rename_i g1 e1;exact (tN hS ct fS hK h1 e1).bk (ih h)
  . rename_i hn e1;symm;exact (tN hS ct fS hK h1 e1).end λe=>hn e
  . symm
 |cons h1 h2 ih=>
  unfold bW at h;left
  . rename_i g1 e1;exact Ft (lA hS ct fS hK h1 e1) (ih h)
  .
   rename_i hn e1;symm;have q:=lA hS ct fS hK h1 e1;cases f with
   |nx=>exact absurd rfl hn
   |rt r=>exact Ng q
   |bk=>exact Nh q
   |ct=>exact Ni q
  . symm
end
theorem HX{P:Pg}{k:Nat}{prog:Program}{w:World}{K:Frag}{mg:Str->Option Value}{base:Heap}{N ps:List Str}{qual:Str}{scope:Scope}{f:Addr}{bh:Value}{A:Around}{outer:List Env}{s:Shared}{H:Hp}{E:XK}
  (S:bE N ps scope) (md:oZ P K mg) (cB:PySem.W.codeIn K bh qual=true) (hr:bK k (A.deeper (envOfC qual scope s⁻¹ f bh))):DK P k (eH (yg prog w) prog w K mg base N qual scope f bh A outer s H E) ⟨N,scope,true,qual⟩:=by
 refine⟨⟨rfl,S.nd,λx e=>e,λx e=>e,λx e=>e,λ_ x e=>e,λx _=>rfl,λ_=>?_,rfl,rfl,md,hr,λe h=>⟨rfl,md.lam h _ e _ cB⟩⟩,rfl,PassesOwn.leaving⟩
 show (if scope.kind.isAnnotationScope then ScopeKind.function else scope.kind)=.function
 rw[S.kind];rfl
section
theorem lB(hS:iR P rn)(hX:lg P rn)(cx:DK P k X c)(hK:z.K=X.K)(hC:fM P X.mg ci C):∀{es:List Expr}{xs:List Ex}{g g':G},ym P c es xs->xArgs rn z.bor k xs g=some (ci,g')->NP X z es g C g':=by
 intro es xs g g' hc h
 induction hc generalizing g with
 |nil=>symm
 |cons h1 h2 ih=>
  unfold xArgs at h;left
  . rename_i e1;symm;exact Gh (hX.x cx hK hC h1 e1) (h1.star _)
  .
   left
   . rename_i r g1 e1;exact Gi (hS.e cx.ct hK h1 e1).lift (ih h) (h1.star _)
   . symm
theorem Zm(hS:iR P rn)(hX:lg P rn)(cx:DK P k X c)(hK:z.K=X.K)(hC:fM P X.mg ci C)(ha:Cm P c a xa)(hb:Cm P c b xb)(h:xArgs rn z.bor k [xa,xb] g=some (ci,g')):jP X z a g C g'\/∃r g1,az X z a g r g1/\jP X z b g1 C g':=by
 unfold xArgs at h;left
 . rename_i e1;symm;exact .inl (hX.x cx hK hC ha e1)
 .
  left
  .
   rename_i r g1 e1;unfold xArgs at h;left
   . rename_i e2;symm;exact .inr ⟨r,g1,(hS.e cx.ct hK ha e1).lift,hX.x cx hK hC hb e2⟩
   .
    left
    . symm
    . symm
  . symm
theorem Ve(h:xW rn bor k it g=some (ci,g')):Rq it=false/\rn.x bor k it g=some (ci,g'):=by
 unfold xW at h;left
 . symm
 . rename_i e;exact⟨Bool.eq_false_iff.mpr e,h⟩
theorem mz.Zn(h:U7 P c e x)(hw:Rq x=false):Cm P c e x:=by
 cases h with
 |seq h=>exact h
 |_=>cases hw
theorem Bm(hS:iR P rn)(hX:lg P rn)(hF:gI P fns)(cx:DK P k X c)(hK:z.K=X.K)(hC:fM P X.mg ci C)(hc:Cm P c e x)(h:qQ rn z.bor k fns x g=some (ci,g')):jP X z e g C g':=by
 have ct:=cx.ct;obtain⟨n,t,rfl,hk⟩:=hc.Hy;cases x
 case bin op a b=>
  have h1:=Cm.mk (ak hk).1;have h2:=Cm.mk (ak hk).2;rcases Zm hS hX cx hK hC h1 h2 h with q |⟨r,g1,q1,q2⟩
  . exact Ge q
  . exact Gf q1 q2
 case ix a b=>exact NX (hX.x cx hK hC (.mk (ak hk).1) h) (Cm.mk (ak hk).2).uW
 case blt b xs=>
  cases xs with
  |nil=>cases (ak (ak hk).2).2
  |cons x xs=>
  have h2:=(aN (ak hk).1).1;have h3:=(aN (ak hk).1).2;have h4:=bU (R:=Cm P c) .mk (ak (ak hk).2).1;have ha:=lB hS hX cx hK hC h4 h;have cD:=(Cm.mk (ak (ak (ak hk).2).1).1).star (env:=X.env) (gD (d9 P n c) t 2 xs);have cW:=(bU .mk (ak (ak (ak hk).2).1).2).plain (env:=X.env) (pos:=t.pos);have hg:=ct.o7 _ h3;have hm:=ct.md.bn _ h2;cases b <;> first |exact zK ha hg hm rfl ⋯ ⋯ cD cW |exact wK ha hg hm rfl ⋯ ⋯ cD cW
 case call i xs=>
  obtain⟨k1,k2⟩:=ak hk;obtain⟨k3,k4⟩:=ak k2;obtain⟨fi,h1,h2⟩:=pq k1;cases xs with
  |nil=>cases (ak k4).2
  |cons x xs=>
  have h3:=dec k3;have h4:=bU (R:=Cm P c) .mk (ak k4).1;show jP X z (.Call (.Name (qV P i) (kid t 0).pos) (gD (d9 P n c) t 1 (x::xs)) [] t.pos) g C g';rw[<- h2]at h3 ⊢
  have cD:=(Cm.mk (ak (ak k4).1).1).star (env:=X.env) (gD (d9 P n c) t 2 xs);have cW:=(bU .mk (ak (ak k4).1).2).plain (env:=X.env) (pos:=t.pos);obtain⟨fa,fd,hm,Vf,Rv,hB,fY⟩:=ct.md.fn _ fi h1;unfold qQ at h;dsimp only at h;left
  .
   rename_i r e1;symm;cases k with
   |zero=>
    obtain⟨tt,q,kk⟩:=lB hS hX cx hK hC h4 e1;refine⟨_,?_,λO Y M H Q s ac=>kk O Y M H (λ_ _=>False) s ac⟩
    intro ah s O H Q I ht;refine oC (eF I (ct.o7 _ h3) hm ?_ fY);exact AH I.ok.mod.yu Vf.kp (bC (q t.pos ah s O H _ I ht) (by rintro us s1 ⟨_,_,_,_,h⟩;exact h.elim)) cD cW
   |succ k'=>
    have F:gJ X.prog X.w X.K X.mg X.base sH (k'+1) fa fd fi.ps (Ko X.K fi.N fi.ps.length λ_ _ _ _=>False):=zp Vf Rv λ_ _ _ _ _ _ _ _ _ _ _ _ _ h=>h.elim
    exact zL F (lB hS hX cx hK hC h4 e1) ct.room (ct.o7 _ h3) hm Vf.kp hB fY cD cW
  .
   cases pS:fns[i]? with
   |none=>rw[pS]at h;symm
   |some fx=>
    rw[pS]at h;cases k with
    |zero=>symm
    |succ k'=>
     dsimp only at h;left
     .
      rename_i rs g1 e1;have Pz:=hF _ _ _ h1 pS;have F:gJ X.prog X.w X.K X.mg X.base (yg X.prog X.w) (k'+1) fa fd fi.ps (Yy X.K fi.N fi.ps.length λbor g C g'=>∃ci,fM P X.mg ci C/\rn.xb bor k' fx.body g=some (ci,g')):=by refine NT Vf Rv ?_;rintro bh A outer s H E cB hr z' g C g' Rl ⟨ci,Zj,hrun⟩;exact hX.b (HX Rv ct.md cB hr) rfl Rl Zj Pz.body hrun
      unfold kU at h;left
      .
       rename_i hl;left
       . symm
       .
        rename_i gs e2;left
        .
         rename_i ci' gc e3;left
         .
          rename_i gO e4;symm;have ha:=k9 hS ct hK h4 e1;have ha':cI X z (d9 P n c x (kid t 1)::gD (d9 P n c) t 2 xs) g rs g1:=by
           obtain⟨t,q,kk⟩:=ha;refine⟨t,λpos ah s O H Q I hw=>?_,kk⟩
           exact hZ (q pos ah s O H Q (I.wish _) hw) (by rintro _ _ ⟨v,H',I',r,q⟩;exact⟨v,H',I'.bI,r,q⟩) λ_ _ z=>False.elim z
          exact Gn F hK cx.ex ct.room (ct.o7 _ h3) hm Vf.kp hB ha' (by rw[hl.1,Pz.np]) e2 hl.2 ⟨ci,hC,by rw[<- Pz.n];exact e3⟩ e4 fY cD cW
         . symm
        . symm
      . symm
     . symm
 all_goals symm
theorem xu(hX:lg P rn)(cx:DK P k X c)(hK:z.K=X.K)(hC:fM P X.mg ci C)(hc:Cm P c e x)(h:oY rn z.bor k x g=some (ci,g')):Rg X z e g C g':=by
 obtain⟨n,t,e,hk⟩:=hc.Hy;cases x
 case not a=>subst e;exact Gg (hX.t cx hK hC (.mk hk) h)
 case call i l=>exact zH (hX.x cx hK hC hc h) (by rw[e];exact λ_=>rfl)
 case blt b l=>exact zH (hX.x cx hK hC hc h) (by rw[e];exact λ_=>rfl)
 all_goals symm
theorem eS.lift{st:Stmt}{g g':G}{f:Fl}(h:eS X.jM z st g f g'):eS X z st g f g':=by
 obtain⟨t,q,k⟩:=h;refine⟨t,λah s O H D I hw=>?_,k⟩
 exact hZ (q ah s O H D (I.wish _) hw) (λ_ _ q=>q.bI) λ_ _ z=>False.elim z
theorem lC(hb:∀{g g':G}{f:Fl},b g=some (f,g')->bZ X z body g f g')(hx:∀{g g':G},x g=some (ci,g')->zG X z body g C g'):∀{aj:List D}{g g':G},dO T b x aj g=some (ci,g')->eU X z body T C aj g g'
 | [],_,_,h=>by symm
 |d::l,_,_,h=>by
  unfold dO at h;left
  . symm
  .
   rename_i g0 e0;left
   . rename_i e1;symm;exact .here e0 (hx e1)
   .
    left
    . rename_i g1 e1;exact .next e0 (hb e1) (lC hb hx h)
    . rename_i g1 e1;exact .cont e0 (hb e1) (lC hb hx h)
    . symm
theorem HY(h:cX X.jM z tg iter g aj g'):cX X z tg iter g aj g':=by
 obtain⟨wi,q,k⟩:=h;refine⟨wi,λah s O H R I hw=>?_,k⟩
 refine hZ (q ah s O H R (I.wish _) hw) (λv s1 h1=>hZ h1 (λitv s2 h2=>?_) λ_ _ z=>False.elim z) λ_ _ z=>False.elim z
 obtain⟨it,fp,tn,J,H',e1,I',T,st,f2,r⟩:=h2;exact⟨it,fp,tn,J,H',e1,I'.bI,T,st,f2,r⟩
theorem Ia(h:kF X.jM z tg T):kF X z tg T:=by
 obtain⟨t,q,k⟩:=h;refine⟨t,λah s O H v u Q I r hw=>?_,k⟩
 exact hZ (q ah s O H v u Q (I.wish _) r hw) (by rintro _ _ ⟨σ',H',I',q⟩;exact⟨σ',H',I'.bI,q⟩) λ_ _ z=>False.elim z
theorem xx(hS:iR P rn)(hX:lg P rn)(cx:DK P k X c)(fS:c.df=true)(hK:z.K=X.K)(hC:fM P X.mg ci C)(hc:DG P c s x)(h:bx rn z.bor k x g=some (ci,g')):Dt X z s g C g':=by
 have ct:=cx.ct;obtain⟨mm,n,t,rfl,hk⟩:=hc.Hy;cases x
 case ret x=>exact NQ (hX.x cx hK hC (.mk hk) h)
 case expr x=>have h1:=Cm.mk (ak hk).1;have h2:=Zf (ak hk).2;exact Gj (hX.x cx hK hC h1 h) (lz h1 h2 _ _ _)
 case set i x=>have h1:=dec (ak (ak hk).1).1;have h2:=(ak (ak hk).1).2;have h3:=Cm.mk (ak (ak hk).2).1;have h4:=gU (ak (ak hk).2).2;have nm:=ct.nm h1 h2;have hsw:swapsWith (d9 P (mm+1) c x (aM t 0)) (some (.Name (Ev.nm c i) (aM t 1).pos)) t.pos.line X.jM.env=pure false:=nM ct fS h2 h3 h4;exact NZ ⟨nm.nd,nm.ix,nm.lc,nm.fn⟩ (hX.x cx hK hC h3 h) hsw
 case ite e a b=>
  have h1:=Cm.mk (ak hk).1;have h2:=pX.mk (ak (ak hk).2).1;have h3:=pX.mk (ak (ak hk).2).2;unfold bx at h;dsimp only at h;left
  . rename_i e1;symm;exact NR (hX.t cx hK hC h1 e1)
  .
   left
   . rename_i g1 e1;exact zI (hS.t ct hK h1 e1).lift (by rw[lL rfl];exact hX.b cx fS hK hC h2 h)
   . rename_i g1 e1;exact zI (hS.t ct hK h1 e1).lift (by rw[i8 oP];exact hX.b cx fS hK hC h3 h)
   . symm
 case raise i x=>
  have h1:=dec (ak hk).1;have h2:=dec (ak (ak hk).2).1;have h3:=Cm.mk (ak (ak hk).2).2;unfold bx at h;dsimp only at h;left
  .
   rename_i d g1 e1;symm;obtain⟨y,q1,q2⟩:=hC;rw[h1]at q1;cases q1;obtain⟨fY,C',q3,q4⟩:=ct.md.cls _ (fA h1);have e:C'=C:=by have:=q3.symm.trans q2;cases this;rfl
   subst e;exact zJ ct.calm cx.ex q4 (ct.o7 _ h2) q2 fY (dw (aP hS ct hK h3 e1).lift fG (h3.star _)) (h3.star _)
  . symm
 case loop T it b=>
  have h1:=tG (t:=aM t 0) (ak hk).1;have h2:=tF (R:=Cm P c) .mk (ak (ak hk).2).1;have h3:=pX.mk (ak (ak hk).2).2;unfold bx at h;dsimp only at h;left
  . symm
  .
   rename_i hb;left
   . rename_i aj g1 e1;refine N1 cx.pa ct.calm (HY (tK hS ct hK (Bc h1) h2 e1)) (Ia (Bd ct hK h1 λi hi hm=>hb (by rw[List.any_eq_true];exact⟨i,hi,nN hm⟩))) (lC (λe=>(hS.b ct fS hK h3 e).lift) (λe=>hX.b cx fS hK hC h3 e) h) λy=>h2.folded y
   . obtain⟨hw,h'⟩:=Ve h;have h2:=h2.Zn hw;exact Gp cx.pa ct.calm (hX.x cx hK hC h2 h') λy=>h2.folded y
 all_goals symm
theorem xA(hS:iR P rn)(hX:lg P rn)(cx:DK P k X c)(fS:c.df=true)(hK:z.K=X.K)(hC:fM P X.mg ci C):∀{fZ:List Stmt}{xs:List Sm}{g g':G},pX P c fZ xs->bT rn z.bor k xs g=some (ci,g')->zG X z fZ g C g':=by
 intro fZ xs g g' hc h
 induction hc generalizing g with
 |nil=>symm
 |grp h1 h2 ih=>
  unfold bT at h;left
  . rename_i e1;cases h1 <;> cases e1
  .
   left
   . rename_i g1 e1;exact ((tN hS cx.ct fS hK h1 e1).lift).ra (ih h)
   . symm
 |cons h1 h2 ih=>
  unfold bT at h;left
  . rename_i e1;symm;exact Gk (xx hS hX cx fS hK hC h1 e1)
  .
   left
   . rename_i g1 e1;exact Gm (lA hS cx.ct fS hK h1 e1).lift (ih h)
   . symm
end
theorem rA(hF:gI P fns):∀n,iR P (run fns n)/\lg P (run fns n)
 | 0=>⟨⟨λ_ _ _ h=>(by symm),λ_ _ _ h=>(by symm),λ_ _ _ _ h=>(by symm)⟩,⟨λ_ _ _ _ h=>(by symm),λ_ _ _ _ h=>(by symm),λ_ _ _ _ _ h=>(by symm)⟩⟩
 |n+1=>
  let ⟨a,b⟩:=rA hF n
  ⟨⟨λct hK hc h=>Bg a b hF ct hK hc h,λct hK hc h=>Bh a ct hK hc h,λct fS hK hc h=>Bj a ct fS hK hc h⟩,
  ⟨λcx hK hC hc h=>Bm a b hF cx hK hC hc h,λcx hK hC hc h=>xu b cx hK hC hc h,λcx fS hK hC hc h=>xA a b cx fS hK hC hc h⟩⟩
theorem Ib(hF:gI P fns)(n:Nat):iR P (run fns n):=(rA hF n).1
def cZ(K:Frag)(mg:Str->Option Value)(fi:Fi):Prop:=
 ∃f fd,mg fi.name=some (.ref f)/\Eo K fi.name fi.qual fi.st f fd/\bE fi.N fi.ps (aD fi.st)/\(∀us:List Value,us.length=fi.ps.length->bindArgs fd ⟨us,[]⟩=pure (fi.ps.zip us))/\(fi.name==(~~~3))=false
def Ic(K:Frag)(mg:Str->Option Value)(p:Str×D):Prop:=(p.1==(~~~3))=false/\∃v u,mg p.1=some u/\RelV v u/\∀M H,Rep K M H p.2 v
inductive All{α:Type}(p:α->Prop):List α->Prop
 |nil:All p []
 |cons {a:α}{l:List α}:p a->All p l->All p (a::l)
theorem All.mem{α:Type}{p:α->Prop}:∀{l:List α},All p l->∀a∈l,p a:=by
 intro l h
 induction h with
 |nil=>intro a h;symm
 |cons h t ih=>
  intro a hm;rcases b0.mp hm with rfl |hm
  . exact h
  . exact ih a hm
structure PB(P:Pg)(K:Frag)(mg:Str->Option Value):Prop where
 lam:P.lam=true->∀n∈gG,∀bh,PySem.W.codeIn K bh n=true->Aj K mg n bh
 jy:∀(i:Nat) (C:Addr),P.jy[i]?=some C->∃x,P.cls[i]?=some x/\mg x=some (.ref C)/\dz K C/\Dq K C
 kt:P.lam=true->(P.kt==(~~~3))=false/\∃D,mg P.kt=some (.ref D)/\dz K D/\∀C∈P.jy,qK K C D=true
 ups:∀(x:Str) (l:List (Addr×Bool)),(x,l)∈P.ups->(x==(~~~3))=false/\∃cv,((mg x=some cv/\∃D,cv=.ref D)\/(x∈P.bn/\x≠ "__name__" /\bootBuiltins x=some cv/\∃n,cv=.type n))/\PySem.W.kitOne K (.type "NoneType") cv=some false/\∀C b,l.lookup C=some b->PySem.W.kitOne K (.ref C) cv=some b
theorem Vg{P:Pg}{K:Frag}{mg:Str->Option Value}(h1:All (cZ K mg) P.fn)(h2:All (Ic K mg) P.ct)(h3:All (λx=>mg x=none) P.bn)(h4:All (λx=>(x==(~~~3))=false/\∃C,mg x=some (.ref C)/\dz K C) P.cls)(h5:PB P K mg):oZ P K mg:=
 ⟨λi fi e=>by obtain⟨f,fd,q1,q2,q3,q4,q5⟩:=h1.mem fi (fA e);exact⟨f,fd,q1,q2,q3,.all q4,q5⟩,λx d h=>h2.mem (x,d) h,λx h=>h3.mem x h,λx h=>h4.mem x h,h5.lam,h5.jy,h5.kt,h5.ups⟩
def Zo(fi:Fi):Prop:=∀(kV doc pm:Value) (an:Option Addr) (bh ct:Value) (us:List Value),us.length=fi.ps.length->bindArgs (PySem.W.fnOf fi.name fi.qual (fT fi.st) (aU fi.st) (aD fi.st) .none kV doc pm an bh ct) ⟨us,[]⟩=pure (fi.ps.zip us)
section
variable{K:Frag}
theorem Vh{fi:Fi}{oc:Value}{od an:Option Addr}{osl:Array (Option Value)}{kV doc pm bh ct:Value}(X:K.In h)(G:h.Ns mainGlobals mg)(a:PySem.W.nsIn K mainGlobals fi.name=some (some (.ref f)))
  (l:K.lookup f=some ⟨oc,od,.func (PySem.W.fnOf fi.name fi.qual (fT fi.st) (aU fi.st) (aD fi.st) .none kV doc pm an bh ct),osl⟩) (c:PySem.W.codeIn K bh fi.qual=true) (k:PySem.W.keepIn K (.ref f)=true)
  (sc:bE fi.N fi.ps (aD fi.st)) (hb:Zo fi)
  (hd:(fi.name==(~~~3))=false):cZ K mg fi:=
 let F:=L5 l c k
 ⟨f,_,BF X G a,F,sc,hb kV doc pm an bh ct,hd⟩
theorem Bo(X:K.In h)(G:h.Ns mainGlobals mg)(a:PySem.W.nsIn K mainGlobals x=some (some (.int i t)))(hd:(x==(~~~3))=false):Ic K mg (x,.int i):=
 ⟨hd,.int i,.int i t,BF X G a,⟨t,rfl⟩,λ_ _=>.int i⟩
theorem Vi(X:K.In h)(G:h.Ns mainGlobals mg)(a:PySem.W.nsIn K mainGlobals x=some (some (.ref C)))(q:dz K C)(hd:(x==(~~~3))=false):(x==(~~~3))=false/\∃C,mg x=some (.ref C)/\dz K C:=
 ⟨hd,C,BF X G a,q⟩
theorem PJ{P:Pg}{fns:List Fx}{prog:Program}{w:World}{base:Heap}(hF:gI P fns)(md:oZ P K mg){i:Nat}{fi:Fi}{fx:Fx}{x:Str}{fd:FuncData}{n k:Nat}(Vb:P.fn[i]?=some fi)(pS:fns[i]?=some fx)(hp:fi.ps=[x])(F:Eo K fi.name fi.qual fi.st f fd)(sc:bE fi.N fi.ps (aD fi.st)) :
  gJ prog w K mg base sH (k+1) f fd [x] (Ko K fi.N 1 λbor g r g'=>(run fns n).b bor k fx.body g=some (.rt r,g')):=by
 have:=zp (P:=prog) (w:=w) (base:=base) (run:=λbor g r g'=>(run fns n).b bor k fx.body g=some (.rt r,g')) F sc λbh A outer s H E cB hr z g r g' hK hrun=>
  ⟨_,(Ib hF n).b (lq sc md cB hr) rfl hK (hF i fi fx Vb pS).body hrun,.inl rfl⟩
 rw[hp]at this;exact this
theorem Bp{P:Pg}{fns:List Fx}{prog:Program}{w:World}(hF:gI P fns)(md:oZ P K mg){i:Nat}{fi:Fi}{fx:Fx}{x:Str}{n k:Nat}(Vb:P.fn[i]?=some fi)(pS:fns[i]?=some fx)(hp:fi.ps=[x])(h:cZ K mg fi)(hm:mg fi.name=some (.ref f)) :
  ∃fd:FuncData,(∀(s:Shared) (u:Value),BindsTo s fd ⟨[u],[]⟩ [(x,u)])/\∀base:Heap,K.In base->base.Ns mainGlobals mg->gJ prog w K mg base sH (k+1) f fd [x] (Ko K fi.N 1 λbor g r g'=>(run fns n).b bor k fx.body g=some (.rt r,g')):=by
 obtain⟨f',fd,q1,q2,q3,q4,q5⟩:=h;rw[hm]at q1;cases q1;refine⟨fd,λs u=>.of_eq ?_,λbase _ _=>PJ hF md Vb pS hp q2 q3⟩
 have:=q4 [u] (by rw[hp];rfl)
 rw[hp]at this;exact this
theorem PK{N:List Str}{run:List Nat->G->R->G->Prop}(hev:∀ns:List Int,ns.length<=63->∃g',run [] (bN N.length [.dat (.fix (ns.map .int))]) (.dat (.bl true)) g')(K:Frag)(H:Hp)(a:Addr)(ns: ~~~0)(hl:ns.length<=63)(hO:uO ((bS K).map (·.1)) H)(hS:cF K H a (ns.map V.int)) :
  Ko K N 1 run [.ref a] H (λv _=>v=.bl true) λ_ _ _=>False:=by
 obtain⟨g',hg⟩:=hev ns hl;have fx:iE K ((bS K).map (·.1)) H a (ns.map V.int):=by
  rcases hS with h |h
  .
   rcases hO a with ⟨_,z⟩ |⟨na,z⟩
   . rcases h with h |⟨o,h⟩ <;> (rw[z]at h;symm)
   .
    refine .inl ⟨na,?_⟩;rcases h with h |h
    .
     rcases z with z |⟨o,xs,z⟩
     . rw[z]at h;symm
     . rw[z]at h;symm
    . exact h
  . exact .inr (.inr h)
 have rr:∀ns:List Int,aH K ((bS K).map (·.1)) H (ns.map D.int) (ns.map V.int):=λns=>by
  induction ns with
  |nil=>exact .nil
  |cons n ns ih=>exact .cons (.int n) ih
 have tb:∀p∈bS K,H p.1=some (.jA #[]):=λp hp=>by
  rcases hO p.1 with ⟨_,z⟩ |⟨z,_⟩
  . exact z
  . exact absurd (gL.mpr ⟨p,hp,rfl⟩) z
 refine⟨rfl,⟨K,H,(bS K).map (·.1),[],bS K⟩,bN N.length [.dat (.fix (ns.map .int))],g',[],(bS K).map (·.1),.dat (.bl true),rfl,?_,hg,λv σ' aA M' H' s' st R=>dH R⟩
 refine⟨?_,yA,(λa ha=>nomatch ha),λi b l e1 e2=>?_,(λm hm=>.inr hm),(λb o e _ _=>e),(λm hm=>hm),(λm hm=>?_),(λb hb=>nomatch hb),(λp hp=>nomatch hp),(λp hp=>⟨#[],tb p hp,trivial,λpos cv e=>nomatch e⟩),(λp hp=>gL.mpr ⟨p,hp,rfl⟩),rfl⟩
 . exact Slots.append (.dat (.fix fx (rr ns)) .nil) (Slots.WK _)
 .
  exfalso;unfold bN at e1;cases i with
  |zero=>simp at e1
  |succ i=>rw[dE ⋯]at e1;have:=fA e1;rw[t9]at this;exact absurd this.2 ⋯
 . obtain⟨p,hp,rfl⟩:=gL.mp hm;intro z;have z:H p.1=none:=z;rw[tb p hp]at z;cases z
end
noncomputable abbrev Fi.ct(fi:Fi):Ct:=⟨fi.N,aD fi.st,true,fi.qual⟩
def uY(P:Pg)(fi:Fi)(fx:Fx):List Stmt:=mC (Pj P 99 (Kv P 99 20 fi.ct) fi.ct) (Kv P 99 20 fi.ct) fx.body (aU fi.st)
def fxB(P:Pg)(fi:Fi)(fx:Fx):Bool:=decide (fx.np=fi.ps.length)&&(decide (fx.n=fi.N.length)&&Dz (Pn P 99 (Kw P 99 20 fi.ct) fi.ct) (Kw P 99 20 fi.ct) fx.body (aU fi.st))
theorem PL(e:uY P fi fx=aU fi.st)(h:fxB P fi fx=true):HJ P fi fx:=⟨dec (ak h).1,dec (ak (ak h).2).1,Eq.mp (congrArg (λl=>pX P fi.ct l fx.body) e) (pX.mk (ak (ak h).2).2)⟩
def Ie(P:Pg):List Fi->List Fx->Bool
 |fi::l,fx::r=>fxB P fi fx&&Ie P l r
 |_,_=>true
theorem Ig(e:List.zipWith (uY P) l r=l.map λfi=>aU fi.st)(h:Ie P l r=true)(f:Nat)(fi:Fi)(fx:Fx)(h1:l[f]?=some fi)(h2:r[f]?=some fx):HJ P fi fx:=by
 induction l generalizing r f with
 |nil=>cases h1
 |cons a l ih=>cases r with
  |nil=>cases h2
  |cons b r=>
   cases f with
   |zero=>cases h1;cases h2;exact PL (List.cons.inj e).1 (ak h).1
   |succ f=>exact ih (List.cons.inj e).2 (ak h).2 f h1 h2
theorem PN(h:Ie P P.fn fns=true)(e:List.zipWith (uY P) P.fn fns=P.fn.map λfi=>aU fi.st):gI P fns:=λf fi fx h1 h2=>Ig e h f fi fx h1 h2
theorem Vj(h:us.length=1):∃a,us=[a]:=by
 cases us with
 |nil=>symm
 |cons a us=>cases us with
  |nil=>exact⟨a,rfl⟩
  |cons _ _=>symm
theorem Vk(h:us.length=2):∃a b,us=[a,b]:=by
 cases us with
 |nil=>symm
 |cons a us=>obtain⟨b,rfl⟩:=Vj (AZ h);exact⟨a,b,rfl⟩
theorem Zq(h:us.length=3):∃a b c,us=[a,b,c]:=by
 cases us with
 |nil=>symm
 |cons a us=>obtain⟨b,c,rfl⟩:=Vk (AZ h);exact⟨a,b,c,rfl⟩
def eX(st:Stmt):Fi:=match st with
 |.FunctionDef name args _ _ _ _ scope _ _ _=>⟨name,name,st,(args.args.map (·.arg))++scope.names.filterMap (λy=>if (y.2==.local||y.2==.cell)&&!(args.args.map (·.arg)).contains y.1 then some y.1 else none),args.args.map (·.arg)⟩
 |st=>⟨"", "",st,[],[]⟩
section
theorem rB(ds:List D):∀i,vars i (ds.map R.dat)=[]:=by
 induction ds with
 |nil=>intro i;rfl
 |cons d ds ih=>intro i;exact ih (i+1)
theorem rC(ds:List D):bM (ds.map R.dat) g1=some (ds.map .dat):=by
 induction ds with
 |nil=>rfl
 |cons d ds ih=>
  show (match bM (ds.map R.dat) g1 with |some gs=>some (Slot.dat d::gs) |none=>none)=_
  rw[ih];rfl
noncomputable def xB:List D->G
 | []=>[]
 |d::l=>.dat d::xB l
theorem uZ(ds:List D):xB ds=ds.map .dat:=by
 induction ds with
 |nil=>rfl
 |cons d ds ih=>rw[xB,ih];rfl
def bH(rn:Rn)(k:Nat)(fx:Fx)(ds:List D):Option R:=match rn.b [] k fx.body (bN fx.n (xB ds))with
 |some (.rt r,gc)=>cu [] gc r
 |some (.nx,_)=>some (.dat .non)
 |_=>none
theorem jq(hl:ds.length=fx.np):bG rn fx k (ds.map .dat) g1=(bH rn k fx ds).map λr=>(r,g1):=by
 unfold bG bH;rw[rB,rC,uZ];simp only[eC,hl,List.map_nil];cases rn.b [] k fx.body (bN fx.n (ds.map .dat))with
 |none=>rfl
 |some p=>
  obtain⟨f,gc⟩:=p;cases f with
  |nx=>rfl
  |rt r=>simp only[back];cases cu [] gc r <;> rfl
  |bk=>rfl
  |ct=>rfl
noncomputable def gM(g m:G)(acc:List D):G:=g++(m++[.own acc])
theorem nO{g m:G}{acc:List D}{i:Nat}(h:i<g.length):(gM g m acc)[i]?=g[i]?:=by unfold gM;rw[d5 h]
theorem gX{g m:G}{acc:List D}{i:Nat}(h:i<m.length):(gM g m acc)[g.length+i]?=m[i]?:=by unfold gM;rw[dE ⋯,sK,d5 h]
theorem u5:(gM g m acc)[g.length+m.length]?=some (.own acc):=by unfold gM;rw[dE ⋯,sK,dE (eA _),wT];rfl
theorem gY(h:i<m.length):(gM g m acc).set (g.length+i) s=gM g (m.set i s) acc:=by unfold gM;rw[A8 _ _ ⋯,sK,List.set_append_left _ _ h]
theorem rD:(gM g m acc).set (g.length+m.length) (.own acc')=gM g m acc':=by unfold gM;rw[A8 _ _ ⋯,sK,A8 _ _ (eA _),wT];rfl
theorem Ih:(gM g m acc).take g.length=g:=by unfold gM;simp
theorem Vl:gC kk g=gM g (List.replicate kk .no) []:=rfl
theorem lD{α:Type}(fh:α->D)(f:α->D)(p:α->Bool)(st:α->G->G)(I:G->Prop)(hI:∀m,I m->m.length=kk)(iJ:last=g.length+kk)(cD:∀d m,I m->I (st d m)) :
  ∀(aj:List α) (m:G) (acc:List D),I m->acc.length+aj.length<=lim->
  (∀d∈aj,∀m acc,I m->T.set (fh d) (gM g m acc)=some (gM g (st d m) acc))->
  (∀d∈aj,∀m acc,I m->Oo rn bor k c (gM g (st d m) acc)=some (p d,gM g (st d m) acc))->
  (∀d∈aj,p d=true->∀m acc,I m->gA rn bor k e (gM g (st d m) acc)=some (f d,gM g (st d m) acc))->
  ∃m',I m'/\GX rn bor k T last c e (aj.map fh) (gM g m acc)=some (gM g m' (acc++(aj.filter p).map f))
 | [],m,acc,hm,_,_,_,_=>⟨m,hm,by simp[GX]⟩
 |d::aj,m,acc,hm,hl,hT,hi,he=>by
  rw[tS]at hl;have q1:=hT d dA m acc hm;have q2:=hi d dA m acc hm;have hm':=cD d m hm;have hk:=hI _ hm';rw[List.map_cons];unfold GX;rw[q1];dsimp only;rw[q2];cases hp:p d with
  |false=>
   dsimp only;obtain⟨m',w1,w2⟩:=lD fh f p st I hI iJ cD aj (st d m) acc hm' ⋯ (λx hx=>hT x (a8 _ hx)) (λx hx=>hi x (a8 _ hx)) (λx hx=>he x (a8 _ hx))
   exact⟨m',w1,by rw[w2,List.filter_cons,hp];rfl⟩
  |true=>
   have q3:=he d dA hp m acc hm;dsimp only;rw[q3];dsimp only;have q4:(gM g (st d m) acc)[last]?=some (.own acc):=by rw[iJ,<- hk];exact u5
   rw[q4];dsimp only;rw[lL ⋯];have q5:(gM g (st d m) acc).set last (.own (acc++[f d]))=gM g (st d m) (acc++[f d]):=by rw[iJ,<- hk];exact rD
   rw[q5];obtain⟨m',w1,w2⟩:=lD fh f p st I hI iJ cD aj (st d m) (acc++[f d]) hm' (by rw[i4,y6];lia) (λx hx=>hT x (a8 _ hx)) (λx hx=>hi x (a8 _ hx)) (λx hx=>he x (a8 _ hx))
   refine⟨m',w1,?_⟩;rw[w2,List.filter_cons,hp];simp
theorem Ii{α:Type}(fh:α->D)(f:α->D)(p:α->Bool)(st:α->G->G)(iJ:last=g.length+kk)(cD:∀d m,m.length=kk->(st d m).length=kk) :
  ∀(aj:List α) (m:G) (acc:List D),m.length=kk->acc.length+aj.length<=lim->
  (∀d∈aj,∀m acc,m.length=kk->T.set (fh d) (gM g m acc)=some (gM g (st d m) acc))->
  (∀d∈aj,∀m acc,m.length=kk->Oo rn bor k c (gM g (st d m) acc)=some (p d,gM g (st d m) acc))->
  (∀d∈aj,p d=true->∀m acc,m.length=kk->gA rn bor k e (gM g (st d m) acc)=some (f d,gM g (st d m) acc))->
  ∃m',m'.length=kk/\GX rn bor k T last c e (aj.map fh) (gM g m acc)=some (gM g m' (acc++(aj.filter p).map f)):=
 lD fh f p st (λm=>m.length=kk) (λ_ h=>h) iJ cD
theorem nP{α:Type}{kk nn:Nat}{T:Tg}{it:Ex}{c:Option Ex}{e:Ex}(aj:List α)(fh:α->D)(f:α->D)(p:α->Bool)(st:α->G->G)(hw:eW rn bor k T.cY it g=some (aj.map fh,g1))(hn:nn=g1.length)(hb:(T.ix.any λi=>decide (i∈bor))=false)(hl:aj.length<=lim)(cD:∀d m,m.length=kk->(st d m).length=kk)
  (hT:∀d∈aj,∀m acc,m.length=kk->T.set (fh d) (gM g1 m acc)=some (gM g1 (st d m) acc))
  (hi:∀d∈aj,∀m acc,m.length=kk->Oo rn bor k c (gM g1 (st d m) acc)=some (p d,gM g1 (st d m) acc))
  (he:∀d∈aj,p d=true->∀m acc,m.length=kk->gA rn bor k e (gM g1 (st d m) acc)=some (f d,gM g1 (st d m) acc)) :
  dN rn bor k nn kk T it c e g=some ((aj.filter p).map f,g1):=by
 subst hn;obtain⟨m',w1,w2⟩:=Ii fh f p st rfl cD aj (List.replicate kk .no) [] ⋯ (by simpa using hl) hT hi he
 unfold dN;rw[hw];dsimp only;rw[lL ⟨rfl,hb⟩,Vl,w2];dsimp only;have:(gM g1 m' ([]++(aj.filter p).map f))[g1.length+kk]?=some (.own ([]++(aj.filter p).map f)):=by rw[<- w1];exact u5
 rw[this];rw[Ih,AJ]
theorem PX{j kk:Nat}{d:D}{m:G}{acc:List D}(hj:g.length<=j)(hk:j - g.length<m.length):(Tg.nm j).set d (gM g m acc)=some (gM g (m.set (j - g.length) (.dat d)) acc):=by
 show some ((gM g m acc).set j (.dat d))=_;have:=gY (g:=g) (acc:=acc) (s:=.dat d) hk;rw[show g.length+(j - g.length)=j by lia]at this
 rw[this]
def Ij(g:G)(j:Nat)(d:D)(G':G):Prop:=(∀i,i<g.length->G'[i]?=g[i]?)/\G'[j]?=some (.dat d)
theorem Vm{α:Type}{kk nn j:Nat}{it:Ex}{c:Option Ex}{e:Ex}(aj:List α)(fh:α->D)(p:α->Bool)(f:α->D)(hw:eW rn bor k false it g=some (aj.map fh,g1))(hn:nn=g1.length)(hj1:g1.length<=j)(hj2:j<g1.length+kk)(hb:j∉bor)(hl:aj.length<=lim)
  (hi:∀a∈aj,∀G',Ij g1 j (fh a) G'->Oo rn bor k c G'=some (p a,G')) (he:∀a∈aj,p a=true->∀G',Ij g1 j (fh a) G'->gA rn bor k e G'=some (f a,G')) :
  dN rn bor k nn kk (.nm j) it c e g=some ((aj.filter p).map f,g1):=by
 have sees:∀(a:α) (m:G) (acc:List D),m.length=kk->Ij g1 j (fh a) (gM g1 (m.set (j - g1.length) (.dat (fh a))) acc):=λa m acc hm=>by
  refine⟨λi hi=>nO hi,?_⟩
  have:=gX (g:=g1) (m:=m.set (j - g1.length) (.dat (fh a))) (acc:=acc) (i:=j - g1.length) (by simp;lia)
  rw[show g1.length+(j - g1.length)=j by lia]at this
  rw[this,gN ⋯]
 refine nP aj fh f p (λa m=>m.set (j - g1.length) (.dat (fh a))) hw hn (by simp[Tg.ix,hb]) hl (λd m hm=>by simpa using hm) (λa _ m acc hm=>PX (kk:=kk) hj1 ⋯) (λa ha m acc hm=>hi a ha _ (sees a m acc hm)) λa ha hp m acc hm=>he a ha hp _ (sees a m acc hm)
theorem filter_all{α:Type}(l:List α):l.filter (λ_=>true)=l:=List.filter_eq_self.mpr λ_ _=>rfl
theorem Kz{α:Type}(aj:List α)(fh:α->D)(f:α->D)(hw:eW rn bor k false it g=some (aj.map fh,g1))(hn:nn=g1.length)(hj1:g1.length<=j)(hj2:j<g1.length+kk)(hb:j∉bor)(hl:aj.length<=lim)
  (he:∀a∈aj,∀G',Ij g1 j (fh a) G'->gA rn bor k e G'=some (f a,G')):dN rn bor k nn kk (.nm j) it none e g=some (aj.map f,g1):=by
 have:=Vm (c:=none) aj fh (λ_=>true) f hw hn hj1 hj2 hb hl (λ_ _ _ _=>rfl) λa ha _ G' hG=>he a ha G' hG
 rw[filter_all]at this;exact this
def u6(g:G)(j1 j2:Nat)(d1 d2:D)(G':G):Prop:=(∀i,i<g.length->G'[i]?=g[i]?)/\G'[j1]?=some (.dat d1)/\G'[j2]?=some (.dat d2)
theorem Vn{α:Type}(aj:List α)(gF gZ:α->D)(p:α->Bool)(f:α->D)(hw:eW rn bor k true it g=some (aj.map λa=>.tup [gF a,gZ a],g1))(hn:nn=g1.length)(hj1:g1.length<=j1)(Vo:j1<g1.length+kk)(hj2:g1.length<=j2)(Vp:j2<g1.length+kk)(uq:j1≠j2)(hb1:j1∉bor)(hb2:j2∉bor)(hl:aj.length<=lim)
  (hi:∀a∈aj,∀G',u6 g1 j1 j2 (gF a) (gZ a) G'->Oo rn bor k c G'=some (p a,G')) (he:∀a∈aj,p a=true->∀G',u6 g1 j1 j2 (gF a) (gZ a) G'->gA rn bor k e G'=some (f a,G')) :
  dN rn bor k nn kk (.tp [j1,j2]) it c e g=some ((aj.filter p).map f,g1):=by
 have sees:∀(a:α) (m:G) (acc:List D),m.length=kk->u6 g1 j1 j2 (gF a) (gZ a) (gM g1 ((m.set (j1 - g1.length) (.dat (gF a))).set (j2 - g1.length) (.dat (gZ a))) acc):=λa m acc hm=>by
  refine⟨λi hi=>nO hi,?_,?_⟩
  .
   have:=gX (g:=g1) (m:=(m.set (j1 - g1.length) (.dat (gF a))).set (j2 - g1.length) (.dat (gZ a))) (acc:=acc) (i:=j1 - g1.length) (by simp;lia)
   rw[show g1.length+(j1 - g1.length)=j1 by lia]at this
   rw[this,eD ⋯,gN ⋯]
  .
   have:=gX (g:=g1) (m:=(m.set (j1 - g1.length) (.dat (gF a))).set (j2 - g1.length) (.dat (gZ a))) (acc:=acc) (i:=j2 - g1.length) (by simp;lia)
   rw[show g1.length+(j2 - g1.length)=j2 by lia]at this
   rw[this,gN (by simp;lia)]
 refine nP aj (λa=>.tup [gF a,gZ a]) f p (λa m=>(m.set (j1 - g1.length) (.dat (gF a))).set (j2 - g1.length) (.dat (gZ a))) hw hn (by simp[Tg.ix,hb1,hb2]) hl (λd m hm=>by simpa using hm) (λa _ m acc hm=>?_) (λa ha m acc hm=>hi a ha _ (sees a m acc hm)) λa ha hp m acc hm=>he a ha hp _ (sees a m acc hm)
 have q1:=gY (g:=g1) (m:=m) (acc:=acc) (i:=j1 - g1.length) (s:=.dat (gF a)) ⋯;have q2:=gY (g:=g1) (m:=m.set (j1 - g1.length) (.dat (gF a))) (acc:=acc) (i:=j2 - g1.length) (s:=.dat (gZ a)) (by simp;lia)
 rw[show g1.length+(j1 - g1.length)=j1 by lia]at q1
 rw[show g1.length+(j2 - g1.length)=j2 by lia]at q2
 show some (((gM g1 m acc).set j1 (.dat (gF a))).set j2 (.dat (gZ a)))=_;rw[q1,q2]
theorem P0{α:Type}(aj:List α)(gF gZ:α->D)(f:α->D)(hw:eW rn bor k true it g=some (aj.map λa=>.tup [gF a,gZ a],g1))(hn:nn=g1.length)(hj1:g1.length<=j1)(Vo:j1<g1.length+kk)(hj2:g1.length<=j2)(Vp:j2<g1.length+kk)(uq:j1≠j2)(hb1:j1∉bor)(hb2:j2∉bor)(hl:aj.length<=lim)
  (he:∀a∈aj,∀G',u6 g1 j1 j2 (gF a) (gZ a) G'->gA rn bor k e G'=some (f a,G')):dN rn bor k nn kk (.tp [j1,j2]) it none e g=some (aj.map f,g1):=by
 have:=Vn (c:=none) aj gF gZ (λ_=>true) f hw hn hj1 Vo hj2 Vp uq hb1 hb2 hl (λ_ _ _ _=>rfl) λa ha _ G' hG=>he a ha G' hG
 rw[filter_all]at this;exact this
theorem jr{α:Type}(fh:α->D)(I:List α->G->Prop)(step:∀a l g,I (a::l) g->∃g1 g2,T.set (fh a) g=some g1/\b g1=some (.nx,g2)/\I l g2):∀l g,I l g->∃g',I [] g'/\bD T b (l.map fh) g=some (.nx,g')
 | [],g,h=>⟨g,h,rfl⟩
 |a::l,g,h=>by
  obtain⟨g1,g2,q1,q2,q3⟩:=step a l g h;obtain⟨g',w1,w2⟩:=jr fh I step l g2 q3;exact⟨g',w1,by rw[List.map_cons];unfold bD;rw[q1];dsimp only;rw[q2];exact w2⟩
end
theorem ints_map(l: ~~~0):dJ (l.map .int)=some l:=by
 induction l with
 |nil=>rfl
 |cons a l ih=>simp[dJ,ih]
theorem Ik(l:List Bool):qu (l.map .bl)=some l:=by
 induction l with
 |nil=>rfl
 |cons a l ih=>simp[qu,ih]
theorem Bq(l:List D):mq .len [.tup l]=some (.dat (.int l.length)):=rfl
theorem Br(l:List D):mq .len [.lst l]=some (.dat (.int l.length)):=rfl
theorem lE(l:List D):mq .len [.fix l]=some (.dat (.int l.length)):=rfl
theorem xD(l:List D):mq .list [.tup l]=some (.new l):=rfl
theorem xE(l:List D):mq .list [.lst l]=some (.new l):=rfl
theorem tQ(l:List D):mq .tuple [.lst l]=some (.dat (.tup l)):=rfl
theorem tR(l:List D):mq .tuple [.tup l]=some (.dat (.tup l)):=rfl
theorem Il(i j:Int):mq .max [.int i,.int j]=some (.dat (.int (if j > i then j else i))):=rfl
theorem Im(i j:Int):mq .min [.int i,.int j]=some (.dat (.int (if j<i then j else i))):=rfl
theorem P1(l:List Bool):mq .all [.lst (l.map .bl)]=some (.dat (.bl (l.all id))):=by simp only[mq,Rp,Ik]
theorem rE(l: ~~~0)(h:l.length<64):mq .sorted [.lst (l.map .int)]=some (.new ((cz l).map .int)):=by simp only[mq,Rp,cM,ints_map,h,B6]
theorem dQ:∀a b:List Int,fz (a.map .int) (b.map .int)=decide (a=b)
 | [],[]=>rfl
 | [],_::_=>rfl
 |_::_,[]=>rfl
 |x::a,y::b=>by
  simp only[List.map_cons,fz,dQ a b,List.cons.injEq,Bool.decide_and];rfl
theorem nQ(a: ~~~0):lW (a.map .int)=true:=by
 induction a with
 |nil=>rfl
 |cons x a ih=>simp[lW,lP,ih]
theorem nR(a: ~~~0):deps (a.map .int)=0:=by
 induction a with
 |nil=>rfl
 |cons x a ih=>simp[deps,dep,ih]
theorem nU(a b: ~~~0):iQ (.tup (a.map .int)) (.tup (b.map .int))=true:=by simp[iQ,lP,nQ,dep,nR]
theorem lF(a b: ~~~0):iQ (.lst (a.map .int)) (.lst (b.map .int))=true:=by simp[iQ,lP,nQ,dep,nR]
theorem P4(a b: ~~~0):gS .Eq (.tup (a.map .int)) (.tup (b.map .int))=some (decide (a=b)):=by simp only[gS,nU,B6,gj,dQ]
theorem P5(a b: ~~~0):gS .NotEq (.tup (a.map .int)) (.tup (b.map .int))=some (!decide (a=b)):=by simp only[gS,nU,B6,gj,dQ]
theorem Bs(a b: ~~~0):gS .Eq (.lst (a.map .int)) (.lst (b.map .int))=some (decide (a=b)):=by simp only[gS,lF,B6,gj,dQ]
theorem tT(a b: ~~~0):gS .NotEq (.lst (a.map .int)) (.lst (b.map .int))=some (!decide (a=b)):=by simp only[gS,lF,B6,gj,dQ]
theorem P6(a b:Int):gS .Eq (.int a) (.int b)=some (decide (a=b)):=rfl
theorem P7(a b:Int):gS .NotEq (.int a) (.int b)=some (!decide (a=b)):=rfl
theorem P8(a b:Int):gS .Lt (.int a) (.int b)=some (decide (a<b)):=rfl
theorem P9(a b:Int):gS .LtE (.int a) (.int b)=some (decide (a<=b)):=rfl
theorem Qa(a b:Int):gS .Gt (.int a) (.int b)=some (decide (a > b)):=rfl
theorem Qc(a b:Int):gS .GtE (.int a) (.int b)=some (decide (a ≥ b)):=rfl
theorem Io(a b:Int):fB .Add (.int a) (.int b)=some (.dat (.int (a+b))):=rfl
theorem Ip(a b:Int):fB .Sub (.int a) (.int b)=some (.dat (.int (a - b))):=rfl
theorem Zr(l:List D)(i:Int):Ro (.tup l) (.int i)=L2.fj l i:=rfl
theorem Zt(l:List D)(i:Int):Ro (.lst l) (.int i)=L2.fj l i:=rfl
theorem Zu(l:List D)(i:Int):Ro (.fix l) (.int i)=L2.fj l i:=rfl
theorem iS{α:Type}(l:List α)(i:Nat)(h:i<l.length):L2.fj l (i:Int)=some l[i]:=by unfold L2.fj L2.rY;simp[h]
theorem Bt(l: ~~~0)(i:Nat)(h:i<l.length):L2.fj (l.map D.int) (i:Int)=some (.int l[i]):=by
 rw[iS _ _ (by simpa using h)]
 simp
theorem is_tup(l:List D):dD (lQ (.tup l)) "tuple"=true:=rfl
theorem Qd(i:Int):dD (lQ (.int i)) "int"=true:=rfl
theorem Bu(i:Int):dD (lQ (.int i)) "bool"=false:=rfl
theorem aF(m:Nat)(h:m<=1000):m<=lim:=eM h ⋯
theorem bX(i:Int)(h:0<=i/\i<=1000):pW i=true:=by unfold pW;simp only[eQ];lia
section
theorem aZ(h:fx.np=1):bG rn fx k [.dat d] g1=(bH rn k fx [d]).map λr=>(r,g1):=jq (ds:=[d]) h.symm
theorem dj(h:fx.np=2):bG rn fx k [.dat d,.dat e] g1=(bH rn k fx [d,e]).map λr=>(r,g1):=jq (ds:=[d,e]) h.symm
theorem Iq(h:fx.np=3):bG rn fx k [.dat d,.dat e,.dat f] g1=(bH rn k fx [d,e,f]).map λr=>(r,g1):=jq (ds:=[d,e,f]) h.symm
end
structure eY(fns:List Fx)(rn:Nat->Rn):Prop where
 e:∀(n:Nat) (bor:List Nat) (k:Nat) (x:Ex) (g:G),(rn (n+1)).e bor k x g=aR (rn n) bor k fns x g
 t:∀(n:Nat) (bor:List Nat) (k:Nat) (x:Ex) (g:G),(rn (n+1)).t bor k x g=stepT (rn n) bor k x g
 b:∀(n:Nat) (bor:List Nat) (k:Nat) (x:List Sm) (g:G),(rn (n+1)).b bor k x g=bW (rn n) bor k x g
 x:∀(n:Nat) (bor:List Nat) (k:Nat) (x:Ex) (g:G),(rn (n+1)).x bor k x g=qQ (rn n) bor k fns x g
 xt:∀(n:Nat) (bor:List Nat) (k:Nat) (x:Ex) (g:G),(rn (n+1)).xt bor k x g=oY (rn n) bor k x g
 xb:∀(n:Nat) (bor:List Nat) (k:Nat) (x:List Sm) (g:G),(rn (n+1)).xb bor k x g=bT (rn n) bor k x g
theorem Ir(fns:List Fx):eY fns (run fns):=⟨λ_ _ _ _ _=>rfl,λ_ _ _ _ _=>rfl,λ_ _ _ _ _=>rfl,λ_ _ _ _ _=>rfl,λ_ _ _ _ _=>rfl,λ_ _ _ _ _=>rfl⟩
def lR(rn:Rn)(k:Nat)(fx:Fx)(ds:List D):Option Nat:=match rn.xb [] k fx.body (bN fx.n (xB ds))with
 |some (ci,_)=>some ci
 |none=>none
theorem xF(hl:ds.length=fx.np):kU rn fx k (ds.map .dat) g1=(lR rn k fx ds).map λr=>(r,g1):=by
 unfold kU lR;rw[rB,rC,uZ];simp only[eC,hl,List.map_nil];cases rn.xb [] k fx.body (bN fx.n (ds.map .dat))with
 |none=>rfl
 |some p=>rfl
section
theorem cP(h:fx.np=1):kU rn fx k [.dat d] g1=(lR rn k fx [d]).map λr=>(r,g1):=xF (ds:=[d]) h.symm
end
abbrev evZ:=And.intro @is_tup (And.intro @Qd (And.intro @Bu (And.intro @Bq (And.intro @Br (And.intro @xD (And.intro @xE (And.intro @tQ (And.intro @tR (And.intro @Il (And.intro @Im (And.intro @P1 (And.intro @P4 (And.intro @P5 (And.intro @Bs (And.intro @tT (And.intro @P6 (And.intro @P7 (And.intro @P8 (And.intro @P9 (And.intro @Qa (And.intro @Qc (And.intro @Io (And.intro @Ip (And.intro @Zr (And.intro @Zt @Zu)))))))))))))))))))))))))
abbrev Zv{fns rn}(U:eY fns rn):=And.intro U.e (And.intro U.t (And.intro U.b (And.intro U.x (And.intro U.xt U.xb))))
end Ev
set_option hygiene false in
local macro_rules | `(tactic|simp! [$u:term,$ls,*])=>`(tactic|simp[-List.map_map,-List.map_cons,-List.map_nil,Ev.Zv $u,Ev.evZ,Ev.qQ,Ev.oY,Ev.bx,Ev.bT,Ev.xArgs,Ev.xW,Ev.Rq,Ev.bW,Ev.aC,Ev.aR,Ev.stepT,Ev.argsR,Ev.kP,Ev.gA,Ev.toD,Ev.norm,Ev.pk,Ev.v5,Ev.bN,Ev.cu,Ev.xB,Ev.xg,Ev.Uu,Ev.qP,Ev.Ai,Ev.Om,Ev.FZ,$ls,*])
set_option hygiene false in
local macro_rules | `(~~~$x)=>`(Ev.D.tup (List.map Ev.D.int $x))
set_option hygiene false in
local macro_rules|`(∅)=>`((λx=>~~~x))
set_option hygiene false in
local macro_rules|`(~~~5)=>`(List (List Int))
local macro_rules|`(~~~0)=>`(List Int)
local macro_rules|`(~~~3)=>`(("__debug__":Str))
namespace Ev
noncomputable def dR:Fx:=⟨2,4,[(.ite (.ix ⇑0 ↥1) [(.set 2 (.bin .Mod (.ix ⇑0 ↥0) ⇑1)),(.item 0 ↥0 (.bin .FloorDiv (.ix ⇑0 ↥0) ⇑1)),(.ret ⇑2)] []),(.item 0 ↥0 (.bin .Mod (.bin .Add (.bin .Mult (.ix ⇑0 ↥0) ↥48271) ↥29) ↥2147483647)),(.set 3 (.bin .Mod (.bin .Add (.bin .Add (.bin .Mult (.ix ⇑0 ↥0) (.ix ⇑0 ↥0)) (.bin .Mult ↥39373 (.ix ⇑0 ↥0))) ↥7) ↥2147483629)),(.set 3 (.bin .Mod (.bin .Add (.bin .Mult ⇑3 ⇑3) (.bin .Mult ↥16807 ⇑3)) ↥2147483587)),(.ret (.bin .Mod (.bin .FloorDiv ⇑3 ↥8) ⇑1))]⟩
noncomputable def jz:Fx:=⟨2,2,[(.ite (.cmp .Lt ⇑1 (.blt .len [⇑0])) [(.ret (.ix ⇑0 ⇑1))] []),(.ret ↥0)]⟩
noncomputable def jt(ci:Nat):Fx:=⟨2,3,[(.set 2 (.call ci [⇑0,⇑1])),(.ite (.cmp .GtE ⇑2 (.bin .Pow ↥10 ↥18)) [(.ret (.lst [(.bin .Sub ⇑2 (.bin .Pow ↥10 ↥18)),(.val (.bl true))]))] []),(.ret (.lst [(.bin .Mod ⇑2 ↥2147483647),(.val (.bl false))]))]⟩
noncomputable def gt(t: ~~~0)(i:Int):Int:=t.getD i.toNat 0
theorem aq{rn:Rn}{bor:List Nat}{k:Nat}{st:Sm}{rest:List Sm}{g g1:G}(h:aC rn bor k st g=some (.nx,g1)):bW rn bor k (st::rest) g=bW rn bor k rest g1:=by
 conv=>lhs;unfold bW
 rw[h]
noncomputable abbrev St(s:Int)(fl:Bool):Slot:=.own [.int s,.bl fl]
theorem pB(a b:Int)(h:0<b):fB .Mod (.int a) (.int b)=some (.dat (.int (a % b))):=by simp[fB,iP,h]
theorem u9(a b:Int)(h:0<b/\b<18446744073709551616):fB .FloorDiv (.int a) (.int b)=some (.dat (.int (a / b))):=by simp[fB,iP,h]
theorem iT(a b:Int)(h:0<b/\b<1073741824):fB .FloorDiv (.int a) (.int b)=some (.dat (.int (a / b))):=u9 a b ⋯
theorem eZ(a b:Int)(h:(-(2 ^ 64)<a/\a<2 ^ 64)\/(-(2 ^ 64)<b/\b<2 ^ 64)):fB .Mult (.int a) (.int b)=some (.dat (.int (a * b))):=by
 have:GQ a b=true:=by unfold GQ;simp only[AL,eQ,kS];exact h
 simp[fB,w6,this]
section
variable{ti mi:Nat}(U:eY fns rn)(hT:fns[ti]?=some dR)
include U
theorem Qe(s:Int)(fl:Bool)(m:Int)(hm:0<m/\m<18446744073709551616):∃r s' s2 s3,0<=r/\r<m/\(rn (n+20)).b [0] k dR.body [St s fl,‹m›,.no,.no]=some (.rt ‹r›,[St s' fl,‹m›,s2,s3]):=by
 have i0:L2.fj [D.int s,D.bl fl] 0=some (.int s):=rfl;have i1:L2.fj [D.int s,D.bl fl] 1=some (.bl fl):=rfl;have x0':L2.rY 2 0=some 0:=rfl;cases fl with
 |true=>refine⟨s % m,s / m,.dat (.int (s % m)),.no,Int.emod_nonneg _ ⋯,Int.emod_lt_of_pos _ hm.1,?_⟩;unfold dR;simp! [U,i0,i1,x0',pB _ _ hm.1,u9 _ _ hm]
 |false=>generalize hs1:(s * 48271+29) % 2147483647=s1;have j0:L2.fj [D.int s1,D.bl false] 0=some (.int s1):=rfl;generalize hs2:(s1 * s1+39373 * s1+7) % 2147483629=s2;generalize hs3:(s2 * s2+16807 * s2) % 2147483587=s3;refine⟨s3 / 8 % m,s1,.no,‹s3›,Int.emod_nonneg _ ⋯,Int.emod_lt_of_pos _ hm.1,?_⟩;unfold dR;simp! [U,i0,i1,x0',pB,eZ s 48271 (.inr ⋯),hs1,j0,eZ s1 s1 (.inl ⋯),eZ 39373 s1 (.inl ⋯),hs2,eZ s2 s2 (.inl ⋯),eZ 16807 s2 (.inl ⋯),hs3,iT _ _ (show (0:Int)<8/\(8:Int)<1073741824 by decide),hm.1]
theorem dU{i:Nat}{s:Int}{fl:Bool}{m:Int}(hi:g[i]?=some (St s fl))(hm:0<m/\m<18446744073709551616):∃r s',0<=r/\r<m/\bG (rn (n+20)) dR k [.var i,‹m›] g=some (‹r›,g.set i (St s' fl)):=by obtain⟨r,s',s2,s3,h1,h2,h⟩:=Qe U s fl m hm;refine⟨r,s',h1,h2,?_⟩;have hp:bN dR.n [St s fl,‹m›]=[St s fl,‹m›,.no,.no]:=rfl;unfold bG;simp only[vars,bM,hi,List.map_cons,List.map_nil];rw[hp,h];rfl
theorem Iu{i:Nat}{s:Int}{fl:Bool}{m:Int}(hi:g[i]?=some (St s fl))(hm:0<m/\m<1000):∃r s',0<=r/\r<m/\bG (rn (n+20)) dR k [.var i,‹m›] g=some (‹r›,g.set i (St s' fl)):=dU U hi ⋯
end
section
variable{ci:Nat}(U:eY fns rn)(hC:fns[ci]?=some jz)
include U hC
omit U hC in
theorem oh:fB .Pow (.int 10) (.int 18)=some (.dat (.int (10 ^ 18))):=by rfl
theorem Bv(ns: ~~~0)(hl:ns.length<=1000)(j:Nat):∃(s:Int) (fl:Bool),bH (rn (n+40)) (k+1) (jt ci) [.fix (ns.map .int),.int j]=some (.new [.int s,.bl fl]):=by
 obtain⟨v,q⟩:∃v:Int,∀n,bH (rn (n+20)) k jz [.fix (ns.map .int),.int j]=some ‹v›:=by
  by_cases h:j<ns.length
  .
   refine⟨ns[j],λn=>?_⟩
   have h':(j:Int)<ns.length:=by lia
   have:=Bt ns j h;unfold bH jz;simp! [U,lE,h',this]
  .
   refine⟨0,λn=>?_⟩
   have h' : ¬ (j:Int)<ns.length:=by lia
   unfold bH jz;simp! [U,lE,h']
 by_cases hv:(1000000000000000000:Int)<=v
 . refine⟨v - 1000000000000000000,true,?_⟩;unfold bH jt;simp! [U,hC,dj (fx:=jz) rfl,q,oh,hv,aF 2 ⋯]
 . refine⟨v % 2147483647,false,?_⟩;unfold bH jt;simp! [U,hC,dj (fx:=jz) rfl,q,oh,hv,aF 2 ⋯,pB]
end
noncomputable def cJ(i:Nat):Fx:=⟨2,2,[(.ite (.Ah ⇑1 ["tuple", "list"]) [(.ite (.or [(.cmp .NotEq (.wZ ⇑0 "tuple") (.wZ ⇑1 "tuple")),(.cmp .NotEq (.wZ ⇑0 "list") (.wZ ⇑1 "list"))]) [(.ret (.val (.bl false)))] []),(.ite (.cmp .NotEq (.blt .len [⇑0]) (.blt .len [⇑1])) [(.ret (.val (.bl false)))] []),(.ret (.blt .all [(.comp 2 3 (.tp [3,4]) (.zip ⇑0 ⇑1) none (.call i [⇑3,⇑4]))]))] []),(.ret (.and [(.cmp .Eq ⇑0 ⇑1),(.cmp .Eq (.wZ ⇑0 "bool") (.wZ ⇑1 "bool"))]))]⟩
theorem vd{l:List D}{r:Int}(h:0<=r/\r<l.length):∃x∈l,L2.fj l r=some x:=by
 obtain⟨j,rfl⟩:∃j:Nat,r=j:=⟨r.toNat,by lia⟩
 have hj:j<l.length:=by lia
 exact⟨l[j],List.getElem_mem hj,iS l j hj⟩
theorem fW(l m:List D)(h:l.length+m.length<=1000):fB .Add (.lst l) (.lst m)=some (.new (l++m)):=by
 show (if l.length+m.length<=lim then _ else _)=_
 rw[lL (aF _ h)]
noncomputable def Sd:Nat->D->Prop
 |_,.int _=>True
 |_,.bl _=>True
 |_,.str _=>True
 |_,.non=>True
 |c+1,.tup l=>l.length<=1000/\∀x∈l,Sd c x
 |c+1,.lst l=>l.length<=1000/\∀x∈l,Sd c x
 |_,_=>False
theorem rF:∀l:List D,oU l l=l.map λa=>D.tup [a,a]
 | []=>rfl
 |a::l=>by
  show D.tup [a,a]::oU l l=_;rw[rF l];rfl
section
variable(U:eY fns rn)
include U
theorem rG(hS:fns[i]?=some (cJ i))(ih:∀n k d,Sd c d->bH (rn (n+20 * c+20)) (k+c) (cJ i) [d,d]=some (.dat (.bl true)))(hw:∀n k,eW (rn (n+2)) [] k true (.zip ⇑0 ⇑1) [.dat d,.dat d]=some (oU l l,[.dat d,.dat d]))(hl:l.length<=1000)(h:∀x∈l,Sd c x):∀n k,dN (rn (n+20 * c+23)) [] (k+c+1) 2 3 (.tp [3,4]) (.zip ⇑0 ⇑1) none (.call i [⇑3,⇑4]) [.dat d,.dat d]=some ((l.map λ_=>true).map .bl,[.dat d,.dat d]):=λn k=>by
 rw[List.map_map];exact P0 l id id _ (by rw[hw (n+20 * c+21)];rw[rF];rfl) rfl ⋯ ⋯ ⋯ ⋯ ⋯ ⋯ ⋯ (aF _ hl) λa ha G' hG=>by
  have h1:=hG.2.1;have h2:=hG.2.2;have q:=ih (n+2) k a (h a ha);rw[show n+2+20 * c+20=n+20 * c+22 by lia]at q
  simp! [U,h1,h2,hS,dj (fx:=cJ i) rfl,q]
theorem dX(d:D)(h:Sd 0 d):bH (rn (n+20)) k (cJ i) [d,d]=some (.dat (.bl true)):=by
 cases d with
 |int j=>unfold bH cJ;simp! [U,lQ,dD,gS,iQ,gj,lP,dep]
 |bl j=>unfold bH cJ;simp! [U,lQ,dD,gS,iQ,gj,lP,dep]
 |str j=>unfold bH cJ;simp! [U,lQ,dD,gS,iQ,gj,lP,dep]
 |non=>unfold bH cJ;simp! [U,lQ,dD,gS,iQ,gj,lP,dep]
 |_=>exact h.elim
theorem ve(hS:fns[i]?=some (cJ i)):∀(c n k:Nat) (d:D),Sd c d->bH (rn (n+20 * c+20)) (k+c) (cJ i) [d,d]=some (.dat (.bl true))
 | 0,n,k,d,h=>dX U d h
 |c+1,n,k,d,h=>by
  have ih:=ve hS c;rw[show n+20 * (c+1)+20=n+20 * c+40 by lia,show k+(c+1)=k+c+1 by lia]
  cases d with
  |int j=>exact dX U _ trivial
  |bl j=>exact dX U _ trivial
  |str j=>exact dX U _ trivial
  |non=>exact dX U _ trivial
  |tup l=>
   have w:=rG U hS ih (d:=.tup l) (λn k=>by simp! [U,eW,cM]) h.1 h.2
   have w':=w (n+13) k;rw[show n+13+20 * c+23=n+20 * c+36 by lia]at w'
   unfold bH cJ;simp! [U,lQ,dD,gS,iQ,gj,lP,dep,w']
  |lst l=>
   have w:=rG U hS ih (d:=.lst l) (λn k=>by simp! [U,eW,cM]) h.1 h.2
   have w':=w (n+13) k;rw[show n+13+20 * c+23=n+20 * c+36 by lia]at w'
   unfold bH cJ;simp! [U,lQ,dD,gS,iQ,gj,lP,dep,w']
  |_=>exact h.elim
end
end Ev
namespace bF
def dc(k:Int):Nat->Int
 | 0=>1
 |t+1=>dc k t * (k+t) / (t+1)
theorem Vq:∀t,dc 0 (t+1)=0
 | 0=>by simp[dc]
 |t+1=>by rw[dc,Vq t];simp
noncomputable def wk(f:Nat->Int)(s:Nat)(k:Int):Nat->Nat->Int
 | 0,n=>f n
 |T+1,n=>wk f s k T n+if (T+1) * s<=n then dc k (T+1) * f (n - (T+1) * s)else 0
noncomputable def lw(f:Nat->Int)(s:Nat)(k:Int):Nat->Nat->Int
 | 0,_=>0
 |h+1,n=>lw f s k h n+if h<=n/\(n - h) % s=0 then f h * dc k ((n - h) / s)else 0
section
variable{f:Nat->Int}{s:Nat}{k:Int}
theorem iU(T n:Nat):wk f s k (T+1) n=wk f s k T n+if (T+1) * s<=n then dc k (T+1) * f (n - (T+1) * s)else 0:=rfl
theorem jS(h n:Nat):lw f s k (h+1) n=lw f s k h n+if h<=n/\(n - h) % s=0 then f h * dc k ((n - h) / s)else 0:=rfl
theorem Iv{n:Nat}(hs:0<s)(T:Nat):wk f s k (n / s+T) n=wk f s k (n / s) n:=by
 induction T with
 |zero=>rfl
 |succ T ih=>rw[<- Nat.add_assoc,iU,ih,i8,u7];intro h;have:=BB (c:=s) h;rw[Nat.mul_div_cancel _ hs]at this;omega
theorem Iw{n:Nat}(i:Nat):lw f s k (n+1+i) n=lw f s k (n+1) n:=by
 induction i with
 |zero=>rfl
 |succ i ih=>rw[<- Nat.add_assoc,jS,ih,i8,u7];omega
theorem Bw{n a:Nat}(i:Nat)(h:∀x,a<=x->x<a+i->¬ (x<=n/\(n - x) % s=0)):lw f s k (a+i) n=lw f s k a n:=by
 induction i with
 |zero=>rfl
 |succ i ih=>rw[<- Nat.add_assoc,jS,ih λx h1 h2=>h x h1 (by omega),i8 (h _ (by omega) (by omega)),u7]
theorem Vr{n:Nat}(hs:0<s)(j:Nat)(hj:j * s<=n):lw f s k (n+1) n=wk f s k j n+lw f s k (n - j * s) n:=by
 induction j with
 |zero=>
  show lw f s k n n+_=f n+_;rw[lL ⟨eA _,by rw[wT];exact Nat.zero_mod _⟩,wT,Nat.zero_div,Nat.zero_mul,Nat.sub_zero,dc]
  omega
 |succ j ih=>
  have e:(j+1) * s=j * s+s:=Nat.succ_mul _ _;rw[ih (by omega)]
  obtain⟨b,hb⟩:∃b,n=(j+1) * s+b:=⟨n - (j+1) * s,by omega⟩
  have e1:n - j * s=(b+1)+(s - 1):=by omega
  have e2:n - (j+1) * s=b:=by omega
  rw[e1,Bw (s - 1) λx h1 h2 h=>?_]
  .
   have e4:n - b=(j+1) * s:=by omega
   have e5:b<=n/\(n - b) % s=0:=⟨by omega,by rw[e4];exact Nat.mul_mod_left _ _⟩
   rw[jS,iU,lL e5,lL hj,e2,e4,Nat.mul_div_cancel _ hs,Int.mul_comm];omega
  .
   obtain⟨y,hy⟩:∃y,n - x=j * s+y/\0<y/\y<s:=⟨n - x - j * s,by omega⟩
   rw[hy.1,AY,Nat.mul_add_mod,Nat.mod_eq_of_lt hy.2.2]at h;omega
def ww(f:Nat->Int)(s:Nat)(k:Int)(n:Nat):Int:=wk f s k (n / s) n
theorem Vs{n L:Nat}(hs:0<s)(hn:n<L):lw f s k L n=ww f s k n:=by
 obtain⟨i,rfl⟩:∃i,L=n+1+i:=⟨L - (n+1),by omega⟩
 rw[Iw,Vr hs (n / s) (BU _ _)];have e:n - n / s * s=n % s:=by have:=Nat.div_add_mod n s;rw[AY]at this;omega
 rw[e];have:=Bw (f:=f) (s:=s) (k:=k) (n:=n) (a:=0) (n % s) λx _ h2 h=>by
  have h3:=Nat.div_add_mod n s;have h4:=Nat.mod_lt n hs;have h5:n - x=s * (n / s)+(n % s - x):=by omega
  rw[h5,Nat.mul_add_mod,Nat.mod_eq_of_lt (by omega)]at h
  omega
 rw[A6]at this;rw[this];show ww f s k n+0=_;rw[u7]
theorem Vt{n L:Nat}(hs:0<s)(hn:n<L):wk f s k ((L - 1) / s) n=ww f s k n:=by
 have:n / s<=(L - 1) / s:=BB (by omega)
 obtain⟨T,e⟩:∃T,(L - 1) / s=n / s+T:=⟨(L - 1) / s - n / s,by omega⟩
 rw[e];exact Iv hs T
theorem Iz{n:Nat}:ww f s 0 n=f n:=by
 unfold ww;generalize n / s=T
 induction T with
 |zero=>rfl
 |succ T ih=>show wk f s 0 T n+_=_;rw[ih,Vq];simp
end
def gg(ks: ~~~0):Nat->Nat->Int
 | 0,n=>if n=0 then 1 else 0
 |i+1,n=>ww (gg ks i) (i+1) (ks[i]?.getD 0) n
def cO(ks: ~~~0): ~~~0:=(List.range ks.length).map λn=>gg ks ks.length (n+1)
theorem Bx(ks ms: ~~~0){i:Nat}(h:i<=ks.length):gg (ks++ms) i=gg ks i:=by
 induction i with
 |zero=>rfl
 |succ i ih=>
  funext n
  show ww (gg (ks++ms) i) _ _ n=_;rw[ih (by omega),d5 (by omega)]
  rfl
theorem By(ks: ~~~0):(cO (ks++[0]))[ks.length]?=some (gg ks ks.length (ks.length+1)):=by unfold cO;rw[nE,BO ⋯];show some (gg (ks++[0]) (ks++[0]).length (ks.length+1))=_;rw[i4,y6];show some (ww (gg (ks++[0]) ks.length) (ks.length+1) _ (ks.length+1))=_;rw[dE (eA _),wT,Bx _ _ (eA _)];show some (ww _ _ 0 _)=_;rw[Iz]
end bF
namespace bF
theorem IK(x:Int)(d:Nat):(x / ((d:Int)+1)).natAbs<=x.natAbs:=Int.natAbs_ediv_le_natAbs _ _
theorem tU{k:Int}{b:Nat}(hk:k.natAbs<=b):∀t,(dc k t).natAbs<=(b+t) ^ t
 | 0=>by simp[dc]
 |t+1=>by
  have h1:=IK (dc k t * (k+t)) t;rw[Int.natAbs_mul]at h1;have h2:(k+(t:Int)).natAbs<=b+t:=by omega
  have h3:=AX (tU hk t) h2;have h4:(b+t) ^ t * (b+t)=(b+t) ^ (t+1):=rfl;have h5:(b+t) ^ (t+1)<=(b+(t+1)) ^ (t+1):=i9 (by omega) _
  show (dc k t * (k+t) / (t+1)).natAbs<=_;omega
theorem rH(b:Nat):∀s,b ^ (s+1)+9<=(b+9) ^ (s+1)
 | 0=>by simp
 |s+1=>by
  have h:=r6 (b+9) (rH b s);have e1:b ^ (s+1+1)=b ^ (s+1) * b:=rfl;have e2:(b+9) ^ (s+1+1)=(b+9) ^ (s+1) * (b+9):=rfl;rw[e1,e2];rw[Nat.add_mul,Nat.mul_add,Nat.mul_add]at h;omega
theorem Vu{k:Int}{b s t:Nat}(hs:0<s)(hk:k.natAbs<=b ^ s)(ht:t<=9):(dc k t).natAbs<=(b+9) ^ (s * t):=by
 obtain⟨s,rfl⟩:∃r,s=r+1:=⟨s - 1,by omega⟩
 refine eM (tU hk t) ?_;rw[AF];exact i9 (eM (by omega) (rH b s)) _
theorem vf:∀n:Nat,n+1<=2 ^ n
 | 0=>by simp
 |n+1=>by have:=vf n;rw[B2];omega
section
variable{f:Nat->Int}{s:Nat}{k:Int}{b c n:Nat}
theorem KC(hs:0<s)(hf:∀m,m<=n->(f m).natAbs<=c ^ m)(hk:k.natAbs<=b ^ s)(hc:b+9<=c)(hn:n<=9):∀T,(wk f s k T n).natAbs<=(T+1) * c ^ n
 | 0=>by rw[A6,Nat.one_mul];exact hf n (eA _)
 |T+1=>by
  have ih:=KC hs hf hk hc hn T;rw[iU,Nat.succ_mul (T+1)];split
  .
   rename_i h;have ht:T+1<=n:=eM (Nat.le_mul_of_pos_right _ hs) h;have h1:=Vu (t:=T+1) hs hk (by omega)
   have h2:=hf (n - (T+1) * s) (by omega)
   have h3:(b+9) ^ (s * (T+1))<=c ^ (s * (T+1)):=i9 hc _;have h4:=AX (eM h1 h3) h2;rw[<- Nat.pow_add,show s * (T+1)+(n - (T+1) * s)=n by rw[AY s];omega,<- Int.natAbs_mul]at h4
   have:=Int.natAbs_add_le (wk f s k T n) (dc k (T+1) * f (n - (T+1) * s));omega
  . rw[u7];omega
theorem Vv(hs:0<s)(hf:∀m,m<=n->(f m).natAbs<=c ^ m)(hk:k.natAbs<=b ^ s)(hc:b+9<=c)(hn:n<=9):(ww f s k n).natAbs<=(2 * c) ^ n:=by
 have h:=KC hs hf hk hc hn (n / s);have h1:n / s+1<=2 ^ n:=eM (by have:=Nat.div_le_self n s;omega) (vf n)
 rw[Nat.mul_pow];exact eM h (r6 _ h1)
end
theorem rJ{ks: ~~~0}{b:Nat}(hk:∀(i:Nat) (x:Int),ks[i]?=some x->x.natAbs<=b ^ (i+1)):∀(i n:Nat),n<=9->(gg ks i n).natAbs<=(2 ^ i * (b+9)) ^ n
 | 0,n,hn=>by
  show ((if n=0 then 1 else 0:Int)).natAbs<=_
  split
  . rename_i h;subst h;simp
  . simp
 |i+1,n,hn=>by
  have h:=Vv (f:=gg ks i) (s:=i+1) (k:=ks[i]?.getD 0) (b:=b) (c:=2 ^ i * (b+9)) (n:=n) (y8 _) (λm hm=>rJ hk i m (by omega)) ?_ ?_ hn
  . rw[B2,AY (2 ^ i) 2,Nat.mul_assoc];exact h
  .
   cases e:ks[i]? with
   |none=>simp
   |some x=>exact hk i x e
  . exact Nat.le_mul_of_pos_left _ (Nat.two_pow_pos _)
def par(ns: ~~~0):Nat->List Int
 | 0=>[]
 |i+1=>par ns i++[ns[i]?.getD 0 - gg (par ns i) i (i+1)]
theorem bu(ns: ~~~0):∀i,(par ns i).length=i
 | 0=>rfl
 |i+1=>by rw[par,i4,bu ns i];rfl
def bb:Nat->Nat
 | 0=>0
 |i+1=>10 ^ 10+512 * (bb i+9)
theorem Vw(i:Nat):bb i<=bb (i+1):=by show bb i<=10 ^ 10+512 * (bb i+9);omega
theorem vg(x y:Nat):∀m,x+y ^ (m+1)<=(x+y) ^ (m+1)
 | 0=>by simp
 |m+1=>by
  cases Nat.eq_zero_or_pos (x+y)with
  |inl h=>
   have h1:x=0:=by omega
   have h2:y=0:=by omega
   subst h1 h2;simp
  |inr h=>have e:=r6 (x+y) (vg x y m);have e1:y ^ (m+1+1)=y ^ (m+1) * y:=rfl;have e2:(x+y) ^ (m+1+1)=(x+y) ^ (m+1) * (x+y):=rfl;rw[e1,e2];rw[Nat.add_mul,Nat.mul_add (y ^ (m+1))]at e;have:x<=x * (x+y):=Nat.le_mul_of_pos_right _ h;omega
theorem pC{ns: ~~~0}(hn:∀x∈ns,x.natAbs<=10 ^ 10):∀i,i<=9->∀(j:Nat) (x:Int),(par ns i)[j]?=some x->x.natAbs<=bb i ^ (j+1)
 | 0,_,j,x,h=>by symm
 |i+1,hi,j,x,h=>by
  have ih:=pC hn i (by omega)
  rw[par]at h;rcases pV j (par ns i).length with hj |hj
  . rw[d5 hj]at h;exact eM (ih j x h) (i9 (Vw i) _)
  .
   rw[dE hj]at h;have hl:=bu ns i;have e:j - (par ns i).length=0:=by
    cases q:j - (par ns i).length with
    |zero=>rfl
    |succ y=>rw[q]at h;symm
   rw[e]at h;symm;obtain rfl:j=i:=by omega
   have h1:=rJ ih j (j+1) (by omega)
   have h2:(ns[j]?.getD 0).natAbs<=10 ^ 10:=by
    cases e:ns[j]? with
    |none=>simp
    |some x=>exact hn x (fA e)
   have h3:=vg (10 ^ 10) (2 ^ j * (bb j+9)) j;have h4:10 ^ 10+2 ^ j * (bb j+9)<=bb (j+1):=by
    show _<=10 ^ 10+512 * (bb j+9);have:2 ^ j<=2 ^ 9:=fR (by omega) (by omega)
    have:=r6 (bb j+9) this;have e9:(2:Nat) ^ 9=512:=rfl;rw[e9]at this;omega
   have h5:=i9 h4 (j+1);have h6:=Int.natAbs_sub_le (ns[j]?.getD 0) (gg (par ns j) j (j+1));omega
end bF
set_option exponentiation.threshold 300
namespace Ev
open bF
theorem cK{O:Type}{T:Tg}{b:G->Option (Fl×G)}{lo:Int}{N:Nat}(fr:Nat->O->G)(step:∀i s,i<N->∃g1 s',T.set (.int (lo+(i:Nat))) (fr i s)=some g1/\b g1=some (.nx,fr (i+1) s'))(s:O):∃s',bD T b (fJ lo N) (fr 0 s)=some (.nx,fr N s'):=by
 have key:∀c i s,i+c=N->∃s',bD T b ((List.range' i c).map λ(k:Nat)=>D.int (lo+(k:Int))) (fr i s)=some (.nx,fr N s'):=by
  intro c
  induction c with
  |zero=>intro i s h;obtain rfl:i=N:=h;exact⟨s,rfl⟩
  |succ c ih=>intro i s h;obtain⟨g1,s1,e1,e2⟩:=step i s ⋯;obtain⟨s',e3⟩:=ih (i+1) s1 ⋯;refine⟨s',?_⟩;rw[Bi,List.map_cons];unfold bD;rw[e1];dsimp only;rw[e2];exact e3
 have:=key N 0 s ⋯;rw[<- BC]at this;exact this
theorem jT{a b:Int}(ha:a.natAbs<2 ^ 20000)(hb:b.natAbs<2 ^ 20000):fB .Mult (.int a) (.int b)=some (.dat (.int (a * b))):=by
 have hg:GR a b=true:=by unfold GR;rw[nN ha,nN hb];rfl
 show w6 (.int a) b=_;unfold w6;dsimp only;split <;> first |rfl |rw[lL hg]
theorem big{x a:Nat}(h:x<=2 ^ a)(ha:a<20000):x<2 ^ 20000:=Nat.lt_of_le_of_lt h (Nat.pow_lt_pow_right ⋯ ha)
theorem jU{k:Int}{t:Nat}(hk:k.natAbs<=2 ^ 1200)(ht:t<=9):(dc k t).natAbs<=2 ^ 10809:=by
 refine eM (tU hk t) (eM (i9 (m:=2 ^ 1201) ?_ t) ?_)
 .
  rw[B2];have:2 ^ 4<=2 ^ 1200:=fR ⋯ ⋯;have e:(2:Nat) ^ 4=16:=rfl;rw[e]at this;generalize 2 ^ 1200=y at this ⊢
  lia
 . rw[<- AF];exact fR ⋯ ⋯
def BG:Sm:=.set 2 (.bin .FloorDiv (.bin .Mult ⇑2 (.bin .Add ⇑0 ⇑3)) (.bin .Add ⇑3 ↥1))
def cV:Fx:=⟨2,4,[(.set 2 ↥1),(.loop (.nm 3) (.dB ⇑1) [BG]),(.ret ⇑2)]⟩
section
variable{k n:Nat}{g g1:G}{rn:Nat->Rn}{fns:List Fx}(U:eY fns rn)
include U
theorem IV{kd:Int}{t:Nat}(hk:kd.natAbs<=2 ^ 1200)(ht:t<=9):bH (rn (n+20)) k cV [.int kd,.int t]=some (.dat (.int (dc kd t))):=by
 have hi:=bX t ⋯;obtain⟨s',hl⟩:=cK (T:=.nm 3) (lo:=0) (N:=t) (b:=(rn (n+19)).b [] k [BG]) (λi (s3:Slot)=>[‹kd›,‹t›,.dat (.int (dc kd i)),s3]) (λi s3 h=>by
  rw[Int.zero_add];refine⟨_,‹i›,rfl,?_⟩;have h1:=jT (a:=dc kd i) (b:=kd+i) (big (jU hk ⋯) ⋯) (big (a:=1201) ?_ ⋯)
  . have h2:=iT (dc kd i * (kd+i)) ((i:Int)+1) ⋯;have h3:dc kd i * (kd+i) / ((i:Int)+1)=dc kd (i+1):=rfl;rw[h3]at h2;unfold BG;simp! [U,h1,h2]
  .
   rw[B2];have:2 ^ 4<=2 ^ 1200:=fR ⋯ ⋯;have e:(2:Nat) ^ 4=16:=rfl;rw[e]at this;generalize 2 ^ 1200=y at this hk ⊢
   lia) .no
 rw[show dc kd 0=1 from rfl]at hl
 unfold bH cV;simp! [U,Tg.cY,eW,hi,hl]
end
open bF
def FL(L:Nat)(f:Nat->Int):List D:=(List.range L).map λn=>D.int (f n)
theorem cA(L:Nat)(f:Nat->Int):(FL L f).length=L:=by simp[FL]
theorem BJ{L n:Nat}{f:Nat->Int}(h:n<L):(FL L f)[n]?=some (.int (f n)):=by simp[FL,BO h]
theorem dY{L:Nat}{f g:Nat->Int}(h:∀n,n<L->f n=g n):FL L f=FL L g:=List.map_congr_left λn hn=>by rw[h n (B3.mp hn)]
theorem BK{L n:Nat}{f:Nat->Int}{v:Int}:(FL L f).set n (.int v)=FL L λm=>if m=n then v else f m:=by
 unfold FL;refine List.ext_getElem ⋯ λi h1 h2=>?_
 rw[List.getElem_set];simp only[Bn,List.getElem_range];by_cases e:n=i
 . rw[lL e,lL e.symm]
 . rw[i8 e,i8 (lS e)]
theorem tV{L n:Nat}{f:Nat->Int}(h:n<L):L2.rY (FL L f).length (n:Int)=some n:=by unfold L2.rY;rw[cA,lL (Int.natCast_nonneg _),lL ⋯];rfl
theorem rK{L n:Nat}{f:Nat->Int}(h:n<L):L2.fj (FL L f) (n:Int)=some (.int (f n)):=by unfold L2.fj;rw[tV h];exact BJ h
def pin(f:Nat->Int)(s:Nat)(kd:Int)(h o n:Nat):Int:=lw f s kd h n+if h<=n/\(n - h) % s=0/\(n - h) / s<o then f h * dc kd ((n - h) / s)else 0
section
variable{f:Nat->Int}{s:Nat}{kd:Int}{h o n L:Nat}
theorem Vx:pin f s kd h 0 n=lw f s kd h n:=by unfold pin;rw[i8 ⋯,u7]
theorem BL(hs:0<s):(if n=h+o * s then pin f s kd h o (h+o * s)+f h * dc kd o else pin f s kd h o n)=pin f s kd h (o+1) n:=by
 by_cases e:n=h+o * s
 .
  subst e;have e1:h+o * s - h=o * s:=by lia
  unfold pin;rw[lL rfl,e1,Nat.mul_div_cancel _ hs,Nat.mul_mod_left,i8 ⋯,lL ⟨by lia,rfl,by lia⟩,u7]
 .
  rw[i8 e];unfold pin
  congr 1
  by_cases c:h<=n/\(n - h) % s=0/\(n - h) / s<o
  . rw[lL c,lL ⟨c.1,c.2.1,by have:=c.2.2;lia⟩]
  .
   rw[i8 c,i8];rintro⟨c1,c2,c3⟩;refine c ⟨c1,c2,?_⟩;rcases pV ((n - h) / s) o with q |q
   . exact q
   .
    refine absurd ?_ e;have e2:(n - h) / s=o:=by lia
    have e3:=Nat.div_add_mod (n - h) s;rw[e2,c2,AY]at e3;lia
theorem IW(hn:n<L):pin f s kd h ((L - 1 - h) / s+1) n=lw f s kd (h+1) n:=by
 unfold pin;rw[jS]
 congr 1
 by_cases c:h<=n/\(n - h) % s=0
 . rw[lL c,lL ⟨c.1,c.2,Nat.lt_succ_of_le (BB (by have:=c.1;lia))⟩]
 . rw[i8 c,i8 λq=>c ⟨q.1,q.2.1⟩]
end
def Qf:Sm:=.set 6 (.bin .Add ⇑4 (.bin .Mult ⇑5 ⇑2))
def Qg(li:Nat):Sm:=.set 7 (.call li [(.ix ⇑0 (.bin .Sub ⇑2 ↥1)),⇑5])
def Qh:Sm:=.item 3 ⇑6 (.bin .Add (.ix ⇑3 ⇑6) (.bin .Mult (.ix ⇑1 ⇑4) ⇑7))
def BP(li:Nat):List Sm:=[Qf,Qg li,Qh]
def ow(b:Bool)(l:List D):Slot:=if b then .own l else .dat (.lst l)
def bo(b:Bool):List Nat:=if b then [0]else []
section
variable{k n:Nat}{rn:Nat->Rn}{fns:List Fx}{li:Nat}{b c:Bool}{ks fl pl:List D}{sI hI oI aI kd ch x y:Int}{s6 s7:Slot}(U:eY fns rn)
include U
theorem Ja(m1:fB .Mult (.int oI) (.int sI)=some (.dat (.int (oI * sI)))):aC (rn (n+44)) (bo c) (k+1) Qf [ow c ks,ow b fl,‹sI›,.own pl,‹hI›,‹oI›,s6,s7]=some (.nx,[ow c ks,ow b fl,‹sI›,.own pl,‹hI›,‹oI›,.dat (.int (hI+oI * sI)),s7]):=by
 unfold Qf bo;cases c with
 |true=>simp! [U,m1]
 |false=>simp! [U,m1]
theorem Jb(hL:fns[li]?=some cV)(h0:L2.fj ks (sI - 1)=some (.int kd))(q:∀n k,bH (rn (n+20)) k cV [.int kd,.int oI]=some ‹ch›):aC (rn (n+44)) (bo c) (k+1) (Qg li) [ow c ks,ow b fl,‹sI›,.own pl,‹hI›,‹oI›,‹aI›,s7]=some (.nx,[ow c ks,ow b fl,‹sI›,.own pl,‹hI›,‹oI›,‹aI›,‹ch›]):=by
 unfold Qg bo;generalize ow b fl=s1;unfold ow;cases c with
 |true=>simp! [U,h0,hL,dj (fx:=cV) rfl,q]
 |false=>simp! [U,h0,hL,dj (fx:=cV) rfl,q]
theorem Jc(i1:L2.fj fl hI=some (.int x))(i2:L2.fj pl aI=some (.int y))(i3:L2.rY pl.length aI=some aI.toNat)(m2:fB .Mult (.int x) (.int ch)=some (.dat (.int (x * ch)))):aC (rn (n+44)) (bo c) (k+1) Qh [ow c ks,ow b fl,‹sI›,.own pl,‹hI›,‹oI›,‹aI›,‹ch›]=some (.nx,[ow c ks,ow b fl,‹sI›,.own (pl.set aI.toNat (.int (y+x * ch))),‹hI›,‹oI›,‹aI›,‹ch›]):=by unfold Qh bo;generalize ow c ks=s0;unfold ow;cases b <;> cases c <;> simp! [U,i1,i2,i3,m2]
end
open bF
section
variable{k n:Nat}{rn:Nat->Rn}{fns:List Fx}{li:Nat}(U:eY fns rn)(hL:fns[li]?=some cV)
include U hL
theorem Jd{b c:Bool}{ks:List D}{L s h o:Nat}{f P:Nat->Int}{kd:Int}{s6 s7:Slot}(h0:L2.fj ks ((s:Int) - 1)=some (.int kd))(hsm:s<=9)(ha:h+o * s<L)(hh:h<L)(ho:o<=9)(hk:kd.natAbs<=2 ^ 1200)(hf:(f h).natAbs<2 ^ 20000) :
  (rn (n+45)).b (bo c) (k+1) (BP li) [ow c ks,ow b (FL L f),‹s›,.own (FL L P),‹h›,‹o›,s6,s7]=some (.nx,[ow c ks,ow b (FL L f),‹s›,.own (FL L λm=>if m=h+o * s then P (h+o * s)+f h * dc kd o else P m),‹h›,‹o›,.dat (.int ((h+o * s:Nat):Int)),.dat (.int (dc kd o))]):=by
 have e1:(h:Int)+(o:Int) * (s:Int)=((h+o * s:Nat):Int):=by rw[Int.natCast_add,Int.natCast_mul]
 have s1:=Ja (n:=n) (k:=k) (b:=b) (c:=c) (ks:=ks) (fl:=FL L f) (pl:=FL L P) (hI:=h) (s6:=s6) (s7:=s7) U (eZ (o:Int) (s:Int) (.inl ⋯));rw[e1]at s1;have s2:=Jb (n:=n) (k:=k) (b:=b) (c:=c) (ks:=ks) (fl:=FL L f) (pl:=FL L P) (hI:=h) (aI:=((h+o * s:Nat):Int)) (s7:=s7) U hL h0 λn k=>IV (n:=n) (k:=k) U hk ho
 have s3:=Jc (n:=n) (k:=k) (b:=b) (c:=c) (ks:=ks) (sI:=s) (oI:=o) (aI:=((h+o * s:Nat):Int)) U (rK (f:=f) hh) (rK (f:=P) ha) (tV (f:=P) ha) (jT hf (big (jU hk ho) ⋯));rw[AW,BK]at s3;rw[U.b];unfold BP;rw[aq s1,aq s2,aq s3];rfl
end
open bF
def xG(li:Nat):Sm:=.loop (.nm 5) (.dB (.bin .Add (.bin .FloorDiv (.bin .Sub (.bin .Sub (.blt .len [⇑1]) ↥1) ⇑4) ⇑2) ↥1)) (BP li)
def xH(li:Nat):Sm:=.loop (.nm 4) (.dB (.blt .len [⇑1])) [xG li]
section
variable{k n:Nat}{rn:Nat->Rn}{fns:List Fx}{li:Nat}(U:eY fns rn)
include U
theorem Je{b c:Bool}{ks fl pl:List D}{LI hI sI q:Int}{N:Nat}{s5 s6 s7:Slot}{g':G}(h1:(fl.length:Int)=LI)(h2:fB .FloorDiv (.int (LI - 1 - hI)) (.int sI)=some ‹q›)(h3:pW (q+1)=true)(h4:(q+1).toNat=N)(h5:N<=lim)
  (hl:bD (.nm 5) ((rn (n+45)).b (bo c) (k+1) (BP li)) (fJ 0 N) [ow c ks,ow b fl,‹sI›,.own pl,‹hI›,s5,s6,s7]=some (.nx,g')) :
  aC (rn (n+45)) (bo c) (k+1) (xG li) [ow c ks,ow b fl,‹sI›,.own pl,‹hI›,s5,s6,s7]=some (.nx,g'):=by
 unfold xG;generalize ow c ks=s0 at hl ⊢
 unfold ow bo at *;cases b <;> cases c <;> (simp! [U,Tg.cY,Tg.ix,eW,h1,h2,h3,h4,h5];exact hl)
theorem Jf{b c:Bool}{ks fl pl:List D}{LI sI:Int}{N:Nat}{s4 s5 s6 s7:Slot}{g':G}(h1:(fl.length:Int)=LI)(h3:pW LI=true)(h4:LI.toNat=N)(h5:N<=lim)
  (hl:bD (.nm 4) ((rn (n+46)).b (bo c) (k+1) [xG li]) (fJ 0 N) [ow c ks,ow b fl,‹sI›,.own pl,s4,s5,s6,s7]=some (.nx,g')) :
  aC (rn (n+46)) (bo c) (k+1) (xH li) [ow c ks,ow b fl,‹sI›,.own pl,s4,s5,s6,s7]=some (.nx,g'):=by
 unfold xH;generalize ow c ks=s0 at hl ⊢
 unfold ow bo at *;cases b <;> cases c <;> (simp! [U,Tg.cY,Tg.ix,eW,h1,h3,h4,h5];exact hl)
variable(hL:fns[li]?=some cV)
include hL
theorem Jg{b c:Bool}{ks:List D}{L s h:Nat}{f:Nat->Int}{kd:Int}{s5 s6 s7:Slot}(h0:L2.fj ks ((s:Int) - 1)=some (.int kd))(hs:0<s)(hsm:s<=9)(Qi:L<=10)(hh:h<L)(hk:kd.natAbs<=2 ^ 1200)(hf:(f h).natAbs<2 ^ 20000) :
  ∃t5 t6 t7,aC (rn (n+45)) (bo c) (k+1) (xG li) [ow c ks,ow b (FL L f),‹s›,.own (FL L (lw f s kd h)),‹h›,s5,s6,s7]=some (.nx,[ow c ks,ow b (FL L f),‹s›,.own (FL L (lw f s kd (h+1))),‹h›,t5,t6,t7]):=by
 have hdm:=BU (L - 1 - h) s;have hd9:(L - 1 - h) / s<=9:=eM (Nat.div_le_self _ _) ⋯;obtain⟨⟨t5,t6,t7⟩,hl⟩:=cK (T:=.nm 5) (lo:=0) (N:=(L - 1 - h) / s+1) (b:=(rn (n+45)).b (bo c) (k+1) (BP li)) (λo (x:Slot×Slot×Slot)=>[ow c ks,ow b (FL L f),‹s›,.own (FL L (pin f s kd h o)),‹h›,x.1,x.2.1,x.2.2]) (λo x ho=>by
  rw[Int.zero_add];refine⟨_,(‹o›,.dat (.int ((h+o * s:Nat):Int)),.dat (.int (dc kd o))),rfl,?_⟩;have ho':o * s<=(L - 1 - h) / s * s:=r6 s ⋯;have e:(λm=>if m=h+o * s then pin f s kd h o (h+o * s)+f h * dc kd o else pin f s kd h o m)=pin f s kd h (o+1):=funext λm=>BL hs
  have q:=Jd (n:=n) (k:=k) (b:=b) (c:=c) (P:=pin f s kd h o) (s6:=x.2.1) (s7:=x.2.2) U hL h0 hsm (show h+o * s<L by lia) hh ⋯ hk hf
  rw[e]at q;exact q) (s5,s6,s7)
 refine⟨t5,t6,t7,?_⟩;dsimp only at hl;have a0:FL L (pin f s kd h 0)=FL L (lw f s kd h):=dY λm _=>Vx
 have a1:FL L (pin f s kd h ((L - 1 - h) / s+1))=FL L (lw f s kd (h+1)):=dY λm hm=>IW hm
 rw[a0,a1]at hl;have c1:((L:Int) - 1 - h) / s=(((L - 1 - h) / s:Nat):Int):=by rw[Int.natCast_ediv];congr 1;lia
 refine Je (LI:=L) (q:=(((L - 1 - h) / s:Nat):Int)) U (by rw[cA]) (by rw[<- c1];exact iT _ _ ⋯) (bX _ ⋯) ⋯ (aF _ ⋯) hl
theorem Jh{b c:Bool}{ks:List D}{L s:Nat}{f:Nat->Int}{kd:Int}{s4 s5 s6 s7:Slot}(h0:L2.fj ks ((s:Int) - 1)=some (.int kd))(hs:0<s)(hsm:s<=9)(Qi:L<=10)(hk:kd.natAbs<=2 ^ 1200)(hf:∀h,h<L->(f h).natAbs<2 ^ 20000) :
  ∃t4 t5 t6 t7,aC (rn (n+46)) (bo c) (k+1) (xH li) [ow c ks,ow b (FL L f),‹s›,.own (FL L λ_=>0),s4,s5,s6,s7]=some (.nx,[ow c ks,ow b (FL L f),‹s›,.own (FL L (ww f s kd)),t4,t5,t6,t7]):=by
 obtain⟨⟨t4,t5,t6,t7⟩,hl⟩:=cK (T:=.nm 4) (lo:=0) (N:=L) (b:=(rn (n+46)).b (bo c) (k+1) [xG li]) (λh (x:Slot×Slot×Slot×Slot)=>[ow c ks,ow b (FL L f),‹s›,.own (FL L (lw f s kd h)),x.1,x.2.1,x.2.2.1,x.2.2.2]) (λh x hh=>by
  rw[Int.zero_add];obtain⟨t5,t6,t7,q⟩:=Jg (n:=n) (k:=k) (b:=b) (c:=c) (h:=h) (s5:=x.2.1) (s6:=x.2.2.1) (s7:=x.2.2.2) U hL h0 hs hsm Qi hh hk (hf h hh);refine⟨_,(‹h›,t5,t6,t7),rfl,?_⟩;rw[U.b];exact (aq q).trans rfl) (s4,s5,s6,s7)
 refine⟨t4,t5,t6,t7,?_⟩;dsimp only at hl;have a1:FL L (lw f s kd L)=FL L (ww f s kd):=dY λm hm=>Vs hs hm
 rw[a1]at hl;exact Jf (LI:=L) U (by rw[cA]) (bX _ ⋯) ⋯ (aF _ ⋯) hl
end
noncomputable def bV:Fx:=⟨1,1,[(.ret (.and [(.wZ ⇑0 "int"),(.not (.wZ ⇑0 "bool"))]))]⟩
noncomputable def aX(w:Nat):Fx:=⟨3,3,[(.ret (.and [(.call w [⇑0]),(.chain ⇑1 [.LtE,.LtE] [⇑0,⇑2])]))]⟩
def isInt:D->Bool
 |.int _=>true
 |_=>false
noncomputable def yp(lo hi:Int):D->Bool
 |.int i=>decide (lo<=i/\i<=hi)
 |_=>false
section
variable{w wi mw it ci cj:Nat}(U:eY fns rn)
include U
theorem iV(d:D):bH (rn (n+6)) k bV [d]=some (.dat (.bl (isInt d))):=by
 have e:isInt d=(dD (lQ d) "int" && !dD (lQ d) "bool"):=by cases d <;> rfl
 rw[e];unfold bH bV;cases h:dD (lQ d) "int" <;> simp! [U,h]
variable(hW:fns[w]?=some bV)
include hW
theorem xJ(d:D)(lo hi:Int):bH (rn (n+14)) (k+1) (aX w) [d,.int lo,.int hi]=some (.dat (.bl (yp lo hi d))):=by
 have no (e:isInt d=false):bH (rn (n+14)) (k+1) (aX w) [d,.int lo,.int hi]=some (.dat (.bl false)):=by unfold bH aX;simp! [U,hW,aZ (fx:=bV) rfl,iV U,e]
 unfold bH aX;cases d with
 |int i=>
  by_cases h1:lo<=i
  .
   by_cases h2:i<=hi
   . simp! [U,hW,aZ (fx:=bV) rfl,iV U,isInt,yp,h1]
   . simp! [U,hW,aZ (fx:=bV) rfl,iV U,isInt,yp,h1]
  . simp! [U,hW,aZ (fx:=bV) rfl,iV U,isInt,yp,h1]
 |_=>exact no rfl
end
open bF
theorem fO(v:Int)(N:Nat)(h:v=N)(hN:N<=10):fB .Mult (.lst [.int 0]) (.int v)=some (.new (FL N λ_=>0)):=by
 have e:FL N (λ_=>0)=List.replicate N (.int 0):=by unfold FL;rw[List.eq_replicate_iff];exact⟨by simp,λx hx=>by obtain⟨y,_,rfl⟩:=gL.mp hx;rfl⟩
 rw[e];subst h;obtain rfl |rfl |rfl |rfl |rfl |rfl |rfl |rfl |rfl |rfl |rfl:N=0\/N=1\/N=2\/N=3\/N=4\/N=5\/N=6\/N=7\/N=8\/N=9\/N=10:=by lia
 all_goals rfl
theorem pD(ks: ~~~0)(N:Nat):D.int 1::FL N (λ_=>0)=FL (N+1) (gg ks 0):=by unfold FL;rw[AS,List.map_cons,List.map_map];rfl
theorem BR(L:Nat)(f:Nat->Int):fK (FL (L+1) f) (some 1) none=FL L λn=>f (n+1):=by
 have e1:HT.bB (FL (L+1) f).length 0 (some 1)=1:=by rw[cA];simp[HT.bB]
 have e2:HT.bB (FL (L+1) f).length (FL (L+1) f).length none=L+1:=by rw[cA];simp[HT.bB]
 unfold fK;rw[e1,e2];have e3:FL (L+1) f=D.int (f 0)::FL L λn=>f (n+1):=by unfold FL;rw[AS,List.map_cons,List.map_map];rfl
 rw[e3,List.drop_succ_cons,List.drop_zero];exact List.take_of_length_le (by rw[cA];lia)
open bF
def mF:Sm:=.set 1 (.bin .Add (.lst [↥1]) (.bin .Mult (.lst [↥0]) (.blt .len [⇑0])))
def BV:Sm:=.set 3 (.bin .Mult (.lst [↥0]) (.blt .len [⇑1]))
def BW:Sm:=.set 1 ⇑3
def Ji(li:Nat):Sm:=.loop (.nm 2) (.iN ↥1 (.bin .Add (.blt .len [⇑0]) ↥1)) [BV,xH li,BW]
def iW(li:Nat):Fx:=⟨1,8,[mF,Ji li,(.ret (.slice ⇑1 (some ↥1) none))]⟩
section
variable{k n:Nat}{rn:Nat->Rn}{fns:List Fx}{li:Nat}{c:Bool}(U:eY fns rn)
include U
theorem Jj{b:Bool}{d0:Slot}{fl z:List D}{LI:Int}{s2 s3 s4 s5 s6 s7:Slot}(h1:(fl.length:Int)=LI)(h2:fB .Mult (.lst [.int 0]) (.int LI)=some (.new z)) :
  aC (rn (n+47)) (bo c) k BV [d0,ow b fl,s2,s3,s4,s5,s6,s7]=some (.nx,[d0,ow b fl,s2,.own z,s4,s5,s6,s7]):=by
 unfold BV ow bo;cases b <;> cases c <;> simp! [U,h1,h2,aF 1 ⋯]
theorem Jk{d0:Slot}{l:List D}{s1 s2 s4 s5 s6 s7:Slot}:aC (rn (n+47)) (bo c) k BW [d0,s1,s2,.own l,s4,s5,s6,s7]=some (.nx,[d0,.dat (.lst l),s2,.dat (.lst l),s4,s5,s6,s7]):=by unfold BW bo;cases c <;> simp! [U,U.e]
theorem Jl{ks z:List D}{NI:Int}{s1 s2 s3 s4 s5 s6 s7:Slot}(h1:(ks.length:Int)=NI)(h2:fB .Mult (.lst [.int 0]) (.int NI)=some (.new z))(h3:fB .Add (.lst [.int 1]) (.lst z)=some (.new (.int 1::z))) :
  aC (rn (n+48)) (bo c) k mF [ow c ks,s1,s2,s3,s4,s5,s6,s7]=some (.nx,[ow c ks,.own (.int 1::z),s2,s3,s4,s5,s6,s7]):=by
 unfold mF ow bo;cases c <;> simp! [U,h1,h2,h3,aF 1 ⋯]
theorem Jm{b:Bool}{ks fl:List D}{NI:Int}{N:Nat}{s2 s3 s4 s5 s6 s7:Slot}{g':G}(h1:(ks.length:Int)=NI)(h3:pW (NI+1)=true)(h4:NI.toNat=N)(h5:N<=lim)
  (hl:bD (.nm 2) ((rn (n+48)).b (bo c) k [BV,xH li,BW]) (fJ 1 N) [ow c ks,ow b fl,s2,s3,s4,s5,s6,s7]=some (.nx,g')) :
  aC (rn (n+48)) (bo c) k (Ji li) [ow c ks,ow b fl,s2,s3,s4,s5,s6,s7]=some (.nx,g'):=by
 unfold Ji;have h6:pW 1=true:=by decide
 generalize ow b fl=s1 at hl ⊢
 unfold ow bo at *;cases c <;> (simp! [U,Tg.cY,Tg.ix,eW,h1,h3,h4,h5,h6];exact hl)
variable(hL:fns[li]?=some cV)
include hL
theorem BX{ks: ~~~0}{b:Nat}(hl:ks.length<=9)(hb:b+9<=2 ^ 121)(hk:∀(i:Nat) (x:Int),ks[i]?=some x->x.natAbs<=b ^ (i+1))(bb:Bool)(s2 s3 s4 s5 s6 s7:Slot) :
  ∃b' t2 t3 t4 t5 t6 t7,aC (rn (n+48)) (bo c) (k+1) (Ji li) [ow c (ks.map .int),ow bb (FL (ks.length+1) (gg ks 0)),s2,s3,s4,s5,s6,s7]=some (.nx,[ow c (ks.map .int),ow b' (FL (ks.length+1) (gg ks ks.length)),t2,t3,t4,t5,t6,t7]):=by
 have p121:(2:Nat) ^ 121<=2 ^ 121:=eA _;have kb:∀(i:Nat) (x:Int),i<9->ks[i]?=some x->x.natAbs<=2 ^ 1200:=λi x hi h=>by
  refine eM (hk i x h) (eM (i9 (show b<=2 ^ 121 by lia) _) ?_)
  rw[<- AF];exact fR ⋯ ⋯
 have gb:∀i h,i<=9->h<=9->(gg ks i h).natAbs<2 ^ 20000:=λi h hi hh=>by
  refine big (a:=1170) (eM (rJ hk i h hh) ?_) ⋯;refine eM (i9 (m:=2 ^ 130) ?_ h) ?_
  .
   rw[show 130=9+121 from rfl,Nat.pow_add]
   exact AX (fR ⋯ hi) hb
  . rw[<- AF];exact fR ⋯ ⋯
 obtain⟨⟨b',t2,t3,t4,t5,t6,t7⟩,q⟩:=cK (T:=.nm 2) (lo:=1) (N:=ks.length) (b:=(rn (n+48)).b (bo c) (k+1) [BV,xH li,BW]) (λi (x:Bool×Slot×Slot×Slot×Slot×Slot×Slot)=>[ow c (ks.map .int),ow x.1 (FL (ks.length+1) (gg ks i)),x.2.1,x.2.2.1,x.2.2.2.1,x.2.2.2.2.1,x.2.2.2.2.2.1,x.2.2.2.2.2.2]) (λi x hi=>by
  obtain⟨y,hy⟩:∃y,ks[i]?=some y:=⟨_,kA hi⟩;have e1:(1:Int)+(i:Int)=((i+1:Nat):Int):=by lia
  rw[e1];have a1:=Jj (n:=n) (k:=k+1) (c:=c) (b:=x.1) (d0:=ow c (ks.map .int)) (fl:=FL (ks.length+1) (gg ks i)) (LI:=((ks.length+1:Nat):Int)) (s2:=.dat (.int ((i+1:Nat):Int))) (s3:=x.2.2.1) (s4:=x.2.2.2.1) (s5:=x.2.2.2.2.1) (s6:=x.2.2.2.2.2.1) (s7:=x.2.2.2.2.2.2) U (by rw[cA]) (fO _ _ rfl ⋯)
  have h0:L2.fj (ks.map D.int) (((i+1:Nat):Int) - 1)=some (.int y):=by
   have:=iS (ks.map D.int) i (by rw[eC];exact hi)
   rw[show (((i+1:Nat):Int) - 1)=(i:Int)by lia,this,Bn]
   obtain⟨_,e⟩:=a9.mp hy;rw[e]
  obtain⟨t4,t5,t6,t7,a2⟩:=Jh (n:=n+1) (k:=k) (b:=x.1) (c:=c) (f:=gg ks i) (s4:=x.2.2.2.1) (s5:=x.2.2.2.2.1) (s6:=x.2.2.2.2.2.1) (s7:=x.2.2.2.2.2.2) (L:=ks.length+1) U hL h0 (y8 _) ⋯ ⋯ (kb i y ⋯ hy) λh hh=>gb i h ⋯ ⋯
  have e2:ww (gg ks i) (i+1) y=gg ks (i+1):=by funext m;show _=ww (gg ks i) (i+1) (ks[i]?.getD 0) m;rw[hy];rfl
  rw[e2]at a2;have a3:=Jk (n:=n) (k:=k+1) (c:=c) (d0:=ow c (ks.map .int)) (l:=FL (ks.length+1) (gg ks (i+1))) (s1:=ow x.1 (FL (ks.length+1) (gg ks i))) (s2:=.dat (.int ((i+1:Nat):Int))) (s4:=t4) (s5:=t5) (s6:=t6) (s7:=t7) U;refine⟨_,(false,.dat (.int ((i+1:Nat):Int)),.dat (.lst (FL (ks.length+1) (gg ks (i+1)))),t4,t5,t6,t7),rfl,?_⟩;rw[U.b];exact (aq a1).trans ((aq a2).trans ((aq a3).trans rfl))) (bb,s2,s3,s4,s5,s6,s7)
 refine⟨b',t2,t3,t4,t5,t6,t7,Jm (NI:=ks.length) U (by rw[eC]) (bX _ ⋯) ⋯ (aF _ ⋯) q⟩
end
open bF
theorem BZ(ks: ~~~0):(cO ks).map D.int=FL ks.length λn=>gg ks ks.length (n+1):=by unfold cO FL;rw[List.map_map];rfl
section
variable{k n:Nat}{rn:Nat->Rn}{fns:List Fx}{li:Nat}{c:Bool}(U:eY fns rn)
include U
theorem Jo{b:Bool}{d0:Slot}{l:List D}{s2 s3 s4 s5 s6 s7:Slot}:bW (rn (n+48)) (bo c) k [(.ret (.slice ⇑1 (some ↥1) none))] [d0,ow b l,s2,s3,s4,s5,s6,s7]=some (.rt (.new (fK l (some 1) none)),[d0,ow b l,s2,s3,s4,s5,s6,s7]):=by unfold ow bo;cases b <;> cases c <;> simp! [U,kQ]
variable(hL:fns[li]?=some cV)
include hL
theorem Ca{ks: ~~~0}{b:Nat}(hl:ks.length<=9)(hb:b+9<=2 ^ 121)(hk:∀(i:Nat) (x:Int),ks[i]?=some x->x.natAbs<=b ^ (i+1)) :
  ∃t1 t2 t3 t4 t5 t6 t7,(rn (n+49)).b (bo c) (k+1) (iW li).body [ow c (ks.map .int),.no,.no,.no,.no,.no,.no,.no]=some (.rt (.new ((cO ks).map .int)),[ow c (ks.map .int),t1,t2,t3,t4,t5,t6,t7]):=by
 have e0:=Jl (n:=n) (k:=k+1) (c:=c) (ks:=ks.map .int) (NI:=ks.length) (s1:=.no) (s2:=.no) (s3:=.no) (s4:=.no) (s5:=.no) (s6:=.no) (s7:=.no) U (by rw[eC]) (fO _ _ rfl ⋯) (fW [.int 1] _ (by rw[cA];show 1+_<=1000;lia))
 rw[pD ks]at e0;obtain⟨b',t2,t3,t4,t5,t6,t7,e1⟩:=BX (n:=n) (k:=k) (c:=c) U hL hl hb hk true .no .no .no .no .no .no;have e2:=Jo (n:=n) (k:=k+1) (c:=c) (b:=b') (d0:=ow c (ks.map .int)) (l:=FL (ks.length+1) (gg ks ks.length)) (s2:=t2) (s3:=t3) (s4:=t4) (s5:=t5) (s6:=t6) (s7:=t7) U;rw[BR,<- BZ]at e2;refine⟨ow b' (FL (ks.length+1) (gg ks ks.length)),t2,t3,t4,t5,t6,t7,?_⟩;rw[U.b];exact (aq e0).trans ((aq e1).trans e2)
end
open bF
theorem lG{O:Type}{T:Tg}{b:G->Option (Fl×G)}{N:Nat}(fh:Nat->D)(fr:Nat->O->G)(step:∀i s,i<N->∃g1 s',T.set (fh i) (fr i s)=some g1/\b g1=some (.nx,fr (i+1) s'))(s:O):∃s',bD T b ((List.range N).map fh) (fr 0 s)=some (.nx,fr N s'):=by
 have key:∀c i s,i+c=N->∃s',bD T b ((List.range' i c).map fh) (fr i s)=some (.nx,fr N s'):=by
  intro c
  induction c with
  |zero=>intro i s h;obtain rfl:i=N:=h;exact⟨s,rfl⟩
  |succ c ih=>intro i s h;obtain⟨g1,s1,e1,e2⟩:=step i s ⋯;obtain⟨s',e3⟩:=ih (i+1) s1 ⋯;refine⟨s',?_⟩;rw[Bi,List.map_cons];unfold bD;rw[e1];dsimp only;rw[e2];exact e3
 have:=key N 0 s ⋯;rw[<- BC]at this;exact this
def rL(f:Nat->Int)(s:Nat)(kd:Int)(T o n:Nat):Int:=wk f s kd T n+if (T+1) * s<=n/\n<(T+1) * s+o then dc kd (T+1) * f (n - (T+1) * s)else 0
section
variable{f:Nat->Int}{s:Nat}{kd:Int}{T o n L:Nat}
theorem Vy:rL f s kd T 0 n=wk f s kd T n:=by unfold rL;rw[i8 ⋯,u7]
theorem Cb:(if n=o+(T+1) * s then rL f s kd T o (o+(T+1) * s)+dc kd (T+1) * f o else rL f s kd T o n)=rL f s kd T (o+1) n:=by
 by_cases e:n=o+(T+1) * s
 . subst e;unfold rL;generalize (T+1) * s=m;rw[lL rfl,i8 ⋯,lL ⋯,Nat.add_sub_cancel,u7]
 .
  rw[i8 e];unfold rL;generalize (T+1) * s=m at e ⊢
  congr 1
  by_cases c:m<=n/\n<m+o
  . rw[lL c,lL ⋯]
  . rw[i8 c,i8 ⋯]
theorem Jp(hm:(T+1) * s<=L)(hn:n<L):rL f s kd T (L - (T+1) * s) n=wk f s kd (T+1) n:=by
 unfold rL;rw[iU]
 congr 1
 by_cases c:(T+1) * s<=n
 . rw[lL c,lL ⋯]
 . rw[i8 c,i8 ⋯]
end
theorem Jq{L M:Nat}{f:Nat->Int}{v:Int}(h:v=M)(hM:M<=L):fK (FL L f) none (some v)=FL M f:=by
 subst h;have e1:HT.bB (FL L f).length 0 none=0:=rfl;have e2:HT.bB (FL L f).length (FL L f).length (some (M:Int))=M:=by rw[cA];simp[HT.bB];lia
 unfold fK;rw[e1,e2,List.drop_zero,Nat.sub_zero];unfold FL;rw[<- List.map_take,List.take_range,Nat.min_eq_left hM]
theorem Jr(M:Nat)(f:Nat->Int):iM (FL M f)=(List.range M).map λ(i:Nat)=>D.tup [.int (i:Int),.int (f i)]:=by
 unfold iM FL;refine List.ext_getElem ⋯ λi h1 h2=>?_
 simp
noncomputable def xK:Sm:=.qO 3 (.bin .Add ⇑6 (.bin .Mult ⇑5 ⇑1)) (.bin .Mult ⇑4 ⇑7)
def xM:Sm:=.set 4 (.bin .FloorDiv (.bin .Mult ⇑4 (.bin .Sub (.bin .Add ⇑2 ⇑5) ↥1)) ⇑5)
def pF:Sm:=.loop (.tp [6,7]) (.enum (.slice ⇑0 none (some (.bin .Sub (.blt .len [⇑0]) (.bin .Mult ⇑5 ⇑1))))) [xK]
def Cd:Sm:=.loop (.nm 5) (.iN ↥1 (.bin .Add (.bin .FloorDiv (.bin .Sub (.blt .len [⇑0]) ↥1) ⇑1) ↥1)) [xM,pF]
def cQ:Fx:=⟨3,8,[(.set 3 (.blt .list [⇑0])),(.set 4 ↥1),Cd,(.ret ⇑3)]⟩
section
variable{k n:Nat}{rn:Nat->Rn}{fns:List Fx}{b:Bool}(U:eY fns rn)
include U
theorem Js{d0 d2:Slot}{pl:List D}{sI tI oI ch x y:Int}(m1:fB .Mult (.int tI) (.int sI)=some (.dat (.int (tI * sI))))(h0:0<=oI+tI * sI)(h1:pl[(oI+tI * sI).toNat]?=some (.int x))(h2:L2.rY pl.length (oI+tI * sI)=some (oI+tI * sI).toNat)(m2:fB .Mult (.int ch) (.int y)=some (.dat (.int (ch * y)))) :
  aC (rn (n+40)) (bo b) k xK [d0,‹sI›,d2,.own pl,‹ch›,‹tI›,‹oI›,‹y›]=some (.nx,[d0,‹sI›,d2,.own (pl.set (oI+tI * sI).toNat (.int (x+ch * y))),‹ch›,‹tI›,‹oI›,‹y›]):=by
 unfold xK bo;cases b with
 |true=>simp! [U,m1,h0,h1,h2,m2]
 |false=>simp! [U,m1,h0,h1,h2,m2]
theorem Ju{d0 d1 d3 s6 s7:Slot}{kd ch tI q:Int}(m1:fB .Mult (.int ch) (.int (kd+tI - 1))=some (.dat (.int (ch * (kd+tI - 1)))))(m2:fB .FloorDiv (.int (ch * (kd+tI - 1))) (.int tI)=some ‹q›) :
  aC (rn (n+42)) (bo b) k xM [d0,d1,‹kd›,d3,‹ch›,‹tI›,s6,s7]=some (.nx,[d0,d1,‹kd›,d3,‹q›,‹tI›,s6,s7]):=by
 unfold xM bo;cases b with
 |true=>simp! [U,m1,m2]
 |false=>simp! [U,m1,m2]
theorem Jv{fl pl:List D}{sI tI LI:Int}{d2 d4 s6 s7:Slot}{g':G}(h1:(fl.length:Int)=LI)(m1:fB .Mult (.int tI) (.int sI)=some (.dat (.int (tI * sI)))){cl:List D}(h2:fK fl none (some (LI - tI * sI))=cl)
  (hl:bD (.tp [6,7]) ((rn (n+41)).b (bo b) k [xK]) (iM cl) [ow b fl,‹sI›,d2,.own pl,d4,‹tI›,s6,s7]=some (.nx,g')) :
  aC (rn (n+41)) (bo b) k pF [ow b fl,‹sI›,d2,.own pl,d4,‹tI›,s6,s7]=some (.nx,g'):=by
 unfold pF;unfold ow bo at hl ⊢
 cases b with
 |true=>simp! [U,Tg.cY,Tg.ix,eW,kQ,h1,m1,h2,cM];exact hl
 |false=>simp! [U,Tg.cY,eW,kQ,h1,m1,h2,cM];exact hl
end
open bF
section
variable{k n:Nat}{rn:Nat->Rn}{fns:List Fx}{b:Bool}(U:eY fns rn)
include U
theorem Jw{L s T:Nat}{f:Nat->Int}{kd:Int}{d2 s6 s7:Slot}(Qi:L<=10)(hs:s<=9)(hT:(T+1) * s<=L)(hT9:T+1<=10)(hc:(dc kd (T+1)).natAbs<2 ^ 20000)(hf:∀h,h<L->(f h).natAbs<2 ^ 20000) :
  ∃t6 t7,aC (rn (n+41)) (bo b) k pF [ow b (FL L f),‹s›,d2,.own (FL L (wk f s kd T)),.dat (.int (dc kd (T+1))),.dat (.int ((T+1:Nat):Int)),s6,s7]=some (.nx,[ow b (FL L f),‹s›,d2,.own (FL L (wk f s kd (T+1))),.dat (.int (dc kd (T+1))),.dat (.int ((T+1:Nat):Int)),t6,t7]):=by
 have e1:((T+1:Nat):Int) * (s:Int)=(((T+1) * s:Nat):Int):=by rw[Int.natCast_mul]
 have m1:=eZ ((T+1:Nat):Int) (s:Int) (.inl ⋯);obtain⟨⟨t6,t7⟩,hl⟩:=lG (T:=.tp [6,7]) (N:=L - (T+1) * s) (b:=(rn (n+41)).b (bo b) k [xK]) (λ(i:Nat)=>D.tup [.int (i:Int),.int (f i)]) (λo (x:Slot×Slot)=>[ow b (FL L f),‹s›,d2,.own (FL L (rL f s kd T o)),.dat (.int (dc kd (T+1))),.dat (.int ((T+1:Nat):Int)),x.1,x.2]) (λo x ho=>by
  refine⟨_,(‹o›,.dat (.int (f o))),rfl,?_⟩;have e2:(o:Int)+((T+1:Nat):Int) * (s:Int)=((o+(T+1) * s:Nat):Int):=by rw[e1,Int.natCast_add]
  have e3:((o:Int)+((T+1:Nat):Int) * (s:Int)).toNat=o+(T+1) * s:=by rw[e2];rfl
  have nX:o+(T+1) * s<L:=by lia
  have q:=Js (n:=n) (k:=k) (b:=b) (d0:=ow b (FL L f)) (d2:=d2) (pl:=FL L (rL f s kd T o)) (oI:=o) (ch:=dc kd (T+1)) (x:=rL f s kd T o (o+(T+1) * s)) (y:=f o) U m1 (by rw[e2];exact Int.natCast_nonneg _) (by rw[e3];exact BJ nX) (by rw[e2];exact tV nX) (jT hc (hf o ⋯))
  rw[e3,BK]at q;have e:(λm=>if m=o+(T+1) * s then rL f s kd T o (o+(T+1) * s)+dc kd (T+1) * f o else rL f s kd T o m)=rL f s kd T (o+1):=funext λm=>Cb
  rw[e]at q;rw[U.b];exact (aq q).trans rfl) (s6,s7)
 refine⟨t6,t7,?_⟩;dsimp only at hl;have a0:FL L (rL f s kd T 0)=FL L (wk f s kd T):=dY λm _=>Vy
 have a1:FL L (rL f s kd T (L - (T+1) * s))=FL L (wk f s kd (T+1)):=dY λm hm=>Jp hT hm
 rw[a0,a1]at hl;refine Jv (LI:=L) (cl:=FL (L - (T+1) * s) f) U (by rw[cA]) m1 (Jq (by rw[e1];lia) (Nat.sub_le _ _)) ?_
 rw[Jr];exact hl
theorem Jx{fl pl:List D}{sI LI q:Int}{N:Nat}{d2 d4 s5 s6 s7:Slot}{g':G}(h1:(fl.length:Int)=LI)(h2:fB .FloorDiv (.int (LI - 1)) (.int sI)=some ‹q›)(h3:pW (q+1)=true)(h4:q.toNat=N)
  (hl:bD (.nm 5) ((rn (n+43)).b (bo b) k [xM,pF]) (fJ 1 N) [ow b fl,‹sI›,d2,.own pl,d4,s5,s6,s7]=some (.nx,g')) :
  aC (rn (n+43)) (bo b) k Cd [ow b fl,‹sI›,d2,.own pl,d4,s5,s6,s7]=some (.nx,g'):=by
 have h6:pW 1=true:=by decide
 unfold Cd;unfold ow bo at hl ⊢
 cases b with
 |true=>simp! [U,Tg.cY,Tg.ix,eW,h1,h2,h3,h4,h6];exact hl
 |false=>simp! [U,Tg.cY,eW,h1,h2,h3,h4,h6];exact hl
theorem Jy{fl pl:List D}{sI kd:Int}{t4 t5 t6 t7:Slot}(h:aC (rn (n+43)) (bo b) k Cd [ow b fl,‹sI›,‹kd›,.own fl,‹1›,.no,.no,.no]=some (.nx,[ow b fl,‹sI›,‹kd›,.own pl,t4,t5,t6,t7])) :
  (rn (n+44)).b (bo b) k cQ.body [ow b fl,‹sI›,‹kd›,.no,.no,.no,.no,.no]=some (.rt (.var 3),[ow b fl,‹sI›,‹kd›,.own pl,t4,t5,t6,t7]):=by
 have e0:aC (rn (n+43)) (bo b) k (.set 3 (.blt .list [⇑0])) [ow b fl,‹sI›,‹kd›,.no,.no,.no,.no,.no]=some (.nx,[ow b fl,‹sI›,‹kd›,.own fl,.no,.no,.no,.no]):=by
  unfold ow bo;cases b with
  |true=>simp! [U,cM]
  |false=>simp! [U,cM]
 have e1:aC (rn (n+43)) (bo b) k (.set 4 ↥1) [ow b fl,‹sI›,‹kd›,.own fl,.no,.no,.no,.no]=some (.nx,[ow b fl,‹sI›,‹kd›,.own fl,‹1›,.no,.no,.no]):=by
  unfold bo;cases b with
  |true=>simp! [U,U.e]
  |false=>simp! [U,U.e]
 have e3:bW (rn (n+43)) (bo b) k [(.ret ⇑3)] [ow b fl,‹sI›,‹kd›,.own pl,t4,t5,t6,t7]=some (.rt (.var 3),[ow b fl,‹sI›,‹kd›,.own pl,t4,t5,t6,t7]):=by
  unfold bo;cases b with
  |true=>simp! [U,U.e]
  |false=>simp! [U,U.e]
 rw[U.b];exact (aq e0).trans ((aq e1).trans ((aq h).trans e3))
theorem Qj{L s:Nat}{f:Nat->Int}{kd:Int}(hL:0<L)(Qi:L<=10)(hs0:0<s)(hs:s<=9)(hk:kd.natAbs<=2 ^ 1200)(hf:∀h,h<L->(f h).natAbs<2 ^ 20000) :
  ∃t4 t5 t6 t7,(rn (n+44)).b (bo b) k cQ.body [ow b (FL L f),‹s›,‹kd›,.no,.no,.no,.no,.no]=some (.rt (.var 3),[ow b (FL L f),‹s›,‹kd›,.own (FL L (ww f s kd)),t4,t5,t6,t7]):=by
 have hdm:=BU (L - 1) s;have hd9:(L - 1) / s<=9:=eM (Nat.div_le_self _ _) ⋯;obtain⟨⟨t5,t6,t7⟩,hl⟩:=cK (T:=.nm 5) (lo:=1) (N:=(L - 1) / s) (b:=(rn (n+43)).b (bo b) k [xM,pF]) (λT (x:Slot×Slot×Slot)=>[ow b (FL L f),‹s›,‹kd›,.own (FL L (wk f s kd T)),.dat (.int (dc kd T)),x.1,x.2.1,x.2.2]) (λT x hT=>by
  have e1:(1:Int)+(T:Int)=((T+1:Nat):Int):=by lia
  rw[e1];have Wy:(T+1) * s<=(L - 1) / s * s:=r6 s hT;have c1:dc kd T * (kd+((T+1:Nat):Int) - 1) / ((T+1:Nat):Int)=dc kd (T+1):=by
   show _=dc kd T * (kd+T) / (T+1);rw[show kd+((T+1:Nat):Int) - 1=kd+T by lia]
   rfl
  have b1:(kd+((T+1:Nat):Int) - 1).natAbs<=2 ^ 1201:=by
   rw[B2];have:2 ^ 4<=2 ^ 1200:=fR ⋯ ⋯;have e:(2:Nat) ^ 4=16:=rfl;rw[e]at this;generalize 2 ^ 1200=y at this hk ⊢
   lia
  have a1:=Ju (n:=n) (k:=k) (b:=b) (d0:=ow b (FL L f)) (d1:=‹s›) (d3:=.own (FL L (wk f s kd T))) (s6:=x.2.1) (s7:=x.2.2) (kd:=kd) (ch:=dc kd T) (tI:=((T+1:Nat):Int)) (q:=dc kd (T+1)) U (jT (big (jU hk ⋯) ⋯) (big b1 ⋯)) (by rw[<- c1];exact iT _ _ ⋯)
  obtain⟨t6,t7,a2⟩:=Jw (n:=n+1) (k:=k) (b:=b) (f:=f) (kd:=kd) (d2:=‹kd›) (s6:=x.2.1) (s7:=x.2.2) U Qi hs (show (T+1) * s<=L by lia) ⋯ (big (jU hk ⋯) ⋯) hf
  refine⟨_,(.dat (.int ((T+1:Nat):Int)),t6,t7),rfl,?_⟩;rw[U.b];exact (aq a1).trans ((aq a2).trans rfl)) (.no,.no,.no)
 dsimp only at hl;have a1:FL L (wk f s kd ((L - 1) / s))=FL L (ww f s kd):=dY λm hm=>Vt hs0 hm
 rw[a1]at hl;have c1:((L:Int) - 1) / s=(((L - 1) / s:Nat):Int):=by rw[Int.natCast_ediv];congr 1;lia
 have a2:=Jx (n:=n) (k:=k) (b:=b) (LI:=L) (q:=(((L - 1) / s:Nat):Int)) U (by rw[cA]) (by rw[<- c1];exact iT _ _ ⋯) (bX _ ⋯) ⋯ hl
 rw[show dc kd 0=1 from rfl,show wk f s kd 0=f from rfl]at a2
 exact⟨_,t5,t6,t7,Jy (n:=n) (k:=k) (b:=b) U a2⟩
end
open bF
noncomputable def ar(c:Bool)(i:Nat)(l:List D):R:=if c then .var i else .dat (.lst l)
theorem set_same{g:G}{i:Nat}{s:Slot}(h:g[i]?=some s):g.set i s=g:=by
 refine List.ext_getElem? λj=>?_
 rw[List.getElem?_set];by_cases e:i=j
 . subst e;rw[lL rfl,lL (a9.mp h).1,h]
 . rw[i8 e]
section
variable{k n li i:Nat}{rn:Nat->Rn}{fns:List Fx}{c:Bool}{g:G}(U:eY fns rn)
include U
theorem Ce(hL:fns[li]?=some cV){ks: ~~~0}{b:Nat}(hl:ks.length<=9)(hb:b+9<=2 ^ 121)(hk:∀(i:Nat) (x:Int),ks[i]?=some x->x.natAbs<=b ^ (i+1))(hg:c=true->g[i]?=some (.own (ks.map .int))) :
  bG (rn (n+49)) (iW li) (k+1) [ar c i (ks.map .int)] g=some (.new ((cO ks).map .int),g):=by
 obtain⟨t1,t2,t3,t4,t5,t6,t7,h⟩:=Ca (n:=n) (k:=k) (c:=c) U hL hl hb hk;have hp:∀s,bN (iW li).n [s]=[s,.no,.no,.no,.no,.no,.no,.no]:=λs=>rfl
 unfold bG ar;unfold bo ow at h;cases c with
 |false=>simp only[vars,bM,List.map_nil,i8 oP];rw[hp];simp only[i8 oP]at h;rw[h];rfl
 |true=>simp only[vars,bM,hg rfl,List.map_cons,List.map_nil,B6];rw[hp];simp only[B6]at h;rw[h];simp[back,cu,iW,set_same (hg rfl)]
theorem rM{L s:Nat}{f:Nat->Int}{kd:Int}(hL:0<L)(Qi:L<=10)(hs0:0<s)(hs:s<=9)(hk:kd.natAbs<=2 ^ 1200)(hf:∀h,h<L->(f h).natAbs<2 ^ 20000)(hg:c=true->g[i]?=some (.own (FL L f))) :
  bG (rn (n+44)) cQ k [ar c i (FL L f),‹s›,‹kd›] g=some (.new (FL L (ww f s kd)),g):=by
 obtain⟨t4,t5,t6,t7,h⟩:=Qj (n:=n) (k:=k) (b:=c) (f:=f) U hL Qi hs0 hs hk hf;have hp:∀s a b,bN cQ.n [s,a,b]=[s,a,b,.no,.no,.no,.no,.no]:=λs a b=>rfl
 unfold bG ar;unfold bo ow at h;cases c with
 |false=>simp only[vars,bM,List.map_nil,i8 oP];rw[hp];simp only[i8 oP]at h;rw[h];rfl
 |true=>simp only[vars,bM,hg rfl,List.map_cons,List.map_nil,B6];rw[hp];simp only[B6]at h;rw[h];simp[back,cu,cQ,set_same (hg rfl)]
end
open bF
def Cg(wi:Nat):Sm:=.set 1 (.call wi [⇑1,⇑2,⇑3])
def Jz(wi:Nat):Sm:=.loop (.tp [2,3]) (.dM ⇑0) [Cg wi]
def rO(mi wi:Nat):Fx:=⟨1,4,[(.expr (.call mi [⇑0])),mF,Jz wi,(.ret (.slice ⇑1 (some ↥1) none))]⟩
theorem ju(ks: ~~~0):fL (ks.map .int)=(List.range ks.length).map λ(i:Nat)=>D.tup [.int ((1+i:Nat):Int),.int (ks[i]?.getD 0)]:=by
 unfold fL;refine List.ext_getElem ⋯ λi h1 h2=>?_
 have hi:i<ks.length:=by simpa using h2
 simp[kA hi]
section
variable{k n wi:Nat}{rn:Nat->Rn}{fns:List Fx}(U:eY fns rn)
include U
theorem JB(hw:fns[wi]?=some cQ){d0:Slot}{l r:List D}{sI kd:Int}(q:∀n k,bG (rn (n+44)) cQ k [.var 1,‹sI›,‹kd›] [d0,.own l,‹sI›,‹kd›]=some (.new r,[d0,.own l,‹sI›,‹kd›])) :
  aC (rn (n+46)) [] (k+1) (Cg wi) [d0,.own l,‹sI›,‹kd›]=some (.nx,[d0,.own r,‹sI›,‹kd›]):=by
 unfold Cg;simp! [U,hw,q]
theorem JC{ks fl:List D}{s2 s3:Slot}{g':G}(hl:bD (.tp [2,3]) ((rn (n+47)).b [] k [Cg wi]) (fL ks) [.dat (.lst ks),.own fl,s2,s3]=some (.nx,g')) :
  aC (rn (n+47)) [] k (Jz wi) [.dat (.lst ks),.own fl,s2,s3]=some (.nx,g'):=by
 unfold Jz;simp! [U,Tg.cY,eW,Af];exact hl
theorem Ci(hw:fns[wi]?=some cQ){ks: ~~~0}{b:Nat}(hl:ks.length<=9)(hb:b+9<=2 ^ 121)(hk:∀(i:Nat) (x:Int),ks[i]?=some x->x.natAbs<=b ^ (i+1))(s2 s3:Slot) :
  ∃t2 t3,aC (rn (n+47)) [] (k+1) (Jz wi) [.dat (.lst (ks.map .int)),.own (FL (ks.length+1) (gg ks 0)),s2,s3]=some (.nx,[.dat (.lst (ks.map .int)),.own (FL (ks.length+1) (gg ks ks.length)),t2,t3]):=by
 have kb:∀(i:Nat) (x:Int),i<9->ks[i]?=some x->x.natAbs<=2 ^ 1200:=λi x hi h=>by
  refine eM (hk i x h) (eM (i9 (show b<=2 ^ 121 by lia) _) ?_)
  rw[<- AF];exact fR ⋯ ⋯
 have gb:∀i h,i<=9->h<=9->(gg ks i h).natAbs<2 ^ 20000:=λi h hi hh=>by
  refine big (a:=1170) (eM (rJ hk i h hh) ?_) ⋯;refine eM (i9 (m:=2 ^ 130) ?_ h) ?_
  .
   rw[show 130=9+121 from rfl,Nat.pow_add]
   exact AX (fR ⋯ hi) hb
  . rw[<- AF];exact fR ⋯ ⋯
 obtain⟨⟨t2,t3⟩,q⟩:=lG (T:=.tp [2,3]) (N:=ks.length) (b:=(rn (n+47)).b [] (k+1) [Cg wi]) (λ(i:Nat)=>D.tup [.int ((1+i:Nat):Int),.int (ks[i]?.getD 0)]) (λi (x:Slot×Slot)=>[.dat (.lst (ks.map .int)),.own (FL (ks.length+1) (gg ks i)),x.1,x.2]) (λi x hi=>by
  obtain⟨y,hy⟩:∃y,ks[i]?=some y:=⟨_,kA hi⟩;rw[hy,B0 1 i];refine⟨_,(.dat (.int ((i+1:Nat):Int)),‹y›),rfl,?_⟩;have e2:ww (gg ks i) (i+1) y=gg ks (i+1):=by funext m;show _=ww (gg ks i) (i+1) (ks[i]?.getD 0) m;rw[hy];rfl
  have q:=λn k=>rM (n:=n) (k:=k) (c:=true) (i:=1) (L:=ks.length+1) (s:=i+1) (f:=gg ks i) (kd:=y) (g:=[.dat (.lst (ks.map .int)),.own (FL (ks.length+1) (gg ks i)),.dat (.int ((i+1:Nat):Int)),‹y›]) U (y8 _) ⋯ (y8 _) ⋯ (kb i y ⋯ hy) (λh hh=>gb i h ⋯ ⋯) (λ_=>rfl)
  rw[e2]at q;have a:=JB (n:=n) (k:=k) U hw q;rw[U.b];exact (aq a).trans rfl) (s2,s3)
 refine⟨t2,t3,JC U ?_⟩;rw[ju];exact q
end
open bF
def cN(wi:Nat):Fx:=⟨1,1,[(.ite (.or [(.not (.wZ ⇑0 "list")),(.not (.chain ↥1 [.LtE,.LtE] [(.blt .len [⇑0]),↥9]))]) [(.ret (.val (.bl false)))] []),(.ret (.blt .all [(.comp 1 2 (.nm 2) ⇑0 none (.call wi [⇑2,↥0,↥9999999999]))]))]⟩
noncomputable def bz(ni ci:Nat):Fx:=⟨1,1,[(.ite (.not (.call ni [⇑0])) [(.raise ci (.val (.str (PySem.Str.ofString "no numbers of kinds"))))] [])]⟩
def isNm:D->Bool
 |.lst l=>decide (1<=l.length/\l.length<=9)&&l.all (yp 0 9999999999)
 |_=>false
section
variable{k n w wi ni ci mi pi:Nat}{rn:Nat->Rn}{fns:List Fx}(U:eY fns rn)(hW:fns[w]?=some bV)
include U hW
theorem vh(hI:fns[wi]?=some (aX w))(l:List D)(hd:l.length<=40):dN (rn (n+20)) [] (k+2) 1 2 (.nm 2) ⇑0 none (.call wi [⇑2,↥0,↥9999999999]) [.dat (.lst l)]=some ((l.map (yp 0 9999999999)).map .bl,[.dat (.lst l)]):=by
 rw[List.map_map];have:=Kz (rn:=rn (n+20)) (bor:=[]) (k:=k+2) (g:=[.dat (.lst l)]) (g1:=[.dat (.lst l)]) (kk:=2) (j:=2) (it:=.slot 0) (e:=.call wi [⇑2,↥0,↥9999999999]) l id (λx=>.bl (yp 0 9999999999 x)) (by simp! [U,eW]) rfl ⋯ ⋯ ⋯ (aF _ ⋯) λa _ G' hG=>by
  have h2:=hG.2;simp! [U,h2,hI,Iq (fx:=aX w) rfl,xJ U hW]
 exact this
theorem tW(hI:fns[wi]?=some (aX w))(l:List D):bH (rn (n+40)) (k+3) (cN wi) [.lst l]=some (.dat (.bl (isNm (.lst l)))):=by
 have hT:dD (lQ (D.lst l)) "list"=true:=rfl;by_cases c:1<=l.length/\l.length<=9
 .
  have o:=λn k=>vh U hW hI (n:=n) (k:=k) l ⋯
  have c1:(1:Int)<=l.length:=by lia
  have c2:(l.length:Int)<=9:=by lia
  have e:isNm (.lst l)=l.all (yp 0 9999999999):=by show (decide _&&_)=_;rw[nN c,Bool.true_and]
  rw[e];unfold bH cN;simp! [U,hT,c1,c2,o]
 .
  have e:isNm (.lst l)=false:=by show (decide _&&_)=_;rw[pE c,Bool.false_and]
  rw[e];by_cases c1:(1:Int)<=l.length
  .
   have c2 : ¬ (l.length:Int)<=9:=by lia
   unfold bH cN;simp! [U,hT,c1,c2]
  . unfold bH cN;simp! [U,hT,c1]
theorem Qk(d:D)(e:dD (lQ d) "list"=false):bH (rn (n+40)) (k+3) (cN wi) [d]=some (.dat (.bl false)):=by unfold bH cN;simp! [U,e]
theorem lH(hI:fns[wi]?=some (aX w))(hN:fns[ni]?=some (cN wi))(l:List D)(h:isNm (.lst l)=true):bH (rn (n+50)) (k+4) (bz ni ci) [.lst l]=some (.dat .non):=by
 have q:=λn k=>tW U hW hI (n:=n) (k:=k) l
 rw[h]at q;unfold bH bz;simp! [U,hN,aZ (fx:=cN wi) rfl,q]
end
open bF
theorem fX{ks: ~~~0}(h:isNm (.lst (ks.map .int))=true):(1<=ks.length/\ks.length<=9)/\∀x∈ks,0<=x/\x<=9999999999:=by
 have h':(decide (1<=(ks.map D.int).length/\(ks.map D.int).length<=9)&&(ks.map D.int).all (yp 0 9999999999))=true:=h;rw[eQ,kS,eC,i5]at h';refine⟨h'.1,λx hx=>?_⟩
 have:=h'.2 (.int x) (mM hx);simpa [yp]using this
theorem KD{ks: ~~~0}(h:∀x∈ks,0<=x/\x<=9999999999):∀(i:Nat) (x:Int),ks[i]?=some x->x.natAbs<=(10 ^ 10) ^ (i+1):=λi x e=>by
 have:=h x (fA e);have h1:x.natAbs<=10 ^ 10:=by lia
 exact eM h1 (eM (A7 (Nat.pow_one _).symm) (fR ⋯ ⋯))
section
variable{k n w wi ni ci mi pi:Nat}{rn:Nat->Rn}{fns:List Fx}(U:eY fns rn)
include U
theorem JD{ks z:List D}{NI:Int}{s1 s2 s3:Slot}(h1:(ks.length:Int)=NI)(h2:fB .Mult (.lst [.int 0]) (.int NI)=some (.new z))(h3:fB .Add (.lst [.int 1]) (.lst z)=some (.new (.int 1::z))) :
  aC (rn (n+59)) [] k mF [.dat (.lst ks),s1,s2,s3]=some (.nx,[.dat (.lst ks),.own (.int 1::z),s2,s3]):=by
 unfold mF;simp! [U,h1,h2,h3,aF 1 ⋯]
theorem JF{d0:Slot}{l:List D}{s2 s3:Slot}:bW (rn (n+59)) [] k [(.ret (.slice ⇑1 (some ↥1) none))] [d0,.own l,s2,s3]=some (.rt (.new (fK l (some 1) none)),[d0,.own l,s2,s3]):=by simp! [U,kQ]
variable(hW:fns[w]?=some bV)(hI:fns[wi]?=some (aX w))(hN:fns[ni]?=some (cN wi))(hM:fns[mi]?=some (bz ni ci))
include hW hI hN hM
theorem JG{l:List D}{s1 s2 s3:Slot}(h:isNm (.lst l)=true):aC (rn (n+59)) [] (k+6) (.expr (.call mi [⇑0])) [.dat (.lst l),s1,s2,s3]=some (.nx,[.dat (.lst l),s1,s2,s3]):=by
 have q:=λn k=>lH (ci:=ci) U hW hI hN (n:=n) (k:=k) l h
 simp! [U,hM,aZ (fx:=bz ni ci) rfl,q]
theorem Ql(hw:fns[pi]?=some cQ){ks: ~~~0}(h:isNm (.lst (ks.map .int))=true):bH (rn (n+60)) (k+6) (rO mi pi) [.lst (ks.map .int)]=some (.new ((cO ks).map .int)):=by
 obtain⟨hl,hx⟩:=fX h;have e9:=JG (n:=n) (k:=k) (s1:=.no) (s2:=.no) (s3:=.no) U hW hI hN hM h;have e0:=JD (n:=n) (k:=k+6) (ks:=ks.map .int) (NI:=ks.length) (s1:=.no) (s2:=.no) (s3:=.no) U (by rw[eC]) (fO _ _ rfl ⋯) (fW [.int 1] _ (by rw[cA];show 1+_<=1000;lia))
 rw[pD ks]at e0;obtain⟨t2,t3,e1⟩:=Ci (n:=n+12) (k:=k+5) (b:=10 ^ 10) U hw hl.2 ⋯ (KD hx) .no .no;have e2:=JF (n:=n) (k:=k+6) (d0:=.dat (.lst (ks.map .int))) (l:=FL (ks.length+1) (gg ks ks.length)) (s2:=t2) (s3:=t3) U;rw[BR,<- BZ]at e2;have e5:(rn (n+60)).b [] (k+6) (rO mi pi).body [.dat (.lst (ks.map .int)),.no,.no,.no]=some (.rt (.new ((cO ks).map .int)),[.dat (.lst (ks.map .int)),.own (FL (ks.length+1) (gg ks ks.length)),t2,t3]):=by rw[U.b];exact (aq e9).trans ((aq e0).trans ((aq e1).trans e2))
 unfold bH;rw[show bN (rO mi pi).n (xB [D.lst (ks.map .int)])=[.dat (.lst (ks.map .int)),.no,.no,.no]from rfl,e5]
 rfl
end
open bF
def JH:Sm:=.set 5 (.bin .Sub ⇑4 (.ix ⇑1 ⇑3))
noncomputable def tX(ci:Nat):Sm:=.ite (.cmp .Lt ⇑5 ↥0) [(.raise ci (.val (.str (PySem.Str.ofString "fewer lots than lesser pieces make"))))] []
def JK:Sm:=.expr (.append 2 ⇑5)
def Cj(pi:Nat):Sm:=.set 1 (.call pi [⇑1,⇑3,⇑5])
def mG(ci pi:Nat):List Sm:=[JH,tX ci,JK,Cj pi]
def tY(ci pi:Nat):Sm:=.loop (.tp [3,4]) (.dM ⇑0) (mG ci pi)
def jJ(ci pi:Nat):Fx:=⟨1,6,[mF,(.set 2 (.lst [])),tY ci pi,(.ret ⇑2)]⟩
def jv(ns: ~~~0)(i:Nat):Int:=ns[i]?.getD 0 - gg (par ns i) i (i+1)
theorem dZ(ns: ~~~0)(i:Nat):par ns (i+1)=par ns i++[jv ns i]:=rfl
theorem Qm(ns: ~~~0)(i:Nat):ww (gg (par ns i) i) (i+1) (jv ns i)=gg (par ns (i+1)) (i+1):=by
 funext m
 show _=ww (gg (par ns (i+1)) i) (i+1) ((par ns (i+1))[i]?.getD 0) m;have e:(par ns (i+1))[i]?=some (jv ns i):=by rw[dZ,dE (A7 (bu ns i)),bu,wT];rfl
 rw[e,dZ,Bx _ _ (A7 (bu ns i).symm)];rfl
section
variable{k n ci pi:Nat}{rn:Nat->Rn}{fns:List Fx}(U:eY fns rn)
include U
theorem pG{d0 s2 s5:Slot}{fl:List D}{tI y x:Int}(h:L2.fj fl tI=some (.int x)):aC (rn (n+46)) [] k JH [d0,.own fl,s2,‹tI›,‹y›,s5]=some (.nx,[d0,.own fl,s2,‹tI›,‹y›,.dat (.int (y - x))]):=by unfold JH;simp! [U,h]
theorem vj{d0 d1 s2 s3 s4:Slot}{v:Int}(h:0<=v):aC (rn (n+46)) [] k (tX ci) [d0,d1,s2,s3,s4,‹v›]=some (.nx,[d0,d1,s2,s3,s4,‹v›]):=by
 have h' : ¬ v<0:=by lia
 unfold tX;simp! [U,h']
theorem vm{d0 d1 s3 s4:Slot}{l:List D}{v:Int}(h:l.length<=1000):aC (rn (n+46)) [] k JK [d0,d1,.own l,s3,s4,‹v›]=some (.nx,[d0,d1,.own (l++[.int v]),s3,s4,‹v›]):=by
 have h0:(1000:Nat)<lim:=by decide
 have h':l.length<lim:=by lia
 unfold JK;simp! [U,h']
theorem JL(hw:fns[pi]?=some cQ){d0 s2 s4:Slot}{l r:List D}{sI kd:Int}(q:∀n k,bG (rn (n+44)) cQ k [.var 1,‹sI›,‹kd›] [d0,.own l,s2,‹sI›,s4,‹kd›]=some (.new r,[d0,.own l,s2,‹sI›,s4,‹kd›])) :
  aC (rn (n+46)) [] (k+1) (Cj pi) [d0,.own l,s2,‹sI›,s4,‹kd›]=some (.nx,[d0,.own r,s2,‹sI›,s4,‹kd›]):=by
 unfold Cj;simp! [U,hw,q]
theorem vn(hw:fns[pi]?=some cQ){ns: ~~~0}{i:Nat}{s5:Slot}(hl:ns.length<=9)(hi:i<ns.length)(hx:∀x∈ns,x.natAbs<=10 ^ 10)(hp:0<=jv ns i) :
  (rn (n+47)).b [] (k+1) (mG ci pi) [.dat (.lst (ns.map .int)),.own (FL (ns.length+1) (gg (par ns i) i)),.own ((par ns i).map .int),.dat (.int ((i+1:Nat):Int)),.dat (.int (ns[i]?.getD 0)),s5] =
   some (.nx,[.dat (.lst (ns.map .int)),.own (FL (ns.length+1) (gg (par ns (i+1)) (i+1))),.own ((par ns (i+1)).map .int),.dat (.int ((i+1:Nat):Int)),.dat (.int (ns[i]?.getD 0)),.dat (.int (jv ns i))]):=by
 have hle:=pC hx i ⋯;have Zw:=pC hx (i+1) ⋯;have Xe:∀j,j<=9->bb j+9<=2 ^ 121:=λj hj=>by
  obtain rfl |rfl |rfl |rfl |rfl |rfl |rfl |rfl |rfl |rfl:j=0\/j=1\/j=2\/j=3\/j=4\/j=5\/j=6\/j=7\/j=8\/j=9:=by lia
  all_goals decide
 have gb:∀h,h<=9->(gg (par ns i) i h).natAbs<2 ^ 20000:=λh hh=>by
  refine big (a:=1170) (eM (rJ hle i h hh) ?_) ⋯;refine eM (i9 (m:=2 ^ 130) ?_ h) ?_
  .
   rw[show 130=9+121 from rfl,Nat.pow_add]
   exact AX (fR ⋯ ⋯) (Xe i ⋯)
  . rw[<- AF];exact fR ⋯ ⋯
 have kb:(jv ns i).natAbs<=2 ^ 1200:=by
  have e:(par ns (i+1))[i]?=some (jv ns i):=by rw[dZ,dE (A7 (bu ns i)),bu,wT];rfl
  have h9:=Xe (i+1) ⋯;refine eM (Zw i _ e) (eM (i9 (m:=2 ^ 121) ⋯ _) ?_);rw[<- AF];exact fR ⋯ ⋯
 have a1:=pG (n:=n) (k:=k+1) (d0:=.dat (.lst (ns.map .int))) (s2:=.own ((par ns i).map .int)) (s5:=s5) (y:=ns[i]?.getD 0) U (rK (L:=ns.length+1) (n:=i+1) (f:=gg (par ns i) i) ⋯);have a2:=vj (n:=n) (k:=k+1) (ci:=ci) (d0:=.dat (.lst (ns.map .int))) (d1:=.own (FL (ns.length+1) (gg (par ns i) i))) (s2:=.own ((par ns i).map .int)) (s3:=.dat (.int ((i+1:Nat):Int))) (s4:=.dat (.int (ns[i]?.getD 0))) U hp;have a3:=vm (n:=n) (k:=k+1) (d0:=.dat (.lst (ns.map .int))) (d1:=.own (FL (ns.length+1) (gg (par ns i) i))) (s3:=.dat (.int ((i+1:Nat):Int))) (s4:=.dat (.int (ns[i]?.getD 0))) (l:=(par ns i).map .int) (v:=jv ns i) U (by rw[eC,bu];lia)
 have e3:(par ns i).map D.int++[.int (jv ns i)]=(par ns (i+1)).map .int:=by rw[dZ,BY];rfl
 rw[e3]at a3;have q:=λn k=>rM (n:=n) (k:=k) (c:=true) (i:=1) (L:=ns.length+1) (s:=i+1) (f:=gg (par ns i) i) (kd:=jv ns i) (g:=[.dat (.lst (ns.map .int)),.own (FL (ns.length+1) (gg (par ns i) i)),.own ((par ns (i+1)).map .int),.dat (.int ((i+1:Nat):Int)),.dat (.int (ns[i]?.getD 0)),.dat (.int (jv ns i))]) U (y8 _) ⋯ (y8 _) ⋯ kb (λh hh=>gb h ⋯) (λ_=>rfl)
 rw[Qm]at q;have a4:=JL (n:=n) (k:=k) U hw q;rw[U.b];exact (aq a1).trans ((aq a2).trans ((aq a3).trans ((aq a4).trans rfl)))
end
open bF
noncomputable def lI(mi si:Nat):Fx:=⟨1,1,[(.expr (.call mi [⇑0])),(.ret (.call si [⇑0]))]⟩
section
variable{k n w wi ni ci mi pi si:Nat}{rn:Nat->Rn}{fns:List Fx}(U:eY fns rn)
include U
theorem JM{ks:List D}{s1 s2 s3 s4 s5:Slot}{g':G}(hl:bD (.tp [3,4]) ((rn (n+47)).b [] k (mG ci pi)) (fL ks) [.dat (.lst ks),s1,s2,s3,s4,s5]=some (.nx,g')) :
  aC (rn (n+47)) [] k (tY ci pi) [.dat (.lst ks),s1,s2,s3,s4,s5]=some (.nx,g'):=by
 unfold tY;simp! [U,Tg.cY,eW,Af];exact hl
theorem Cp(hw:fns[pi]?=some cQ){ns: ~~~0}(hl:ns.length<=9)(hx:∀x∈ns,x.natAbs<=10 ^ 10)(hp:∀i,i<ns.length->0<=jv ns i)(s3 s4 s5:Slot) :
  ∃t3 t4 t5,aC (rn (n+47)) [] (k+1) (tY ci pi) [.dat (.lst (ns.map .int)),.own (FL (ns.length+1) (gg (par ns 0) 0)),.own ((par ns 0).map .int),s3,s4,s5]=some (.nx,[.dat (.lst (ns.map .int)),.own (FL (ns.length+1) (gg (par ns ns.length) ns.length)),.own ((par ns ns.length).map .int),t3,t4,t5]):=by
 obtain⟨⟨t3,t4,t5⟩,q⟩:=lG (T:=.tp [3,4]) (N:=ns.length) (b:=(rn (n+47)).b [] (k+1) (mG ci pi)) (λ(i:Nat)=>D.tup [.int ((1+i:Nat):Int),.int (ns[i]?.getD 0)]) (λi (x:Slot×Slot×Slot)=>[.dat (.lst (ns.map .int)),.own (FL (ns.length+1) (gg (par ns i) i)),.own ((par ns i).map .int),x.1,x.2.1,x.2.2]) (λi x hi=>by
  rw[B0 1 i];exact⟨_,(.dat (.int ((i+1:Nat):Int)),.dat (.int (ns[i]?.getD 0)),.dat (.int (jv ns i))),rfl,vn (n:=n) (k:=k) (ci:=ci) (s5:=x.2.2) U hw hl hi hx (hp i hi)⟩) (s3,s4,s5)
 refine⟨t3,t4,t5,JM U ?_⟩;rw[ju];exact q
theorem vo{ks z:List D}{NI:Int}{s1 s2 s3 s4 s5:Slot}(h1:(ks.length:Int)=NI)(h2:fB .Mult (.lst [.int 0]) (.int NI)=some (.new z))(h3:fB .Add (.lst [.int 1]) (.lst z)=some (.new (.int 1::z))) :
  aC (rn (n+47)) [] k mF [.dat (.lst ks),s1,s2,s3,s4,s5]=some (.nx,[.dat (.lst ks),.own (.int 1::z),s2,s3,s4,s5]):=by
 unfold mF;simp! [U,h1,h2,h3,aF 1 ⋯]
theorem vp{d0 s1 s2 s3 s4 s5:Slot}:aC (rn (n+47)) [] k (.set 2 (.lst [])) [d0,s1,s2,s3,s4,s5]=some (.nx,[d0,s1,.own [],s3,s4,s5]):=by simp! [U,U.e]
theorem JN{d0 s1 s3 s4 s5:Slot}{l:List D}:bW (rn (n+47)) [] k [(.ret ⇑2)] [d0,s1,.own l,s3,s4,s5]=some (.rt (.var 2),[d0,s1,.own l,s3,s4,s5]):=by simp! [U,U.e]
theorem Qn(hw:fns[pi]?=some cQ){ns: ~~~0}(hl:ns.length<=9)(hx:∀x∈ns,x.natAbs<=10 ^ 10)(hp:∀i,i<ns.length->0<=jv ns i):bH (rn (n+48)) (k+1) (jJ ci pi) [.lst (ns.map .int)]=some (.new ((par ns ns.length).map .int)):=by
 have e0:=vo (n:=n) (k:=k+1) (ks:=ns.map .int) (NI:=ns.length) (s1:=.no) (s2:=.no) (s3:=.no) (s4:=.no) (s5:=.no) U (by rw[eC]) (fO _ _ rfl ⋯) (fW [.int 1] _ (by rw[cA];show 1+_<=1000;lia))
 rw[pD (par ns 0)]at e0;have e1:=vp (n:=n) (k:=k+1) (d0:=.dat (.lst (ns.map .int))) (s1:=.own (FL (ns.length+1) (gg (par ns 0) 0))) (s2:=.no) (s3:=.no) (s4:=.no) (s5:=.no) U;obtain⟨t3,t4,t5,e2⟩:=Cp (n:=n) (k:=k) (ci:=ci) U hw hl hx hp .no .no .no;have e3:=JN (n:=n) (k:=k+1) (d0:=.dat (.lst (ns.map .int))) (s1:=.own (FL (ns.length+1) (gg (par ns ns.length) ns.length))) (s3:=t3) (s4:=t4) (s5:=t5) (l:=(par ns ns.length).map .int) U;have e5:(rn (n+48)).b [] (k+1) (jJ ci pi).body [.dat (.lst (ns.map .int)),.no,.no,.no,.no,.no]=some (.rt (.var 2),[.dat (.lst (ns.map .int)),.own (FL (ns.length+1) (gg (par ns ns.length) ns.length)),.own ((par ns ns.length).map .int),t3,t4,t5]):=by rw[U.b];exact (aq e0).trans ((aq e1).trans ((aq e2).trans e3))
 unfold bH;rw[show bN (jJ ci pi).n (xB [D.lst (ns.map .int)])=[.dat (.lst (ns.map .int)),.no,.no,.no,.no,.no]from rfl,e5]
 rfl
variable(hW:fns[w]?=some bV)(hI:fns[wi]?=some (aX w))(hN:fns[ni]?=some (cN wi))(hM:fns[mi]?=some (bz ni ci))
include hW hI hN hM
theorem Qo(hw:fns[pi]?=some cQ)(hs:fns[si]?=some (jJ ci pi)){ns: ~~~0}(h:isNm (.lst (ns.map .int))=true)(hp:∀i,i<ns.length->0<=jv ns i):bH (rn (n+60)) (k+6) (lI mi si) [.lst (ns.map .int)]=some (.new ((par ns ns.length).map .int)):=by
 obtain⟨hl,hx⟩:=fX h;have q1:=λn k=>lH (ci:=ci) U hW hI hN (n:=n) (k:=k) (ns.map .int) h
 have q2:=λn k=>Qn (ci:=ci) (n:=n) (k:=k) U hw hl.2 (λx hx'=>by have:=hx x hx';lia) hp
 generalize ns.map D.int=ds at q1 q2 ⊢
 generalize (par ns ns.length).map D.int=rs at q2 ⊢
 unfold bH lI;simp! [U,hM,aZ (fx:=bz ni ci) rfl,q1,hs,aZ (fx:=jJ ci pi) rfl,q2]
end
open bF
def Vz(gi:Nat):Sm:=.expr (.append 1 (.bin .Sub (.ix ⇑0 (.bin .Sub ⇑2 ↥1)) (.ix (.call gi [(.bin .Add ⇑1 (.lst [↥0]))]) (.bin .Sub ⇑2 ↥1))))
def Zx(gi:Nat):Sm:=.loop (.nm 2) (.iN ↥1 (.bin .Add (.blt .len [⇑0]) ↥1)) [Vz gi]
def VB(gi:Nat):Fx:=⟨1,3,[(.set 1 (.lst [])),Zx gi,(.ret ⇑1)]⟩
theorem pH{m:Nat}(h:m<=1000):m<lim:=Nat.lt_of_le_of_lt h ⋯
theorem Xe{j:Nat}(hj:j<=9):bb j+9<=2 ^ 121:=by
 obtain rfl |rfl |rfl |rfl |rfl |rfl |rfl |rfl |rfl |rfl:j=0\/j=1\/j=2\/j=3\/j=4\/j=5\/j=6\/j=7\/j=8\/j=9:=by lia
 all_goals decide
section
variable{k n li gi:Nat}{rn:Nat->Rn}{fns:List Fx}(U:eY fns rn)
include U
theorem Cq(hL:fns[li]?=some cV){ks: ~~~0}{b:Nat}(hl:ks.length<=9)(hb:b+9<=2 ^ 121)(hk:∀(i:Nat) (x:Int),ks[i]?=some x->x.natAbs<=b ^ (i+1)) :
  bH (rn (n+49)) (k+1) (iW li) [.lst (ks.map .int)]=some (.new ((cO ks).map .int)):=by
 obtain⟨t1,t2,t3,t4,t5,t6,t7,h⟩:=Ca (n:=n) (k:=k) (c:=false) U hL hl hb hk;have h':(rn (n+49)).b [] (k+1) (iW li).body [.dat (.lst (ks.map .int)),.no,.no,.no,.no,.no,.no,.no]=some (.rt (.new ((cO ks).map .int)),[.dat (.lst (ks.map .int)),t1,t2,t3,t4,t5,t6,t7]):=h;unfold bH;rw[show bN (iW li).n (xB [D.lst (ks.map .int)])=[.dat (.lst (ks.map .int)),.no,.no,.no,.no,.no,.no,.no]from rfl,h']
 rfl
theorem Qp(hG:fns[gi]?=some (iW li)){ks l r:List D}{sI x y:Int}(h1:L2.fj ks (sI - 1)=some (.int x))(h2:fB .Add (.lst l) (.lst [.int 0])=some (.new (l++[.int 0])))(q:∀n k,bH (rn (n+49)) (k+1) (iW li) [.lst (l++[.int 0])]=some (.new r))(h3:L2.fj r (sI - 1)=some (.int y))(h4:l.length<lim) :
  aC (rn (n+60)) [] (k+2) (Vz gi) [.dat (.lst ks),.own l,‹sI›]=some (.nx,[.dat (.lst ks),.own (l++[.int (x - y)]),‹sI›]):=by
 unfold Vz;simp! [U,h1,h2,hG,aZ (fx:=iW li) rfl,q,h3,h4,aF 1 ⋯]
theorem Qq{ks:List D}{NI:Int}{N:Nat}{s1 s2:Slot}{g':G}(h1:(ks.length:Int)=NI)(h3:pW (NI+1)=true)(h4:NI.toNat=N)
  (hl:bD (.nm 2) ((rn (n+61)).b [] k [Vz gi]) (fJ 1 N) [.dat (.lst ks),s1,s2]=some (.nx,g')):aC (rn (n+61)) [] k (Zx gi) [.dat (.lst ks),s1,s2]=some (.nx,g'):=by
 have h6:pW 1=true:=by decide
 unfold Zx;simp! [U,Tg.cY,eW,h1,h3,h4,h6];exact hl
theorem VD(hL:fns[li]?=some cV)(hG:fns[gi]?=some (iW li)){ns: ~~~0}(hl:ns.length<=9)(hx:∀x∈ns,x.natAbs<=10 ^ 10):bH (rn (n+62)) (k+2) (VB gi) [.lst (ns.map .int)]=some (.new ((par ns ns.length).map .int)):=by
 obtain⟨s2,q⟩:=cK (T:=.nm 2) (lo:=1) (N:=ns.length) (b:=(rn (n+61)).b [] (k+2) [Vz gi]) (λi (x:Slot)=>[.dat (.lst (ns.map .int)),.own ((par ns i).map .int),x]) (λi x hi=>by
  have e1:(1:Int)+(i:Int)=((i+1:Nat):Int):=by lia
  have e2:((i+1:Nat):Int) - 1=(i:Int):=by lia
  rw[e1];refine⟨_,.dat (.int ((i+1:Nat):Int)),rfl,?_⟩;have cW:=bu ns i;have hb:=pC hx i ⋯;have i1:L2.fj (ns.map D.int) (((i+1:Nat):Int) - 1)=some (.int (ns[i]?.getD 0)):=by
   rw[e2,iS (ns.map D.int) i (by rw[eC];exact hi),Bn,kA hi]
   rfl
  have m0:(par ns i).map D.int++[.int 0]=(par ns i++[0]).map .int:=by rw[BY];rfl
  have q:=λn k=>Cq (n:=n) (k:=k) (ks:=par ns i++[0]) (b:=bb i) U hL (by rw[i4,cW];show i+1<=9;lia) (Xe ⋯) (λj x h=>by
   rcases pV j (par ns i).length with hj |hj
   . rw[d5 hj]at h;exact hb j x h
   .
    rw[dE hj]at h;cases e:j - (par ns i).length with
    |zero=>rw[e]at h;symm;exact Nat.zero_le _
    |succ y=>rw[e]at h;symm)
  have q':=q;rw[<- m0]at q';have Ky:(cO (par ns i++[0])).length=i+1:=by simp[cO,cW]
  have i3:L2.fj ((cO (par ns i++[0])).map D.int) (((i+1:Nat):Int) - 1)=some (.int (gg (par ns i) i (i+1))):=by
   rw[e2,iS _ i (by rw[eC,Ky];lia),Bn]
   have:=By (par ns i);rw[cW]at this;obtain⟨_,e⟩:=a9.mp this;rw[e]
  have a:=Qp (n:=n) (k:=k) U hG i1 (fW _ _ (by rw[eC,cW];show i+1<=1000;lia)) q' i3 (by rw[eC,cW];exact pH ⋯)
  have e3:(par ns i).map D.int++[.int (ns[i]?.getD 0 - gg (par ns i) i (i+1))]=(par ns (i+1)).map .int:=by rw[dZ,BY];rfl
  rw[e3]at a;rw[U.b];exact (aq a).trans rfl) .no
 have a1:=Qq (n:=n) (k:=k+2) (gi:=gi) (NI:=ns.length) U (by rw[eC]) (bX _ ⋯) ⋯ q
 have e0:aC (rn (n+61)) [] (k+2) (.set 1 (.lst [])) [.dat (.lst (ns.map .int)),.no,.no]=some (.nx,[.dat (.lst (ns.map .int)),.own [],.no]):=by simp! [U,U.e]
 have e3:bW (rn (n+61)) [] (k+2) [(.ret ⇑1)] [.dat (.lst (ns.map .int)),.own ((par ns ns.length).map .int),s2]=some (.rt (.var 1),[.dat (.lst (ns.map .int)),.own ((par ns ns.length).map .int),s2]):=by simp! [U,U.e]
 have e5:(rn (n+62)).b [] (k+2) (VB gi).body [.dat (.lst (ns.map .int)),.no,.no]=some (.rt (.var 1),[.dat (.lst (ns.map .int)),.own ((par ns ns.length).map .int),s2]):=by rw[U.b];exact (aq e0).trans ((aq a1).trans e3)
 unfold bH;rw[show bN (VB gi).n (xB [D.lst (ns.map .int)])=[.dat (.lst (ns.map .int)),.no,.no]from rfl,e5]
 rfl
end
open bF
def VF(ti:Nat):Sm:=.set 3 (.lst [↥0,(.call ti [⇑0,↥4]),↥1,(.call ti [⇑0,(.bin .Pow ↥10 ↥10)]),(.call ti [⇑0,↥30])])
def VG(ti:Nat):Sm:=.expr (.append 1 (.ix ⇑3 (.call ti [⇑0,↥5])))
def Zy(ti:Nat):Sm:=.loop (.nm 2) (.dB (.bin .Add ↥1 (.call ti [⇑0,↥9]))) [VF ti,VG ti]
def Rx(ti:Nat):Fx:=⟨1,4,[(.set 1 (.lst [])),Zy ti,(.ret ⇑1)]⟩
section
variable{k n ti:Nat}{rn:Nat->Rn}{fns:List Fx}{fl:Bool}(U:eY fns rn)(hT:fns[ti]?=some dR)
include U hT
theorem Qs{s:Int}{d1 d2 d3:Slot}:∃a b c s',(0<=a/\a<4)/\(0<=b/\b<10000000000)/\(0<=c/\c<30)/\aC (rn (n+40)) [0] (k+2) (VF ti) [St s fl,d1,d2,d3]=some (.nx,[St s' fl,d1,d2,.own [.int 0,.int a,.int 1,.int b,.int c]]):=by
 obtain⟨a,s1,a1,a2,q1⟩:=dU (n:=n+18) (k:=k+1) (i:=0) (s:=s) (fl:=fl) (m:=4) (g:=[St s fl,d1,d2,d3]) U rfl ⋯;obtain⟨b,s2,b1,b2,q2⟩:=dU (n:=n+18) (k:=k+1) (i:=0) (s:=s1) (fl:=fl) (m:=10000000000) (g:=[St s1 fl,d1,d2,d3]) U rfl ⋯;obtain⟨c,s3,c1,c2,q3⟩:=dU (n:=n+18) (k:=k+1) (i:=0) (s:=s2) (fl:=fl) (m:=30) (g:=[St s2 fl,d1,d2,d3]) U rfl ⋯;refine⟨a,b,c,s3,⟨a1,a2⟩,⟨b1,b2⟩,⟨c1,c2⟩,?_⟩;rw[show n+18+20=n+38 from rfl,List.set_cons_zero]at q1 q2 q3
 have p:fB .Pow (.int 10) (.int 10)=some ‹10000000000›:=rfl;have l5:(5:Nat)<=lim:=by decide
 unfold VF;simp! [U,hT,q1,q2,q3,p,l5]
end
open bF
section
variable{k n ti:Nat}{rn:Nat->Rn}{fns:List Fx}{fl:Bool}(U:eY fns rn)(hT:fns[ti]?=some dR)
include U hT
theorem Qt{s a b c:Int}{l:List D}{d2:Slot}(ha:0<=a/\a<4)(hb:0<=b/\b<10000000000)(hc:0<=c/\c<30)(hl:l.length<lim):∃x s',(0<=x/\x<10000000000)/\aC (rn (n+40)) [0] (k+2) (VG ti) [St s fl,.own l,d2,.own [.int 0,.int a,.int 1,.int b,.int c]]=some (.nx,[St s' fl,.own (l++[.int x]),d2,.own [.int 0,.int a,.int 1,.int b,.int c]]):=by
 obtain⟨r,s1,r1,r2,q1⟩:=dU (n:=n+17) (k:=k+1) (i:=0) (s:=s) (fl:=fl) (m:=5) (g:=[St s fl,.own l,d2,.own [.int 0,.int a,.int 1,.int b,.int c]]) U rfl ⋯;rw[show n+17+20=n+37 from rfl,List.set_cons_zero]at q1
 obtain⟨y,hy,e⟩:=vd (l:=[D.int 0,.int a,.int 1,.int b,.int c]) (r:=r) ⟨r1,by show r<((5:Nat):Int);lia⟩
 obtain⟨x,rfl,hx⟩:∃x,y=.int x/\0<=x/\x<10000000000:=by
  simp only[b0,i6,Ap]at hy;rcases hy with rfl |rfl |rfl |rfl |rfl
  . exact⟨_,rfl,by decide⟩
  . exact⟨_,rfl,by lia⟩
  . exact⟨_,rfl,by decide⟩
  . exact⟨_,rfl,by lia⟩
  . exact⟨_,rfl,by lia⟩
 refine⟨x,s1,hx,?_⟩;generalize [D.int 0,.int a,.int 1,.int b,.int c]=m at q1 e ⊢
 unfold VG;simp! [U,hT,q1,e,hl]
theorem Qu{s:Int}{d2 d3:Slot}:∃(ns: ~~~0) (s':Int) (t2 t3:Slot),(1<=ns.length/\ns.length<=9)/\(∀x∈ns,0<=x/\x<10000000000)/\aC (rn (n+41)) [0] (k+2) (Zy ti) [St s fl,.own [],d2,d3]=some (.nx,[St s' fl,.own (ns.map .int),t2,t3]):=by
 obtain⟨r,s0,r1,r2,q0⟩:=dU (n:=n+19) (k:=k+1) (i:=0) (s:=s) (fl:=fl) (m:=9) (g:=[St s fl,.own [],d2,d3]) U rfl ⋯;rw[show n+19+20=n+39 from rfl,List.set_cons_zero]at q0
 obtain⟨N,rfl⟩:∃N:Nat,r=N:=⟨r.toNat,by lia⟩
 obtain⟨g',⟨s',ns,t2,t3,rfl,h1,h2⟩,hl⟩:=jr (T:=.nm 2) (b:=(rn (n+41)).b [0] (k+2) [VF ti,VG ti]) (λ(j:Nat)=>D.int ((0:Int)+(j:Int)))
  (λl g=>∃(s:Int) (ns: ~~~0) (t2 t3:Slot),g=[St s fl,.own (ns.map .int),t2,t3]/\ns.length+l.length=N+1/\∀x∈ns,0<=x/\x<10000000000)
  (λj l g h=>by
   obtain⟨s,ns,t2,t3,rfl,h1,h2⟩:=h;rw[tS]at h1;obtain⟨a,b,c,s1,ha,hb,hc,e1⟩:=Qs (n:=n) (k:=k) (fl:=fl) (s:=s) (d1:=.own (ns.map .int)) (d2:=.dat (.int (0+(j:Int)))) (d3:=t3) U hT;obtain⟨x,s2,hx,e2⟩:=Qt (n:=n) (k:=k) (fl:=fl) (s:=s1) (l:=ns.map .int) (d2:=.dat (.int (0+(j:Int)))) U hT ha hb hc (by rw[eC];exact pH ⋯)
   refine⟨_,_,rfl,by rw[U.b];exact (aq e1).trans ((aq e2).trans rfl),s2,ns++[x],_,_,by rw[BY];rfl,by rw[i4,y6];lia,λy hy=>?_⟩
   rcases yB.mp hy with hy |hy
   . exact h2 y hy
   .
    cases eP.mp hy;exact hx)
  (List.range (N+1)) [St s0 fl,.own [],d2,d3] ⟨s0,[],d2,d3,rfl,by simp,λx hx=>nomatch hx⟩
 refine⟨ns,s',t2,t3,?_,h2,?_⟩
 . simp at h1;lia
 .
  have hi:pW (1+(N:Int))=true:=bX _ ⋯;have hn:(1+(N:Int)).toNat=N+1:=by lia
  have hl':bD (.nm 2) ((rn (n+41)).b [0] (k+2) [VF ti,VG ti]) (fJ 0 (N+1)) [St s0 fl,.own [],d2,d3]=some (.nx,[St s' fl,.own (ns.map .int),t2,t3]):=hl;generalize (N:Int)=NI at q0 hi hn;unfold Zy;simp! [U,Tg.cY,Tg.ix,eW,hT,q0,hi,hn,hl']
theorem VH{i:Nat}{s:Int}{g:G}(hi:g[i]?=some (St s fl)):∃(ns: ~~~0) (s':Int),(1<=ns.length/\ns.length<=9)/\(∀x∈ns,0<=x/\x<10000000000)/\bG (rn (n+42)) (Rx ti) (k+2) [.var i] g=some (.new (ns.map .int),g.set i (St s' fl)):=by
 obtain⟨ns,s',t2,t3,h1,h2,e1⟩:=Qu (n:=n) (k:=k) (fl:=fl) (s:=s) (d2:=.no) (d3:=.no) U hT;refine⟨ns,s',h1,h2,?_⟩;have e0:aC (rn (n+41)) [0] (k+2) (.set 1 (.lst [])) [St s fl,.no,.no,.no]=some (.nx,[St s fl,.own [],.no,.no]):=by simp! [U,U.e]
 have e3:bW (rn (n+41)) [0] (k+2) [(.ret ⇑1)] [St s' fl,.own (ns.map .int),t2,t3]=some (.rt (.var 1),[St s' fl,.own (ns.map .int),t2,t3]):=by simp! [U,U.e]
 have e5:(rn (n+42)).b [0] (k+2) (Rx ti).body [St s fl,.no,.no,.no]=some (.rt (.var 1),[St s' fl,.own (ns.map .int),t2,t3]):=by rw[U.b];exact (aq e0).trans ((aq e1).trans e3)
 have hp:bN (Rx ti).n [St s fl]=[St s fl,.no,.no,.no]:=rfl;unfold bG;simp only[vars,bM,hi,List.map_cons,List.map_nil];rw[hp,e5];rfl
end
open bF
section
variable{k n w wi ni ci mi pi si:Nat}{rn:Nat->Rn}{fns:List Fx}(U:eY fns rn)(hW:fns[w]?=some bV)
include U hW
theorem VJ(hI:fns[wi]?=some (aX w))(d:D)(h:isNm d=false)(hd:∀l,d≠.fix l):bH (rn (n+40)) (k+3) (cN wi) [d]=some (.dat (.bl false)):=by
 have no:=λe=>Qk (n:=n) (k:=k) (wi:=wi) U hW d e
 cases d with
 |lst l=>rw[tW U hW hI l,h]
 |fix l=>exact absurd rfl (hd l)
 |_=>exact no rfl
theorem VL(hI:fns[wi]?=some (aX w))(d:D)(hd:∀l,d≠.fix l):lR (rn (n+40)) (k+3) (cN wi) [d]=none:=by
 have no (e:dD (lQ d) "list"=false):lR (rn (n+40)) (k+3) (cN wi) [d]=none:=by unfold lR cN;simp! [U,e]
 cases d with
 |lst l=>
  have hT:dD (lQ (D.lst l)) "list"=true:=rfl;by_cases c1:(1:Int)<=l.length
  .
   by_cases c2:(l.length:Int)<=9
   .
    have o:=λn k=>vh U hW hI (n:=n) (k:=k) l ⋯
    unfold lR cN;simp! [U,hT,c1,c2,o]
   . unfold lR cN;simp! [U,hT,c1,c2]
  . unfold lR cN;simp! [U,hT,c1]
 |fix l=>exact absurd rfl (hd l)
 |_=>exact no rfl
variable(hI:fns[wi]?=some (aX w))(hN:fns[ni]?=some (cN wi))
include hI hN
theorem vq(d:D)(h:isNm d=false)(hd:∀l,d≠.fix l):lR (rn (n+50)) (k+4) (bz ni ci) [d]=some ci:=by
 have q:=λn k=>VJ U hW hI (n:=n) (k:=k) d h hd
 have q2:=λn k=>VL U hW hI (n:=n) (k:=k) d hd
 unfold lR bz;simp! [U,hN,aZ (fx:=cN wi) rfl,cP (fx:=cN wi) rfl,q,q2]
theorem Qv(l:List D)(h:isNm (.lst l)=true):lR (rn (n+50)) (k+4) (bz ni ci) [.lst l]=none:=by
 have q:=λn k=>tW U hW hI (n:=n) (k:=k) l
 have q2:=λn k=>VL U hW hI (n:=n) (k:=k) (.lst l) (λ_ e=>nomatch e)
 rw[h]at q;unfold lR bz;simp! [U,hN,aZ (fx:=cN wi) rfl,cP (fx:=cN wi) rfl,q,q2]
variable(hM:fns[mi]?=some (bz ni ci))
include hM
theorem VM(d:D)(h:isNm d=false)(hd:∀l,d≠.fix l):lR (rn (n+60)) (k+6) (rO mi pi) [d]=some ci:=by
 have q:=λn k=>vq (ci:=ci) U hW hI hN (n:=n) (k:=k) d h hd
 unfold lR rO;simp! [U,hM,cP (fx:=bz ni ci) rfl,q]
theorem VN(d:D)(h:isNm d=false)(hd:∀l,d≠.fix l):lR (rn (n+60)) (k+6) (lI mi si) [d]=some ci:=by
 have q:=λn k=>vq (ci:=ci) U hW hI hN (n:=n) (k:=k) d h hd
 unfold lR lI;simp! [U,hM,cP (fx:=bz ni ci) rfl,q]
end
noncomputable def W(m:Nat)(Zz: ~~~5):D:=.tup [.int m,.tup (Zz.map ∅)]
theorem dm{rn:Rn}{bor:List Nat}{k:Nat}:∀(l:List Sm) (g:G),(∀st∈l,∀g,bx rn bor k st g=none)->bT rn bor k l g=none
 | [],_,_=>rfl
 |st::l,g,h=>by
  unfold bT;rw[h st dA];dsimp only;split
  . exact dm l _ λs hs=>h s (a8 _ hs)
  . rfl
def tm(t: ~~~0)(x: ~~~0): ~~~0:=if gt t (gt x 0)<gt t (gt x 1)then [gt t (gt x 0),gt t (gt x 1)]else [gt t (gt x 1),gt t (gt x 0)]
open bF
theorem g7{rn:Rn}{bor:List Nat}{k:Nat}:∀(l:List Ex) (g:G),(∀a∈l,∀g,rn.x bor k a g=none)->xArgs rn bor k l g=none:=by
 intro l
 induction l with
 |nil=>intro g h;rfl
 |cons a l ih=>
  intro g h;unfold xArgs;rw[h a dA];dsimp only;split
  . exact ih _ λb hb=>h b (a8 _ hb)
  . rfl
theorem lJ{T:Tg}{b:G->Option (Fl×G)}{x:G->Option (Nat×G)}(h:∀g,x g=none):∀(l:List D) (g:G),dO T b x l g=none:=by
 intro l
 induction l with
 |nil=>intro g;rfl
 |cons d l ih=>
  intro g;unfold dO;split
  . rfl
  .
   rw[h];dsimp only;split
   . exact ih _
   . exact ih _
   . rfl
theorem Cr{O:Type}{T:Tg}{b:G->Option (Fl×G)}{x:G->Option (Nat×G)}{ci:Nat}(fh:Nat->D)(fr:Nat->O->G)(N i:Nat)(hi:i<N)(step:∀j s,j<i->∃g1 s',T.set (fh j) (fr j s)=some g1/\x g1=none/\b g1=some (.nx,fr (j+1) s'))(fin:∀s,∃g1 g2,T.set (fh i) (fr i s)=some g1/\x g1=some (ci,g2))(s:O):∃g',dO T b x ((List.range N).map fh) (fr 0 s)=some (ci,g'):=by
 have key:∀c j s r,j+c=i->∃g',dO T b x ((List.range' j (c+1+r)).map fh) (fr j s)=some (ci,g'):=by
  intro c
  induction c with
  |zero=>
   intro j s r h;obtain rfl:j=i:=h;obtain⟨g1,g2,e1,e2⟩:=fin s;refine⟨g2,?_⟩;rw[show 0+1+r=r+1 by lia,Bi,List.map_cons]
   unfold dO;rw[e1];dsimp only;rw[e2]
  |succ c ih=>
   intro j s r h;obtain⟨g1,s1,e1,e2,e3⟩:=step j s ⋯;obtain⟨g',e4⟩:=ih (j+1) s1 r ⋯;refine⟨g',?_⟩;rw[show c+1+1+r=(c+1+r)+1 by lia,Bi,List.map_cons]
   unfold dO;rw[e1];dsimp only;rw[e2];dsimp only;rw[e3];exact e4
 obtain⟨g',h⟩:=key i 0 s (N - i - 1) ⋯;rw[show i+1+(N - i - 1)=N by lia,<- BC]at h
 exact⟨g',h⟩
section
variable{k n ci pi si:Nat}{bor:List Nat}{rn:Nat->Rn}{fns:List Fx}(U:eY fns rn)
include U
theorem lK{op:PySem.Operator}{a b:Ex}(ha:∀g,(rn n).x bor k a g=none)(hb:∀g,(rn n).x bor k b g=none)(g:G):(rn (n+1)).x bor k (.bin op a b) g=none:=by
 rw[U.x];refine g7 _ _ λe he=>?_
 simp only[b0,i6,Ap]at he;rcases he with rfl |rfl
 . exact ha
 . exact hb
theorem fc(i:Nat)(g:G):(rn (n+1)).x bor k (.slot i) g=none:=by rw[U.x];rfl
theorem VP(d:D)(g:G):(rn (n+1)).x bor k (.val d) g=none:=by rw[U.x];rfl
theorem VR(g:G):bx (rn (n+42)) bor k pF g=none:=by
 have h:∀g,(rn (n+42)).xb bor k [xK] g=none:=λg=>by
  rw[U.xb];exact dm _ _ λst hs g=>by cases eP.mp hs;rfl
 unfold pF;show (if _ then none else match _ with |some (aj,g1)=>dO _ _ _ aj g1 |none=>_)=none
 split
 . rfl
 .
  split
  . exact lJ h _ _
  . simp! [U,U.e]
theorem ZC(g:G):(rn (n+44)).xb bor k cQ.body g=none:=by
 rw[U.xb];refine dm _ _ λst hs g=>?_
 have hb:∀g,(rn (n+43)).xb bor k [xM,pF] g=none:=λg=>by
  rw[U.xb];refine dm _ _ λst hs g=>?_
  rcases b0.mp hs with rfl |hs
  . exact lK U (lK U (fc U 4) (lK U (lK U (fc U 2) (fc U 5)) (VP U _))) (fc U 5) g
  . cases eP.mp hs;exact VR U g
 simp only[cQ,b0,i6,Ap]at hs;rcases hs with rfl |rfl |rfl |rfl
 . simp! [U,U.e];split <;> rfl
 . simp! [U,U.e]
 . unfold Cd;simp! [U,lJ hb];intro _;split <;> rfl
 . simp! [U,U.e]
end
open bF
theorem bY{rn:Rn}{bor:List Nat}{k:Nat}{st:Sm}{rest:List Sm}{g g1:G}(h1:bx rn bor k st g=none)(h2:aC rn bor k st g=some (.nx,g1)):bT rn bor k (st::rest) g=bT rn bor k rest g1:=by
 conv=>lhs;unfold bT
 rw[h1];dsimp only;rw[h2]
section
variable{k n ci pi si:Nat}{rn:Nat->Rn}{fns:List Fx}(U:eY fns rn)
include U
theorem KH{g:G}:bx (rn (n+46)) [] k JH g=none:=by
 refine lK U (fc U 4) (λg=>?_) g
 rw[U.x];exact fc U 1 g
theorem V0{d0 d1 s2 s3 s4:Slot}{v:Int}(h:0<=v):bx (rn (n+46)) [] k (tX ci) [d0,d1,s2,s3,s4,‹v›]=none:=by
 have h' : ¬ v<0:=by lia
 unfold tX;simp! [U,h']
theorem V1{d0 d1 s2 s3 s4:Slot}{v:Int}(h:v<0):bx (rn (n+46)) [] k (tX ci) [d0,d1,s2,s3,s4,‹v›]=some (ci,[d0,d1,s2,s3,s4,‹v›]):=by unfold tX;simp! [U,h]
theorem V2{g:G}:bx (rn (n+46)) [] k JK g=none:=by
 show (rn (n+46)).x [] k (.append 2 ⇑5) g=none;rw[U.x]
 first |exact fc U 5 g |rfl |exact g7 _ _ λa ha g=>by cases eP.mp ha;exact fc U 5 g
theorem V3(hw:fns[pi]?=some cQ){d0 s2 s4:Slot}{l:List D}{sI kd:Int}:bx (rn (n+46)) [] (k+1) (Cj pi) [d0,.own l,s2,‹sI›,s4,‹kd›]=none:=by
 have q:∀n k rs g,kU (rn (n+44)) cQ k rs g=none:=λn k rs g=>by
  unfold kU;split
  .
   split
   . rfl
   . rw[ZC U]
  . rfl
 unfold Cj;simp! [U,hw,q]
end
open bF
section
variable{k n ci pi si:Nat}{rn:Nat->Rn}{fns:List Fx}(U:eY fns rn)
include U
theorem Qw(hw:fns[pi]?=some cQ){ns: ~~~0}{i:Nat}{s5:Slot}(hl:ns.length<=9)(hi:i<ns.length)(hp:0<=jv ns i) :
  (rn (n+47)).xb [] (k+1) (mG ci pi) [.dat (.lst (ns.map .int)),.own (FL (ns.length+1) (gg (par ns i) i)),.own ((par ns i).map .int),.dat (.int ((i+1:Nat):Int)),.dat (.int (ns[i]?.getD 0)),s5]=none:=by
 have a1:=pG (n:=n) (k:=k+1) (d0:=.dat (.lst (ns.map .int))) (s2:=.own ((par ns i).map .int)) (s5:=s5) (y:=ns[i]?.getD 0) U (rK (L:=ns.length+1) (n:=i+1) (f:=gg (par ns i) i) ⋯);have a2:=vj (n:=n) (k:=k+1) (ci:=ci) (d0:=.dat (.lst (ns.map .int))) (d1:=.own (FL (ns.length+1) (gg (par ns i) i))) (s2:=.own ((par ns i).map .int)) (s3:=.dat (.int ((i+1:Nat):Int))) (s4:=.dat (.int (ns[i]?.getD 0))) U hp;have a3:=vm (n:=n) (k:=k+1) (d0:=.dat (.lst (ns.map .int))) (d1:=.own (FL (ns.length+1) (gg (par ns i) i))) (s3:=.dat (.int ((i+1:Nat):Int))) (s4:=.dat (.int (ns[i]?.getD 0))) (l:=(par ns i).map .int) (v:=jv ns i) U (by rw[eC,bu];lia)
 rw[U.xb];refine (bY (KH U) a1).trans ((bY (V0 U hp) a2).trans ((bY (V2 U) a3).trans ?_));unfold bT;rw[V3 U hw];dsimp only;split <;> rfl
theorem Qx{ns: ~~~0}{i:Nat}{s5:Slot}(hi:i<ns.length)(hp:jv ns i<0) :
  ∃g',(rn (n+47)).xb [] (k+1) (mG ci pi) [.dat (.lst (ns.map .int)),.own (FL (ns.length+1) (gg (par ns i) i)),.own ((par ns i).map .int),.dat (.int ((i+1:Nat):Int)),.dat (.int (ns[i]?.getD 0)),s5]=some (ci,g'):=by
 have a1:=pG (n:=n) (k:=k+1) (d0:=.dat (.lst (ns.map .int))) (s2:=.own ((par ns i).map .int)) (s5:=s5) (y:=ns[i]?.getD 0) U (rK (L:=ns.length+1) (n:=i+1) (f:=gg (par ns i) i) ⋯);have a2:=V1 (n:=n) (k:=k+1) (ci:=ci) (d0:=.dat (.lst (ns.map .int))) (d1:=.own (FL (ns.length+1) (gg (par ns i) i))) (s2:=.own ((par ns i).map .int)) (s3:=.dat (.int ((i+1:Nat):Int))) (s4:=.dat (.int (ns[i]?.getD 0))) U hp;refine⟨[.dat (.lst (ns.map .int)),.own (FL (ns.length+1) (gg (par ns i) i)),.own ((par ns i).map .int),.dat (.int ((i+1:Nat):Int)),.dat (.int (ns[i]?.getD 0)),.dat (.int (jv ns i))],?_⟩;rw[U.xb];refine (bY (KH U) a1).trans ?_;unfold bT;rw[show ns[i]?.getD 0 - gg (par ns i) i (i+1)=jv ns i from rfl,a2]
theorem Cv(d:D)(g:G):(rn (n+2)).x [] k (.lst [.val d]) g=none:=by rw[U.x];rfl
theorem x_len(i:Nat)(g:G):(rn (n+2)).x [] k (.blt .len [.slot i]) g=none:=by rw[U.x];exact g7 _ _ λa ha g=>by cases eP.mp ha;exact fc U i g
theorem Qy{ks:List D}{s1 s2 s3 s4 s5:Slot}{g':G}(hl:dO (.tp [3,4]) ((rn (n+47)).b [] k (mG ci pi)) ((rn (n+47)).xb [] k (mG ci pi)) (fL ks) [.dat (.lst ks),s1,s2,s3,s4,s5]=some (ci,g')) :
  bx (rn (n+47)) [] k (tY ci pi) [.dat (.lst ks),s1,s2,s3,s4,s5]=some (ci,g'):=by
 unfold tY;simp! [U,Tg.cY,eW,Af];exact hl
theorem V4(hw:fns[pi]?=some cQ){ns: ~~~0}{i:Nat}(hl:ns.length<=9)(hx:∀x∈ns,x.natAbs<=10 ^ 10)(hi:i<ns.length)(hp:∀j,j<i->0<=jv ns j)(hr:jv ns i<0):lR (rn (n+48)) (k+1) (jJ ci pi) [.lst (ns.map .int)]=some ci:=by
 obtain⟨g',q⟩:=Cr (T:=.tp [3,4]) (ci:=ci) (b:=(rn (n+47)).b [] (k+1) (mG ci pi)) (x:=(rn (n+47)).xb [] (k+1) (mG ci pi)) (λ(i:Nat)=>D.tup [.int ((1+i:Nat):Int),.int (ns[i]?.getD 0)]) (λi (x:Slot×Slot×Slot)=>[.dat (.lst (ns.map .int)),.own (FL (ns.length+1) (gg (par ns i) i)),.own ((par ns i).map .int),x.1,x.2.1,x.2.2]) ns.length i hi (λj x hj=>by
  rw[B0 1 j];exact⟨_,(.dat (.int ((j+1:Nat):Int)),.dat (.int (ns[j]?.getD 0)),.dat (.int (jv ns j))),rfl,Qw (n:=n) (k:=k) (ci:=ci) (s5:=x.2.2) U hw hl ⋯ (hp j hj),vn (n:=n) (k:=k) (ci:=ci) (s5:=x.2.2) U hw hl ⋯ hx (hp j hj)⟩) (λx=>by
  rw[B0 1 i];obtain⟨g2,e⟩:=Qx (n:=n) (k:=k) (ci:=ci) (pi:=pi) (s5:=x.2.2) U hi hr;exact⟨_,g2,rfl,e⟩) (.no,.no,.no)
 rw[<- ju]at q;have e0:=vo (n:=n) (k:=k+1) (ks:=ns.map .int) (NI:=ns.length) (s1:=.no) (s2:=.no) (s3:=.no) (s4:=.no) (s5:=.no) U (by rw[eC]) (fO _ _ rfl ⋯) (fW [.int 1] _ (by rw[cA];show 1+_<=1000;lia))
 rw[pD (par ns 0)]at e0;have e1:=vp (n:=n) (k:=k+1) (d0:=.dat (.lst (ns.map .int))) (s1:=.own (FL (ns.length+1) (gg (par ns 0) 0))) (s2:=.no) (s3:=.no) (s4:=.no) (s5:=.no) U;have x0:bx (rn (n+47)) [] (k+1) mF [.dat (.lst (ns.map .int)),.no,.no,.no,.no,.no]=none:=lK U (Cv U _) (lK U (Cv U _) (x_len U 0)) _;have x1:bx (rn (n+47)) [] (k+1) (.set 2 (.lst [])) [.dat (.lst (ns.map .int)),.own (FL (ns.length+1) (gg (par ns 0) 0)),.no,.no,.no,.no]=none:=by simp! [U,U.e]
 have x2:bx (rn (n+47)) [] (k+1) (tY ci pi) [.dat (.lst (ns.map .int)),.own (FL (ns.length+1) (gg (par ns 0) 0)),.own [],.no,.no,.no]=some (ci,g'):=Qy (n:=n) (k:=k+1) (pi:=pi) U q;have e5:(rn (n+48)).xb [] (k+1) (jJ ci pi).body [.dat (.lst (ns.map .int)),.no,.no,.no,.no,.no]=some (ci,g'):=by rw[U.xb];refine (bY x0 e0).trans ((bY x1 e1).trans ?_);unfold bT;rw[x2]
 unfold lR;rw[show bN (jJ ci pi).n (xB [D.lst (ns.map .int)])=[.dat (.lst (ns.map .int)),.no,.no,.no,.no,.no]from rfl,e5]
end
open bF
theorem xN{p:Nat->Int}:∀N,(∀i,i<N->0<=p i)\/∃i,i<N/\(∀j,j<i->0<=p j)/\p i<0:=by
 intro N
 induction N with
 |zero=>exact .inl λi h=>absurd h (Nat.not_lt_zero _)
 |succ N ih=>
  rcases ih with h |⟨i,h1,h2,h3⟩
  .
   by_cases c:0<=p N
   .
    refine .inl λi hi=>?_
    rcases pV i N with q |q
    . exact h i q
    .
     obtain rfl:i=N:=by lia
     exact c
   . exact .inr ⟨N,xL _,h,by lia⟩
  . exact .inr ⟨i,by lia,h2,h3⟩
theorem JQ(ns: ~~~0){i N:Nat}(h:i<N):(par ns N)[i]?=some (jv ns i):=by
 induction N with
 |zero=>exact absurd h (Nat.not_lt_zero _)
 |succ N ih=>
  rw[dZ];rcases pV i N with q |q
  .
   rw[d5 (by rw[bu];exact q)]
   exact ih q
  .
   obtain rfl:i=N:=by lia
   rw[dE (A7 (bu ns i)),bu,wT];rfl
section
variable{k n w wi ni ci mi pi si:Nat}{rn:Nat->Rn}{fns:List Fx}(U:eY fns rn)
include U
variable(hW:fns[w]?=some bV)(hI:fns[wi]?=some (aX w))(hN:fns[ni]?=some (cN wi))(hM:fns[mi]?=some (bz ni ci))
include hW hI hN hM
theorem V5(hw:fns[pi]?=some cQ)(hs:fns[si]?=some (jJ ci pi)){ns: ~~~0}(h:isNm (.lst (ns.map .int))=true){i:Nat}(hi:i<ns.length)(hp:∀j,j<i->0<=jv ns j)(hr:jv ns i<0):lR (rn (n+60)) (k+6) (lI mi si) [.lst (ns.map .int)]=some ci:=by
 obtain⟨hl,hx⟩:=fX h;have q1:=λn k=>lH (ci:=ci) U hW hI hN (n:=n) (k:=k) (ns.map .int) h
 have q3:=λn k=>Qv (ci:=ci) U hW hI hN (n:=n) (k:=k) (ns.map .int) h
 have q2:=λn k=>V4 (ci:=ci) (n:=n) (k:=k) U hw hl.2 (λx hx'=>by have:=hx x hx';lia) hi hp hr
 generalize ns.map D.int=ds at q1 q2 q3 ⊢
 unfold lR lI;simp! [U,hM,aZ (fx:=bz ni ci) rfl,cP (fx:=bz ni ci) rfl,q1,q3,hs,cP (fx:=jJ ci pi) rfl,q2]
end
open bF
def xO(gd:Nat):Sm:=.set 2 (.peek (.call gd [⇑4]))
theorem xP(l: ~~~0):(l.map D.int).all flat=true:=by rw[i5];intro x hx;obtain⟨y,_,rfl⟩:=gL.mp hx;rfl
section
variable{k n gd mi pi si:Nat}{rn:Nat->Rn}{fns:List Fx}(U:eY fns rn)
include U
theorem vt{fx:Fx}(hf:fns[gd]?=some fx)(h1:fx.np=1){l:List D}{r: ~~~0}{d0 s1 s2 s3:Slot}(q:∀n k,bH (rn (n+60)) (k+6) fx [.lst l]=some (.new (r.map .int))) :
  aC (rn (n+64)) [] (k+7) (xO gd) [d0,s1,s2,s3,.own l]=some (.nx,[d0,s1,.own (r.map .int),s3,.own l]):=by
 have hr:=xP r;generalize r.map D.int=rs at q hr ⊢
 unfold xO;simp! [U,hf,aZ (fx:=fx) h1,q,hr,g9]
end
open bF
noncomputable def JR(sm gl:Nat):Sm:=.ite (.or [(.not (.peek (.call sm [⇑2,(.call gl [⇑0])]))),(.cmp .NotEq ⇑4 ⇑0)]) [(.ret (.val (.bl false)))] []
def xQ:Sm:=.expr (.append 2 ↥0)
section
variable{k n sm gl:Nat}{rn:Nat->Rn}{fns:List Fx}(U:eY fns rn)
include U
theorem JT{fx fl:Fx}(hs:fns[sm]?=some fx)(h2:fx.np=2)(hg:fns[gl]?=some fl)(h1:fl.np=1){ns r: ~~~0}{s1 s3:Slot}(qs:∀n k,bH (rn (n+40)) (k+1) fx [.lst (r.map .int),.lst (r.map .int)]=some (.dat (.bl true)))(ql:∀n k,bH (rn (n+49)) (k+1) fl [.lst (ns.map .int)]=some (.new (r.map .int))) :
  aC (rn (n+64)) [] (k+7) (JR sm gl) [.dat (.lst (ns.map .int)),s1,.own (r.map .int),s3,.own (ns.map .int)]=some (.nx,[.dat (.lst (ns.map .int)),s1,.own (r.map .int),s3,.own (ns.map .int)]):=by
 have c:=tT ns ns;rw[nN rfl]at c;have hf:flat (.bl true)=true:=rfl;generalize r.map D.int=rs at qs ql ⊢
 generalize ns.map D.int=ds at ql c ⊢
 unfold JR;simp! [U,hs,hg,dj (fx:=fx) h2,aZ (fx:=fl) h1,qs,ql,g9,hf,c]
theorem vv{d0 s1 s3 s4:Slot}{l:List D}(hl:l.length<lim):aC (rn (n+64)) [] k xQ [d0,s1,.own l,s3,s4]=some (.nx,[d0,s1,.own (l++[.int 0]),s3,s4]):=by unfold xQ;simp! [U,hl]
end
open bF
def Qz(gd sm gl:Nat):Sm:=.loop (.nm 1) (.dB ↥2) [xO gd,JR sm gl,xQ]
section
variable{k n gd sm gl:Nat}{rn:Nat->Rn}{fns:List Fx}(U:eY fns rn)
include U
theorem vA{fg fx fl:Fx}(hd:fns[gd]?=some fg)(h0:fg.np=1)(hs:fns[sm]?=some fx)(h2:fx.np=2)(hg:fns[gl]?=some fl)(h1:fl.np=1){ns r: ~~~0}{s1 s2 s3:Slot}(hr:r.length<=9)
  (qd:∀n k,bH (rn (n+60)) (k+6) fg [.lst (ns.map .int)]=some (.new (r.map .int))) (qs:∀n k,bH (rn (n+40)) (k+1) fx [.lst (r.map .int),.lst (r.map .int)]=some (.dat (.bl true))) (ql:∀n k,bH (rn (n+49)) (k+1) fl [.lst (ns.map .int)]=some (.new (r.map .int))) :
  ∃t1 t2,aC (rn (n+65)) [] (k+7) (Qz gd sm gl) [.dat (.lst (ns.map .int)),s1,s2,s3,.own (ns.map .int)]=some (.nx,[.dat (.lst (ns.map .int)),t1,t2,s3,.own (ns.map .int)]):=by
 obtain⟨⟨t1,t2⟩,q⟩:=cK (T:=.nm 1) (lo:=0) (N:=2) (b:=(rn (n+65)).b [] (k+7) [xO gd,JR sm gl,xQ]) (λi (x:Slot×Slot)=>[.dat (.lst (ns.map .int)),x.1,x.2,s3,.own (ns.map .int)]) (λi x hi=>by
  refine⟨_,(.dat (.int (0+(i:Int))),.own (r.map .int++[.int 0])),rfl,?_⟩;have a1:=vt (n:=n) (k:=k) (d0:=.dat (.lst (ns.map .int))) (s1:=.dat (.int (0+(i:Int)))) (s2:=x.2) (s3:=s3) U hd h0 qd;have a2:=JT (n:=n) (k:=k) (s1:=.dat (.int (0+(i:Int)))) (s3:=s3) U hs h2 hg h1 qs ql;have a3:=vv (n:=n) (k:=k+7) (d0:=.dat (.lst (ns.map .int))) (s1:=.dat (.int (0+(i:Int)))) (s3:=s3) (s4:=.own (ns.map .int)) (l:=r.map .int) U (by rw[eC];exact pH ⋯)
  rw[U.b];exact (aq a1).trans ((aq a2).trans ((aq a3).trans rfl))) (s1,s2)
 refine⟨t1,t2,?_⟩;have hi:pW 2=true:=by decide
 have hn:(2:Int).toNat=2:=rfl;dsimp only at q;generalize ns.map D.int=ds at q ⊢
 unfold Qz;simp! [U,Tg.cY,eW,hi,hn];exact q
end
open bF
noncomputable def JV(sm:Nat):Sm:=.ite (.or [(.not (.peek (.call sm [⇑2,⇑3]))),(.cmp .NotEq ⇑4 ⇑0)]) [(.ret (.val (.bl false)))] []
def QB(pd sm:Nat):Sm:=.loop (.nm 1) (.dB ↥2) [xO pd,JV sm,xQ]
section
variable{k n pd sm:Nat}{rn:Nat->Rn}{fns:List Fx}(U:eY fns rn)
include U
theorem JW{fx:Fx}(hs:fns[sm]?=some fx)(h2:fx.np=2){ns r: ~~~0}{s1:Slot}(qs:∀n k,bH (rn (n+40)) (k+1) fx [.lst (r.map .int),.lst (r.map .int)]=some (.dat (.bl true))) :
  aC (rn (n+64)) [] (k+7) (JV sm) [.dat (.lst (ns.map .int)),s1,.own (r.map .int),.own (r.map .int),.own (ns.map .int)]=some (.nx,[.dat (.lst (ns.map .int)),s1,.own (r.map .int),.own (r.map .int),.own (ns.map .int)]):=by
 have c:=tT ns ns;rw[nN rfl]at c;have hf:flat (.bl true)=true:=rfl;generalize r.map D.int=rs at qs ⊢
 generalize ns.map D.int=ds at c ⊢
 unfold JV;simp! [U,hs,dj (fx:=fx) h2,qs,g9,hf,c]
theorem JX{fg fx:Fx}(hd:fns[pd]?=some fg)(h0:fg.np=1)(hs:fns[sm]?=some fx)(h2:fx.np=2){ns r: ~~~0}{s1 s2:Slot}(hr:r.length<=9)
  (qd:∀n k,bH (rn (n+60)) (k+6) fg [.lst (ns.map .int)]=some (.new (r.map .int))) (qs:∀n k,bH (rn (n+40)) (k+1) fx [.lst (r.map .int),.lst (r.map .int)]=some (.dat (.bl true))) :
  ∃t1 t2,aC (rn (n+65)) [] (k+7) (QB pd sm) [.dat (.lst (ns.map .int)),s1,s2,.own (r.map .int),.own (ns.map .int)]=some (.nx,[.dat (.lst (ns.map .int)),t1,t2,.own (r.map .int),.own (ns.map .int)]):=by
 obtain⟨⟨t1,t2⟩,q⟩:=cK (T:=.nm 1) (lo:=0) (N:=2) (b:=(rn (n+65)).b [] (k+7) [xO pd,JV sm,xQ]) (λi (x:Slot×Slot)=>[.dat (.lst (ns.map .int)),x.1,x.2,.own (r.map .int),.own (ns.map .int)]) (λi x hi=>by
  refine⟨_,(.dat (.int (0+(i:Int))),.own (r.map .int++[.int 0])),rfl,?_⟩;have a1:=vt (n:=n) (k:=k) (d0:=.dat (.lst (ns.map .int))) (s1:=.dat (.int (0+(i:Int)))) (s2:=x.2) (s3:=.own (r.map .int)) U hd h0 qd;have a2:=JW (n:=n) (k:=k) (ns:=ns) (s1:=.dat (.int (0+(i:Int)))) U hs h2 qs;have a3:=vv (n:=n) (k:=k+7) (d0:=.dat (.lst (ns.map .int))) (s1:=.dat (.int (0+(i:Int)))) (s3:=.own (r.map .int)) (s4:=.own (ns.map .int)) (l:=r.map .int) U (by rw[eC];exact pH ⋯)
  rw[U.b];exact (aq a1).trans ((aq a2).trans ((aq a3).trans rfl))) (s1,s2)
 refine⟨t1,t2,?_⟩;have hi:pW 2=true:=by decide
 have hn:(2:Int).toNat=2:=rfl;dsimp only at q;generalize ns.map D.int=ds at q ⊢
 generalize r.map D.int=rs at q ⊢
 unfold QB;simp! [U,Tg.cY,eW,hi,hn];exact q
end
open bF
theorem sdL{r: ~~~0}(h:r.length<=9):Sd 1 (.lst (r.map .int)):=⟨by rw[eC];lia,λx hx=>by obtain⟨i,_,rfl⟩:=gL.mp hx;trivial⟩
def pI(gd sm gl lp pd:Nat)(st:Sm):Fx:=⟨1,5,[(.set 4 (.blt .list [⇑0])),Qz gd sm gl,(.set 3 (.call lp [⇑0])),(.ite (.cmp .Lt (.blt .min [⇑3]) ↥0) [st] []),QB pd sm,(.ret (.val (.bl true)))]⟩
section
variable{k n sm lp:Nat}{rn:Nat->Rn}{fns:List Fx}(U:eY fns rn)
include U
theorem tZ(hS:fns[sm]?=some (cJ sm)){r: ~~~0}(h:r.length<=9)(n k:Nat):bH (rn (n+40)) (k+1) (cJ sm) [.lst (r.map .int),.lst (r.map .int)]=some (.dat (.bl true)):=ve U hS 1 n k _ (sdL h)
theorem vB{l:List D}{s1 s2 s3 s4:Slot}:aC (rn (n+65)) [] k (.set 4 (.blt .list [⇑0])) [.dat (.lst l),s1,s2,s3,s4]=some (.nx,[.dat (.lst l),s1,s2,s3,.own l]):=by simp! [U,cM]
theorem vC{fx:Fx}(hl:fns[lp]?=some fx)(h1:fx.np=1){l:List D}{r: ~~~0}{s1 s2 s3 s4:Slot}(q:∀n k,bH (rn (n+62)) (k+2) fx [.lst l]=some (.new (r.map .int))) :
  aC (rn (n+65)) [] (k+7) (.set 3 (.call lp [⇑0])) [.dat (.lst l),s1,s2,s3,s4]=some (.nx,[.dat (.lst l),s1,s2,.own (r.map .int),s4]):=by
 generalize r.map D.int=rs at q ⊢
 simp! [U,hl,aZ (fx:=fx) h1,q]
theorem JZ{st:Sm}{l:List D}{v:Int}{d0 s1 s2 s4:Slot}(hm:mq .min [.lst l]=some ‹v›)(hv:0<=v):aC (rn (n+65)) [] (k+7) (.ite (.cmp .Lt (.blt .min [⇑3]) ↥0) [st] []) [d0,s1,s2,.own l,s4]=some (.nx,[d0,s1,s2,.own l,s4]):=by
 have h' : ¬ v<0:=by lia
 simp! [U,hm,h']
end
open bF
section
variable{k n gd sm gl lp pd:Nat}{rn:Nat->Rn}{fns:List Fx}(U:eY fns rn)
include U
theorem QC{fg fl fp fd:Fx}{st:Sm}(hd:fns[gd]?=some fg)(h0:fg.np=1)(hS:fns[sm]?=some (cJ sm))(hg:fns[gl]?=some fl)(h1:fl.np=1)(hl:fns[lp]?=some fp)(h2:fp.np=1)(hp:fns[pd]?=some fd)(h3:fd.np=1){ns r p: ~~~0}{v:Int}(hr:r.length<=9)(cW:p.length<=9)
  (qd:∀n k,bH (rn (n+60)) (k+6) fg [.lst (ns.map .int)]=some (.new (r.map .int))) (ql:∀n k,bH (rn (n+49)) (k+1) fl [.lst (ns.map .int)]=some (.new (r.map .int)))
  (qp:∀n k,bH (rn (n+62)) (k+2) fp [.lst (ns.map .int)]=some (.new (p.map .int))) (qq:∀n k,bH (rn (n+60)) (k+6) fd [.lst (ns.map .int)]=some (.new (p.map .int)))
  (hm:mq .min [.lst (p.map .int)]=some ‹v›) (hv:0<=v):bH (rn (n+66)) (k+7) (pI gd sm gl lp pd st) [.lst (ns.map .int)]=some (.dat (.bl true)):=by
 have a0:=vB (n:=n) (k:=k+7) (l:=ns.map .int) (s1:=.no) (s2:=.no) (s3:=.no) (s4:=.no) U;obtain⟨t1,t2,a1⟩:=vA (n:=n) (k:=k) (s1:=.no) (s2:=.no) (s3:=.no) U hd h0 hS rfl hg h1 hr qd (λn k=>tZ U hS hr n k) ql
 have a2:=vC (n:=n) (k:=k) (s1:=t1) (s2:=t2) (s3:=.no) (s4:=.own (ns.map .int)) U hl h2 qp;have a3:=JZ (n:=n) (k:=k) (st:=st) (d0:=.dat (.lst (ns.map .int))) (s1:=t1) (s2:=t2) (s4:=.own (ns.map .int)) U hm hv;obtain⟨t3,t4,a4⟩:=JX (n:=n) (k:=k) (s1:=t1) (s2:=t2) U hp h3 hS rfl cW qq (λn k=>tZ U hS cW n k)
 have a5:bW (rn (n+65)) [] (k+7) [(.ret (.val (.bl true)))] [.dat (.lst (ns.map .int)),t3,t4,.own (p.map .int),.own (ns.map .int)]=some (.rt (.dat (.bl true)),[.dat (.lst (ns.map .int)),t3,t4,.own (p.map .int),.own (ns.map .int)]):=by simp! [U,U.e]
 have e5:(rn (n+66)).b [] (k+7) (pI gd sm gl lp pd st).body [.dat (.lst (ns.map .int)),.no,.no,.no,.no]=some (.rt (.dat (.bl true)),[.dat (.lst (ns.map .int)),t3,t4,.own (p.map .int),.own (ns.map .int)]):=by rw[U.b];exact (aq a0).trans ((aq a1).trans ((aq a2).trans ((aq a3).trans ((aq a4).trans a5))))
 unfold bH;rw[show bN (pI gd sm gl lp pd st).n (xB [D.lst (ns.map .int)])=[.dat (.lst (ns.map .int)),.no,.no,.no,.no]from rfl,e5]
 rfl
end
end Ev
namespace aY
open Ev
noncomputable def jy:List PySem.Addr:=[109]
def Ry:Fx:=⟨1,4,[(.set 1 (.val .non)),.stuck,(.set 3 (.lst [(.nG ⇑1 [(109,false)]),(.nG ⇑1 [(109,false)]),(.nG ⇑1 [(109,false)])])),(.set 3 (.bin .Add ⇑3 (.lst [(.nG ⇑1 [(109,false)]),(.nG ⇑1 [(109,false)]),(.nG ⇑1 [(109,false)])]))),(.set 3 (.bin .Add ⇑3 (.lst [(.nG ⇑1 [(109,false)]),(.nG ⇑1 [(109,false)]),(.nG ⇑1 [(109,false)])]))),(.set 3 (.bin .Add ⇑3 (.lst [(.nG ⇑1 [(109,false)]),(.nG ⇑1 [(109,true)]),(.nG ⇑1 [(109,false)])]))),(.set 3 (.bin .Add ⇑3 (.lst [(.nG ⇑1 [(109,false)]),(.nG ⇑1 [(109,false)]),(.nG ⇑1 [(109,false)])]))),(.ite (.not (.nG ⇑1 [(109,true)])) [(.ret (.val .non))] []),(.ret (.comp 4 2 (.nm 5) (.dB ↥15) (some (.ix ⇑3 ⇑5)) ⇑5))]⟩
def J0:Sm:=.ret (.and [(.cmp .Eq (.peek (.iO 13 1 jy (.call 6 [⇑4]))) (.lst [↥10])),(.cmp .Eq ⇑4 ⇑0)])
def s0:Sm:=.set 2 (.call 15 [⇑0,⇑1])
noncomputable def s1:Sm:=.set 3 (.call 16 [⇑2])
noncomputable def s2:Sm:=.set 4 (.call 11 [⇑3])
def dW:Ex:=.lst [⇑3,(.comp 7 2 (.nm 8) ⇑4 none (.blt .min [⇑8,(.bin .Sub (.bin .Pow ↥10 ↥10) ↥1)])),(.blt .sorted [⇑3])]
noncomputable def Cw:List Sm:=[(.ite (.not (.call 17 [⇑5])) [(.ret (.val (.bl false)))] [])]
noncomputable def s3:Sm:=.loop (.nm 5) dW Cw
def s4:Sm:=.set 6 (.lst [(.val .non),(.lst []),(.bin .Mult (.lst [↥0]) ↥10),(.tup [↥1,↥2]),(.lst [↥1,(.neg ↥1)]),(.lst [(.val (.bl true))]),(.lst [↥1,(.val .non)]),(.lst [(.val (.str (PySem.Str.ofString "1")))]),.emp,↥3,(.lst [(.lst [↥1])]),(.val (.str (PySem.Str.ofString "12")))])
def s5:Sm:=.set 6 (.ix (.bin .Add ⇑6 (.lst [(.lst [(.bin .Pow ↥10 ↥10)]),(.lst [↥0,(.bin .Pow ↥10 ↥29)])])) (.call 8 [⇑2,↥14]))
def s6:Sm:=.ite (.cmp .NotEq (.iO 13 1 jy (.call 4 [⇑6])) (.lst [↥10])) [(.ret (.val (.bl false)))] []
noncomputable def s7:Sm:=.ite (.cmp .NotEq (.iO 13 1 jy (.call 6 [⇑6])) (.lst [↥10])) [(.ret (.val (.bl false)))] []
noncomputable def vD:List Sm:=[s0,s1,s2,s3,s4,s5,s6,s7]
def Rz:Fx:=⟨1,7,[(.loop (.nm 1) (.dB (.blt .max [↥1,(.blt .min [(.blt .len [⇑0]),↥8])])) vD),(.ret (.val (.bl true)))]⟩
def fns:List Fx:=[bV,aX 0,cN 1,bz 2 0,rO 3 5,cQ,lI 3 7,jJ 0 5,dR,cJ 9,cV,iW 10,VB 11,Ry,jz,jt 14,Rx 8,pI 4 9 11 12 6 J0,Rz]
theorem c0:fns[0]?=some (bV):=rfl
theorem c1:fns[1]?=some (aX 0):=rfl
theorem c2:fns[2]?=some (cN 1):=rfl
theorem c3:fns[3]?=some (bz 2 0):=rfl
theorem c4:fns[4]?=some (rO 3 5):=rfl
theorem c5:fns[5]?=some (cQ):=rfl
theorem c6:fns[6]?=some (lI 3 7):=rfl
theorem c7:fns[7]?=some (jJ 0 5):=rfl
theorem c8:fns[8]?=some (dR):=rfl
theorem c9:fns[9]?=some (cJ 9):=rfl
theorem ZD:fns[10]?=some (cV):=rfl
theorem Xg:fns[11]?=some (iW 10):=rfl
theorem c12:fns[12]?=some (VB 11):=rfl
theorem c13:fns[13]?=some (Ry):=rfl
theorem c14:fns[14]?=some (jz):=rfl
theorem c15:fns[15]?=some (jt 14):=rfl
theorem c16:fns[16]?=some (Rx 8):=rfl
theorem c17:fns[17]?=some (pI 4 9 11 12 6 J0):=rfl
end aY
namespace aY
open Ev bF
def J1(rn:Rn)(k:Nat)(C:Nat)(c:Int):Prop:=∃r g3,rn.b [] k (Ry.body.drop 2) ((List.replicate Ry.n .no).set 1 (.dat (.jE C)))=some (.rt r,g3)/\cu [] g3 r=some (.new [.int c])
structure Fk(rn:Nat->Rn)(n k:Nat):Prop where
 a0:J1 (rn (n+82)) (k+8) 109 10
 a1:J1 (rn (n+74)) (k+7) 109 10
theorem vE(n:Int)(l: ~~~0):mq .min [.lst ((n::l).map .int)]=some (.dat (.int (eV n l))):=by
 have:=Ev.ints_map (n::l);rw[List.map_cons]at this ⊢
 simp only[mq,Rp,cM,this]
theorem vF{rn:Rn}{bor:List Nat}{k:Nat}{e:Ex}{g g':G}{ci C:Nat}{c:Int}(hx:rn.x [] k e (g.map noOwn)=some (ci,g'))(hc:jy[ci]?=some C)(hr:J1 rn k C c):aR rn bor (k+2) fns (.iO 13 1 jy e) g=some (.new [.int c],g):=by obtain⟨r,g3,h1,h2⟩:=hr;simp only[aR,c13,hx,hc,h1,h2]
theorem ZF:gS .Eq (.lst [.int 10]) (.lst [.int 10])=some true:=by decide
section
variable{k n:Nat}{rn:Nat->Rn}(U:eY fns rn)
include U
theorem QD(F:Fk rn n k){L P:List D}{t1 t2:Slot}{v:Int}(hm:mq .min [.lst P]=some ‹v›)(hv:v<0)(ce:gS .Eq (.lst L) (.lst L)=some true)(q:∀n k,lR (rn (n+60)) (k+6) (lI 3 7) [.lst L]=some 0) :
  aC (rn (n+79)) [] (k+9) (.ite (.cmp .Lt (.blt .min [⇑3]) ↥0) [J0] []) [.dat (.lst L),t1,t2,.own P,.own L]=some (.rt (.dat (.bl true)),[.dat (.lst L),t1,t2,.own P,.own L]):=by
 have w:(rn (n+74)).x [] (k+7) (.call 6 [⇑4]) (([.dat (.lst L),t1,t2,.own P,.own L].map g9).map noOwn)=some (0,([.dat (.lst L),t1,t2,.own P,.own L].map g9).map noOwn):=by have e:([Slot.dat (.lst L),t1,t2,.own P,.own L].map g9).map noOwn=[.dat (.lst L),noOwn (g9 t1),noOwn (g9 t2),.dat (.lst P),.dat (.lst L)]:=rfl;rw[e];simp! [U,c6,cP (fx:=lI 3 7) rfl,q]
 have r:=vF (bor:=[]) (C:=109) w rfl F.a1;have p:(rn (n+76)).e [] (k+9) (.peek (.iO 13 1 jy (.call 6 [⇑4]))) [.dat (.lst L),t1,t2,.own P,.own L]=some (.new [.int 10],[.dat (.lst L),t1,t2,.own P,.own L]):=by have hf:flat (.int 10)=true:=rfl;have r':=U.e (n+74) [] (k+9) (.iO 13 1 jy (.call 6 [⇑4])) ([.dat (.lst L),t1,t2,.own P,.own L].map g9);rw[r]at r';rw[U.e];simp only[aR,r',List.isEmpty_nil,B6,List.all_cons,List.all_nil,hf,Bool.and_self]
 generalize hG:[Slot.dat (.lst L),t1,t2,.own P,.own L]=GG at p;have g4:GG[4]?=some (.own L):=by rw[<- hG];rfl
 have l10:(rn (n+76)).e [] (k+9) (.lst [↥10]) GG=some (.new [.int 10],GG):=by simp! [U,aF 1 ⋯]
 have e1:(rn (n+77)).e [] (k+9) (.cmp .Eq (.peek (.iO 13 1 jy (.call 6 [⇑4]))) (.lst [↥10])) GG=some (.dat (.bl true),GG):=by rw[U.e];simp only[aR,argsR,p,l10,norm,pk,ZF]
 have e2:(rn (n+77)).e [] (k+9) (.cmp .Eq ⇑4 ⇑0) GG=some (.dat (.bl true),GG):=by subst hG;simp! [U,ce]
 have e3:(rn (n+79)).b [] (k+9) [J0] GG=some (.rt (.dat (.bl true)),GG):=by unfold J0;rw[U.b];simp only[bW,aC,U.e (n+77),aR,xg,e1,e2]
 have e0:(rn (n+79)).t [] (k+9) (.cmp .Lt (.blt .min [⇑3]) ↥0) GG=some (true,GG):=by subst hG;simp! [U,hm,hv]
 unfold aC;simp only[e0,e3]
theorem Cy(F:Fk rn n k){ns: ~~~0}(h:isNm (.lst (ns.map .int))=true):bH (rn (n+80)) (k+9) (pI 4 9 11 12 6 J0) [.lst (ns.map .int)]=some (.dat (.bl true)):=by
 obtain⟨hl,hx⟩:=fX h;have hx':∀x∈ns,x.natAbs<=10 ^ 10:=λx ZG=>by have:=hx x ZG;lia
 have Ky:(cO ns).length<=9:=by simp[cO];exact hl.2
 have cW:(par ns ns.length).length<=9:=by rw[bu];exact hl.2
 have qd:=λn k=>Ql (n:=n) (k:=k) U c0 c1 c2 c3 c5 h
 have ql:=λn k=>Cq (n:=n) (k:=k) (ks:=ns) (b:=10 ^ 10) U ZD hl.2 ⋯ λi x e=>eM (hx' x (fA e)) (Nat.le_self_pow ⋯ _)
 have qp:=λn k=>VD (n:=n) (k:=k) U ZD Xg hl.2 hx'
 have aQ:=bu ns ns.length;have pg:=λ(i:Nat) (hi:i<ns.length)=>JQ ns hi
 cases hc:par ns ns.length with
 |nil=>rw[hc]at aQ;exact absurd aQ (by simp;lia)
 |cons x xs=>
  obtain⟨m1,m2,m3⟩:=oR xs x;have mm:∀y∈par ns ns.length,eV x xs<=y:=λy hy=>by
   rw[hc]at hy;rcases b0.mp hy with rfl |hy
   . exact m1
   . exact m2 y hy
  rcases xN (p:=jv ns) ns.length with hp |⟨i,hi,hp,hr⟩
  .
   have qq:=λn k=>Qo (n:=n) (k:=k) U c0 c1 c2 c3 c5 c7 h hp
   have hv:0<=eV x xs:=by
    have:eV x xs∈par ns ns.length:=by
     rw[hc];rcases m3 with e |e
     . rw[e];exact dA
     . exact a8 _ e
    obtain⟨j,hj,e⟩:=List.mem_iff_getElem.mp this;have hj':j<ns.length:=by rw[aQ]at hj;exact hj
    have:=pg j hj';rw[kA hj,e]at this;rw[l6 this];exact hp j hj'
   have hm:=vE x xs;rw[<- hc]at hm;exact QC (n:=n+14) (k:=k+2) U c4 rfl c9 Xg rfl c12 rfl c6 rfl Ky cW qd ql qp qq hm hv
  .
   have qr:=λn k=>V5 (n:=n) (k:=k) U c0 c1 c2 c3 c5 c7 h hi hp hr
   have hv:eV x xs<0:=Int.lt_of_le_of_lt (mm _ (fA (pg i hi))) hr;have hm:=vE x xs;rw[<- hc]at hm;have ce:=Bs ns ns;rw[nN rfl]at ce;have a0:=vB (n:=n+14) (k:=k+9) (l:=ns.map .int) (s1:=.no) (s2:=.no) (s3:=.no) (s4:=.no) U;obtain⟨t1,t2,a1⟩:=vA (n:=n+14) (k:=k+2) (s1:=.no) (s2:=.no) (s3:=.no) U c4 rfl c9 rfl Xg rfl Ky qd (λn k=>tZ U c9 Ky n k) ql
   have a2:=vC (n:=n+14) (k:=k+2) (s1:=t1) (s2:=t2) (s3:=.no) (s4:=.own (ns.map .int)) U c12 rfl qp;have a3:=QD (t1:=t1) (t2:=t2) U F hm hv ce qr;have e5:(rn (n+80)).b [] (k+9) (pI 4 9 11 12 6 J0).body [.dat (.lst (ns.map .int)),.no,.no,.no,.no]=some (.rt (.dat (.bl true)),[.dat (.lst (ns.map .int)),t1,t2,.own ((par ns ns.length).map .int),.own (ns.map .int)]):=by rw[U.b];refine (aq a0).trans ((aq a1).trans ((aq a2).trans ?_));unfold bW;rw[a3]
   unfold bH;rw[show bN (pI 4 9 11 12 6 J0).n (xB [D.lst (ns.map .int)])=[.dat (.lst (ns.map .int)),.no,.no,.no,.no]from rfl,e5]
   rfl
end
end aY
namespace aY
open Ev bF
theorem QF{k:Int}(hk:0<=k):∀t,0<=dc k t:=by
 intro t
 induction t with
 |zero=>show (0:Int)<=1;decide
 |succ t ih=>exact Int.ediv_nonneg (Int.mul_nonneg ih ⋯) ⋯
theorem V6{f:Nat->Int}{s:Nat}{k:Int}(hf:∀m,0<=f m)(hk:0<=k)(n:Nat):∀T,0<=wk f s k T n:=by
 intro T
 induction T with
 |zero=>exact hf n
 |succ T ih=>
  rw[iU];split
  . exact Int.add_nonneg ih (Int.mul_nonneg (QF hk _) (hf _))
  . rw[u7];exact ih
theorem V7{ks: ~~~0}(h:∀x∈ks,0<=x):∀i n,0<=gg ks i n:=by
 intro i
 induction i with
 |zero=>intro n;show (0:Int)<=if n=0 then 1 else 0;split <;> decide
 |succ i ih=>
  intro n;refine V6 ih ?_ n _;cases e:ks[i]? with
  |none=>exact Int.le_refl _
  |some x=>exact h x (fA e)
def cut(x:Int):Int:=if 9999999999<x then 9999999999 else x
theorem pJ{ks: ~~~0}(h1:1<=ks.length/\ks.length<=9)(h2:∀x∈ks,0<=x/\x<=9999999999):isNm (.lst (ks.map .int))=true:=by
 show (decide (1<=(ks.map D.int).length/\(ks.map D.int).length<=9)&&(ks.map D.int).all (yp 0 9999999999))=true;rw[eQ,kS,eC,i5];refine⟨h1,λd hd=>?_⟩
 obtain⟨x,hx,rfl⟩:=gL.mp hd;have:=h2 x hx;simpa [yp]using this
theorem QG{ks: ~~~0}(h:∀x∈ks,0<=x):∀x∈cO ks,0<=x:=λx hx=>by
 obtain⟨i,_,rfl⟩:=gL.mp hx;exact V7 h _ _
theorem vG(ks: ~~~0):(cO ks).length=ks.length:=by simp[cO]
noncomputable def jK:List D:=[.non,.lst [],.lst (List.replicate 10 (.int 0)),.tup [.int 1,.int 2],.lst [.int 1,.int (-1)],.lst [.bl true],.lst [.int 1,.non],.lst [.str (PySem.Str.ofString "1")],.emp,.int 3,.lst [.lst [.int 1]],.str (PySem.Str.ofString "12")]
noncomputable def uc:List D:=[.lst [.int 10000000000],.lst [.int 0,.int 100000000000000000000000000000]]
theorem QH:∀d∈jK++uc,isNm d=false/\∀l,d≠.fix l:=λd hd=>by
 simp only[jK,uc,List.cons_append,AJ,b0,i6,Ap]at hd;rcases hd with rfl |rfl |rfl |rfl |rfl |rfl |rfl |rfl |rfl |rfl |rfl |rfl |rfl |rfl <;> exact⟨by decide,λl e=>nomatch e⟩
theorem ZJ:gS .NotEq (.lst [.int 10]) (.lst [.int 10])=some false:=by decide
theorem Cz:fB .Pow (.int 10) (.int 10)=some ‹10000000000›:=by rfl
theorem QJ:fB .Pow (.int 10) (.int 29)=some ‹100000000000000000000000000000›:=by rfl
theorem QK:fB .Mult (.lst [.int 0]) (.int 10)=some (.new (List.replicate 10 (.int 0))):=by rfl
section
variable{k n:Nat}{rn:Nat->Rn}(U:eY fns rn)
include U
theorem ZK{ns: ~~~0}(hl:ns.length<=9){A0 A1 A2 a5 a6:Slot}:eW (rn (n+84)) [] (k+10) false dW [A0,A1,A2,.own (ns.map .int),.own ((cO ns).map .int),a5,a6]=some ([.lst (ns.map .int),.lst (((cO ns).map cut).map .int),.lst ((cz ns).map .int)],[A0,A1,A2,.dat (.lst (ns.map .int)),.dat (.lst ((cO ns).map .int)),a5,a6]):=by
 have o:dN (rn (n+82)) [] (k+10) 7 2 (.nm 8) ⇑4 none (.blt .min [⇑8,(.bin .Sub (.bin .Pow ↥10 ↥10) ↥1)]) [A0,A1,A2,.dat (.lst (ns.map .int)),.own ((cO ns).map .int),a5,a6]=some ((cO ns).map (λx=>D.int (cut x)),[A0,A1,A2,.dat (.lst (ns.map .int)),.dat (.lst ((cO ns).map .int)),a5,a6]):=by
  refine Kz (g1:=[A0,A1,A2,.dat (.lst (ns.map .int)),.dat (.lst ((cO ns).map .int)),a5,a6]) (cO ns) (λx=>D.int x) (λx=>D.int (cut x)) ?_ rfl ⋯ ⋯ ⋯ (aF _ (by rw[vG];lia)) λx _ G' hG=>?_
  . show _=some ((cO ns).map D.int,_);generalize (cO ns).map D.int=l;generalize ns.map D.int=l';simp! [U,eW]
  .
   have h8:=hG.2;have c:∀x:Int,(if (9999999999:Int)<x then (9999999999:Int)else x)=cut x:=λ_=>rfl
   simp! [U,h8,Cz,c]
 have so:=rE ns ⋯;rw[show (cO ns).map (λx=>D.int (cut x))=((cO ns).map cut).map .int by rw[List.map_map];rfl]at o
 generalize ((cO ns).map cut).map D.int=l2 at o ⊢
 generalize (cz ns).map D.int=l3 at so ⊢
 generalize ns.map D.int=l1 at o so ⊢
 generalize (cO ns).map D.int=l4 at o ⊢
 unfold dW;simp! [U,eW,o,so,aF 3 ⋯]
variable(F:Fk rn n k)
include F
theorem V8{ns: ~~~0}(h1:1<=ns.length/\ns.length<=9)(h2:∀x∈ns,0<=x/\x<10000000000){A0 A1 A2 a5 a6:Slot}:aC (rn (n+84)) [] (k+10) s3 [A0,A1,A2,.own (ns.map .int),.own ((cO ns).map .int),a5,a6]=some (.nx,[A0,A1,A2,.dat (.lst (ns.map .int)),.dat (.lst ((cO ns).map .int)),.dat (.lst ((cz ns).map .int)),a6]):=by
 have hw:=ZK U (n:=n) (k:=k) h1.2 (A0:=A0) (A1:=A1) (A2:=A2) (a5:=a5) (a6:=a6);have one:∀ms:List Int,isNm (.lst (ms.map .int))=true->∀A3 A4:Slot,(rn (n+84)).b [] (k+10) Cw [A0,A1,A2,A3,A4,.dat (.lst (ms.map .int)),a6]=some (.nx,[A0,A1,A2,A3,A4,.dat (.lst (ms.map .int)),a6]):=λms hm A3 A4=>by
  have q:=Cy U F hm;generalize ms.map D.int=l at q ⊢
  unfold Cw;simp! [U,c17,aZ (fx:=pI 4 9 11 12 6 J0) rfl,q]
 have b1:=one ns (pJ h1 λx hx=>by have:=h2 x hx;lia) (.dat (.lst (ns.map .int))) (.dat (.lst ((cO ns).map .int)))
 have b2:=one ((cO ns).map cut) (pJ (by rw[eC,vG];exact h1) λx hx=>by
  obtain⟨y,hy,rfl⟩:=gL.mp hx;have:=QG (λx hx=>(h2 x hx).1) y hy
  unfold cut;split <;> lia) (.dat (.lst (ns.map .int))) (.dat (.lst ((cO ns).map .int)))
 have b3:=one (cz ns) (pJ (by rw[(cU ns).length_eq];exact h1) λx hx=>by
  have:=h2 x ((cU ns).mem_iff.mp hx);lia) (.dat (.lst (ns.map .int))) (.dat (.lst ((cO ns).map .int)))
 generalize ((cO ns).map cut).map D.int=l2 at hw b2;generalize (cz ns).map D.int=l3 at hw b3 ⊢
 generalize ns.map D.int=l1 at hw b1 b2 b3 ⊢
 generalize (cO ns).map D.int=l4 at hw b1 b2 b3 ⊢
 unfold s3;simp only[aC,Tg.ix,Tg.cY,hw];simp[bD,Tg.set,b1,b2,b3]
omit F in
theorem V9{A0 A1 A2 A3 A4 A5 a6:Slot}:aC (rn (n+84)) [] (k+10) s4 [A0,A1,A2,A3,A4,A5,a6]=some (.nx,[A0,A1,A2,A3,A4,A5,.own jK]):=by unfold s4 jK;simp! [U,QK,aF 0 ⋯,aF 1 ⋯,aF 2 ⋯,aF 12 ⋯]
omit F in
theorem Wa{A0 A1 A3 A4 A5:Slot}{s:Int}{fl:Bool}:∃d s',(isNm d=false/\∀l,d≠.fix l)/\aC (rn (n+84)) [] (k+10) s5 [A0,A1,St s fl,A3,A4,A5,.own jK]=some (.nx,[A0,A1,St s' fl,A3,A4,A5,.dat d]):=by
 obtain⟨r,s',r1,r2,q⟩:=Iu (n:=n+62) (k:=k+9) (i:=2) (s:=s) (fl:=fl) (m:=14) (g:=[A0,A1,St s fl,A3,A4,A5,.own jK]) U rfl ⋯;rw[show n+62+20=n+82 from rfl]at q
 have q':bG (rn (n+82)) dR (k+9) [.var 2,‹14›] [A0,A1,St s fl,A3,A4,A5,.own jK]=some (‹r›,[A0,A1,St s' fl,A3,A4,A5,.own jK]):=q;obtain⟨d,hd,e⟩:=vd (l:=jK++uc) (r:=r) ⟨r1,r2⟩;refine⟨d,s',QH d hd,?_⟩;have o:=fW jK uc ⋯;have hb:[D.lst [.int 10000000000],D.lst [.int 0,.int 100000000000000000000000000000]]=uc:=rfl;generalize jK++uc=B at o e;generalize jK=B1 at q' o ⊢
 have l2:=aF uc.length ⋯;unfold s5;simp! [U,Cz,QJ,aF 1 ⋯,aF 2 ⋯,hb,l2,o,c8,q',e]
theorem CG{f:Nat}{d:D}{A0 A1 A2 A3 A4 A5:Slot}(w:∀g:G,g[6]?=some (.dat d)->(rn (n+82)).x [] (k+8) (.call f [⇑6]) g=some (0,g)):aC (rn (n+84)) [] (k+10) (.ite (.cmp .NotEq (.iO 13 1 jy (.call f [⇑6])) (.lst [↥10])) [(.ret (.val (.bl false)))] []) [A0,A1,A2,A3,A4,A5,.dat d]=some (.nx,[A0,A1,A2,A3,A4,A5,.dat d]):=by
 have w':=w ([A0,A1,A2,A3,A4,A5,.dat d].map noOwn) rfl;generalize [A0,A1,A2,A3,A4,A5,.dat d]=GG at *;have r:=vF (bor:=[]) (C:=109) w' rfl F.a0;have r':(rn (n+83)).e [] (k+10) (.iO 13 1 jy (.call f [⇑6])) GG=some (.new [.int 10],GG):=(U.e _ _ _ _ _).trans r;have l10:(rn (n+83)).e [] (k+10) (.lst [↥10]) GG=some (.new [.int 10],GG):=by simp! [U,aF 1 ⋯]
 have t0:(rn (n+84)).t [] (k+10) (.cmp .NotEq (.iO 13 1 jy (.call f [⇑6])) (.lst [↥10])) GG=some (false,GG):=by rw[U.t];simp only[stepT,argsR,r',l10,norm,pk,ZJ]
 unfold aC;simp only[t0,U.b,bW]
theorem cell(ns: ~~~0)(hl:ns.length<=63)(j:Nat)(a2 a3 a4 a5 a6:Slot):∃b2 b3 b4 b5 b6,(rn (n+85)).b [] (k+10) vD [.dat (.fix (ns.map .int)),‹j›,a2,a3,a4,a5,a6]=some (.nx,[.dat (.fix (ns.map .int)),‹j›,b2,b3,b4,b5,b6]):=by
 obtain⟨s,fl,q1⟩:=Bv U c14 (n:=n+43) (k:=k+8) ns ⋯ j;generalize hA0:Slot.dat (.fix (ns.map .int))=A0;generalize hA1:Slot.dat (.int (j:Int))=A1;have e0:aC (rn (n+84)) [] (k+10) s0 [A0,A1,a2,a3,a4,a5,a6]=some (.nx,[A0,A1,St s fl,a3,a4,a5,a6]):=by subst hA0 hA1;unfold s0;simp! [U,c15,dj (fx:=jt 14) rfl,q1]
 obtain⟨ms,sA,h1,h2,q2⟩:=VH (n:=n+41) (k:=k+7) (fl:=fl) (i:=2) (s:=s) (g:=[A0,A1,St s fl,a3,a4,a5,a6]) U c8 rfl;have Nk:bG (rn (n+83)) (Rx 8) (k+9) [.var 2] [A0,A1,St s fl,a3,a4,a5,a6]=some (.new (ms.map .int),[A0,A1,St sA fl,a3,a4,a5,a6]):=q2;have q3:=Ce (n:=n+34) (k:=k+8) (c:=true) (i:=3) (g:=[A0,A1,St sA fl,.own (ms.map .int),a4,a5,a6]) (b:=10 ^ 10) U ZD h1.2 ⋯ (KD λx hx=>by have:=h2 x hx;lia) λ_=>rfl
 have WL:bG (rn (n+83)) (iW 10) (k+9) [.var 3] [A0,A1,St sA fl,.own (ms.map .int),a4,a5,a6]=some (.new ((cO ms).map .int),[A0,A1,St sA fl,.own (ms.map .int),a4,a5,a6]):=q3;have e1:aC (rn (n+84)) [] (k+10) s1 [A0,A1,St s fl,a3,a4,a5,a6]=some (.nx,[A0,A1,St sA fl,.own (ms.map .int),a4,a5,a6]):=by
  generalize ms.map D.int=l at Nk ⊢
  unfold s1;simp! [U,c16,Nk]
 have e2:aC (rn (n+84)) [] (k+10) s2 [A0,A1,St sA fl,.own (ms.map .int),a4,a5,a6]=some (.nx,[A0,A1,St sA fl,.own (ms.map .int),.own ((cO ms).map .int),a5,a6]):=by
  generalize (cO ms).map D.int=l' at WL ⊢
  generalize ms.map D.int=l at WL ⊢
  unfold s2;simp! [U,Xg,WL]
 have e3:=V8 U F h1 h2 (A0:=A0) (A1:=A1) (A2:=St sA fl) (a5:=a5) (a6:=a6);have e4:=V9 U (n:=n) (k:=k) (A0:=A0) (A1:=A1) (A2:=St sA fl) (A3:=.dat (.lst (ms.map .int))) (A4:=.dat (.lst ((cO ms).map .int))) (A5:=.dat (.lst ((cz ms).map .int))) (a6:=a6);obtain⟨d,sB,hd,e5⟩:=Wa U (n:=n) (k:=k) (s:=sA) (fl:=fl) (A0:=A0) (A1:=A1) (A3:=.dat (.lst (ms.map .int))) (A4:=.dat (.lst ((cO ms).map .int))) (A5:=.dat (.lst ((cz ms).map .int)));have y1:=λn k=>VM (pi:=5) U c0 c1 c2 c3 (n:=n) (k:=k) d hd.1 hd.2
 have y2:=λn k=>VN (si:=7) U c0 c1 c2 c3 (n:=n) (k:=k) d hd.1 hd.2
 have e6:=CG U F (f:=4) (d:=d) (A0:=A0) (A1:=A1) (A2:=St sB fl) (A3:=.dat (.lst (ms.map .int))) (A4:=.dat (.lst ((cO ms).map .int))) (A5:=.dat (.lst ((cz ms).map .int))) λg hg=>by simp! [U,hg,c4,cP (fx:=rO 3 5) rfl,y1]
 have e7:=CG U F (f:=6) (d:=d) (A0:=A0) (A1:=A1) (A2:=St sB fl) (A3:=.dat (.lst (ms.map .int))) (A4:=.dat (.lst ((cO ms).map .int))) (A5:=.dat (.lst ((cz ms).map .int))) λg hg=>by simp! [U,hg,c6,cP (fx:=lI 3 7) rfl,y2]
 refine⟨St sB fl,.dat (.lst (ms.map .int)),.dat (.lst ((cO ms).map .int)),.dat (.lst ((cz ms).map .int)),.dat d,?_⟩;rw[U.b];exact (aq e0).trans ((aq e1).trans ((aq e2).trans ((aq e3).trans ((aq e4).trans ((aq e5).trans ((aq e6).trans ((aq e7).trans rfl)))))))
end
end aY
namespace aY
open Ev
section
variable{k n:Nat}{rn:Nat->Rn}(U:eY fns rn)(F:Fk rn n k)
include U F
theorem whole(ns: ~~~0)(hl:ns.length<=63):∃g',(rn (n+86)).b [] (k+10) Rz.body [.dat (.fix (ns.map .int)),.no,.no,.no,.no,.no,.no]=some (.rt (.dat (.bl true)),g'):=by
 have loop:=jr (T:=.nm 1) (b:=(rn (n+85)).b [] (k+10) vD) (λ(j:Nat)=>D.int (0+(j:Int)))
  (I:=λ(l:List Nat) g=>∃(s1 s2 s3 s4 s5 s6:Slot),g=[.dat (.fix (ns.map .int)),s1,s2,s3,s4,s5,s6])
  (step:=λa l g h=>by
   obtain⟨s1,s2,s3,s4,s5,s6,rfl⟩:=h;rw[Int.zero_add];obtain⟨b2,b3,b4,b5,b6,q⟩:=cell U F ns hl a s2 s3 s4 s5 s6;exact⟨_,_,rfl,q,_,_,_,_,_,_,rfl⟩)
 obtain⟨M,hM,hM2⟩:∃M:Nat,M<=8/\(if ((if (8:Int)<ns.length then 8 else (ns.length:Int))) > 1 then (if (8:Int)<ns.length then 8 else (ns.length:Int))else 1)=(M:Int):=by
  refine⟨(if ((if (8:Int)<ns.length then 8 else (ns.length:Int))) > 1 then (if (8:Int)<ns.length then 8 else (ns.length:Int))else 1).toNat,?_,?_⟩
  . split <;> (try split) <;> lia
  . split <;> (try split) <;> lia
 obtain⟨g2,⟨s1,s2,s3,s4,s5,s6,rfl⟩,h4⟩:=loop (List.range M) [.dat (.fix (ns.map .int)),.no,.no,.no,.no,.no,.no] ⟨_,_,_,_,_,_,rfl⟩;have hv:gA (rn (n+85)) [] (k+10) (.blt .max [↥1,(.blt .min [(.blt .len [⇑0]),↥8])]) [.dat (.fix (ns.map .int)),.no,.no,.no,.no,.no,.no]=some (.int (M:Int),[.dat (.fix (ns.map .int)),.no,.no,.no,.no,.no,.no]):=by rw[<- hM2];simp! [U,lE]
 have hw:eW (rn (n+85)) [] (k+10) false (.dB (.blt .max [↥1,(.blt .min [(.blt .len [⇑0]),↥8])])) [.dat (.fix (ns.map .int)),.no,.no,.no,.no,.no,.no]=some ((List.range M).map λ(x:Nat)=>D.int (0+(x:Int)),[.dat (.fix (ns.map .int)),.no,.no,.no,.no,.no,.no]):=by unfold eW;dsimp only;rw[hv];dsimp only;rw[lL (bX M ⋯),AW];rfl
 have e1:aC (rn (n+85)) [] (k+10) (.loop (.nm 1) (.dB (.blt .max [↥1,(.blt .min [(.blt .len [⇑0]),↥8])])) vD) [.dat (.fix (ns.map .int)),.no,.no,.no,.no,.no,.no]=some (.nx,[.dat (.fix (ns.map .int)),s1,s2,s3,s4,s5,s6]):=by simp only[aC,Tg.ix,Tg.cY,hw,h4];simp
 refine⟨[.dat (.fix (ns.map .int)),s1,s2,s3,s4,s5,s6],?_⟩;unfold Rz;rw[U.b,aq e1];simp! [U,U.e]
end
def rfB(rn:Rn)(k:Nat)(C:Nat)(c:Int):Bool:=match rn.b [] k (Ry.body.drop 2) ((List.replicate Ry.n .no).set 1 (.dat (.jE C)))with
 |some (.rt r,g3)=>(match cu [] g3 r with |some (.new [.int c'])=>decide (c'=c) |_=>false)
 |_=>false
theorem CJ(h:rfB rn k C c=true):J1 rn k C c:=by
 unfold rfB at h;left
 .
  rename_i r g3 e;left
  . rename_i c' e2;rw[mE h]at e2;exact⟨r,g3,e,e2⟩
  . symm
 . symm
theorem QL:Fk (run fns) 0 0:=⟨CJ (by decide +kernel),CJ (by decide +kernel)⟩
def kk:Nat:=10
def fuel:Nat:=86
theorem hev(ns: ~~~0)(hl:ns.length<=63):∃g',(run fns fuel).b [] kk Rz.body (bN 7 [.dat (.fix (ns.map .int))])=some (.rt (.dat (.bl true)),g'):=whole (Ir fns) QL ns hl
end aY
namespace Ev
open L2
def Wb:Value->Bool
 |.str _ _=>true
 |_=>false
def J2:Value->Bool
 |.int _ _=>true
 |_=>false
def KJ:Value->Bool
 |.bool _=>true
 |_=>false
noncomputable def J3(n:String):Value->Bool
 |.type m=>decide (m=n)
 |_=>false
noncomputable def QM(q:Addr):Option Value->Bool
 |some (.ref p)=>decide (p=q)
 |_=>false
theorem pK(h:J3 n v=true):v=.type n:=by
 unfold J3 at h;left
 . rw[mE h]
 . symm
theorem J4(h:QM q v=true):v=some (.ref q):=by
 unfold QM at h;left
 . rw[mE h]
 . symm
def codeOk(K:Frag)(c q:Addr):Bool:=match K.lookup c with
 |some o=>(match o.data with
  |.fields vs=>J3 "code" o.cls&&QM q vs[11]?&&Wb (vs.getD 18 .none)&&J2 (vs.getD 7 .none)&&KJ (vs.getD 9 .none)&&J2 (vs.getD 10 .none)&&decide (c≠q)
  |_=>false)
 |none=>false
theorem nW{K:Frag}{h:Heap}{c q:Addr}(X:K.In h)(e:codeOk K c q=true):PySem.W.CodeHd h c q/\∃o vs,h.get? c=some o/\o.cls=.type "code" /\o.data=.fields vs/\vs[11]?=some (.ref q):=by
 unfold codeOk at e;split at e
 .
  rename_i o ho;split at e
  .
   rename_i vs hv;simp only[eQ,kS]at e;obtain⟨⟨⟨⟨⟨⟨e1,e2⟩,e3⟩,e4⟩,e5⟩,e6⟩,e7⟩:=e;have r:=J4 e2;have d:vs.getD 11 .none=.ref q:=by rw[Array.getD_eq_getD_getElem?,r];rfl
   unfold Wb at e3;split at e3
   .
    rename_i file tf h3;unfold J2 at e4;split at e4
    .
     rename_i fl tg h4;unfold KJ at e5;split at e5
     .
      rename_i b h5;unfold J2 at e6;split at e6
      . rename_i tx tt h6;exact⟨⟨o,vs,file,tf,fl,tg,b,tx,tt,X _ _ ho,pK e1,hv,r,d,h3,h4,h5,h6,e7⟩,o,vs,X _ _ ho,pK e1,hv,r⟩
      . cases e6
     . cases e5
    . cases e4
   . cases e3
  . cases e
 . cases e
noncomputable def ud(K:Frag)(n:Str)(c:Addr):Bool:=K.all λp=>decide (p.1=c)||!PySem.W.codeIn [p] (.ref p.1) n
theorem lookup_mem{β:Type}:∀{l:List (Addr×β)}{a:Addr}{b:β},l.lookup a=some b->(a,b)∈l
 | [],_,_,h=>by symm
 | (x,y)::l,a,b,h=>by
  rw[mP]at h;by_cases e:a=x
  . subst e;simp at h;subst h;exact dA
  .
   have:(a==x)=false:=by simpa using e
   rw[this]at h;exact a8 _ (lookup_mem h)
noncomputable def J5(K:Frag)(bm q:Addr):Bool:=match K.lookup bm with
 |some ⟨c,some d,.plain,_⟩=>J3 "module" c&&decide (d=builtinsNs)&&decide (bm≠builtinsNs)&&decide (bm≠mainGlobals)&&decide (bm≠q)
 |_=>false
theorem CK{K:Frag}{mg:Str->Option Value}{h:Heap}{n:Str}{c q bm:Addr}(X:K.In h)(G:h.Ns mainGlobals mg)(e1:ud K n c=true)(e2:codeOk K c q=true)(e3:(q,j8 n)∈bS K)(e7:((bS K).all λp=>decide (p.1=q->p.2=j8 n))=true)(e4:PySem.W.nsIn K mainGlobals "__builtins__"=some (some (.ref bm)))(e5:J5 K bm q=true)(e6:mainGlobals≠q) :
  ∀bh,PySem.W.codeIn K bh n=true->Aj K mg n bh:=λbh hc=>by
 cases bh with
 |ref c'=>
  cases hl:K.lookup c' with
  |none=>unfold PySem.W.codeIn at hc;simp only[hl]at hc;cases hc
  |some o=>
   have hm:=lookup_mem hl;have e0:PySem.W.codeIn [(c',o)] (.ref c') n=PySem.W.codeIn K (.ref c') n:=by
    have h1:List.lookup c' [(c',o)]=some o:=by simp
    unfold PySem.W.codeIn;simp only[hl,h1]
   have ec:c'=c:=by have:=i5.mp e1 _ hm;rw[e0,hc]at this;simpa using this
   subst ec;refine⟨c',q,rfl,λb hb=>(nW hb e2).1,e3,λb hb=>?_,e6,λp hp=>mE (i5.mp e7 p hp)⟩
   unfold J5 at e5;split at e5
   . rename_i cc d sl hb2;simp only[eQ,kS]at e5;obtain⟨⟨⟨⟨f1,f2⟩,f3⟩,f4⟩,f5⟩:=e5;exact⟨bm,_,BF X G e4,f3,f4,f5,hb _ _ hb2,pK f1,by rw[f2],rfl⟩
   . cases e5
 |_=>cases hc
theorem rP{K:Frag}{o:Obj}{a:Addr}{qs:List Addr}:(qs.map (λq=>(q,o))++K).lookup a=if a∈qs then some o else K.lookup a:=by
 induction qs with
 |nil=>simp
 |cons q qs ih=>
  rw[List.map_cons,List.cons_append,mP];by_cases z:a=q
  . subst z;simp
  .
   have:(a==q)=false:=by simpa using z
   rw[this];simp only[b0,z,false_or];exact ih
theorem rQ{qs:List Addr}{K:Params->Frag}{w:World}{h:Heap}(e:(qs.all λq=>((K w.params).lookup q).isNone)=true)(qqz:PySem.W.InK (mJ qs K) w h):(K w.params).In h:=λa o ho=>by
 refine qqz a o ?_;show List.lookup a (qs.map _++K w.params)=_;rw[rP,i8,ho];intro z;have:=i5.mp e a z;rw[ho]at this;cases this
theorem xR{cs qs:List Addr}{K:Params->Frag}{w:World}{h:Heap}(e:(qs.all λq=>((K w.params).lookup q).isNone)=true)(e2:(qs.all λq=>cs.any λc=>codeOk (K w.params) c q)=true)(qqz:PySem.W.InK (mJ qs K) w h):∀p∈qs,(∃c,h.TableAt c p #[])/\(K w.params).lookup p=none:=λp hp=>by
 obtain⟨c,_,hc⟩:=List.any_eq_true.mp (i5.mp e2 p hp);refine⟨⟨c,(nW (rQ e qqz) hc).2,qqz _ _ ?_⟩,Option.isNone_iff_eq_none.mp (i5.mp e p hp)⟩;show List.lookup p (qs.map _++K w.params)=_;rw[rP,lL hp]
theorem CN{l:PySem.W.OpenLaw}{n k:Nat}{q:Program}{loose:List Str}{XP:(Str->Option Value)->Heap->Prop}{YP:World->Heap->Prop}{d:DefRec}{K:Params->Frag}{CX:vU}{sp:Frag->Sp}{x:Str}{T:List Addr}
  (hn:l.most=some n) (hn2:n<=sizeLine) (fS:d.params.defaults=[]) (hr:bK k callerA)
  (hY:∀(w:World) (h:Heap),YP w h->(K w.params).In h) (hT:∀(w:World) (h:Heap),YP w h->∀q∈T,(∃c,h.TableAt c q #[])/\(K w.params).lookup q=none)
  (F:∀(w:World) (mg:Str->Option Value) (fa:Addr) (h:Heap),(K w.params).In h->h.Ns mainGlobals mg->mg d.name=some (.ref fa)->
   ∃fd:FuncData,(∀(s:Shared) (u:Value),BindsTo s fd ⟨[u],[]⟩ [(x,u)])/\
    ∀base:Heap,(K w.params).In base->base.Ns mainGlobals mg->gJ l.prog w (K w.params) mg base CX k fa fd [x] (sp (K w.params)))
  (Q8:∀(w:World) (H:Hp) (a:Addr) (ns: ~~~0),ns.length<=n->uO T H->cF (K w.params) H a (ns.map V.int)->sp (K w.params) [.ref a] H (λv _=>v=.bl true) λ_ _ _=>False)
  (YQ:∀(H:Hp) (s:Shared) (e:Value) (s':Shared),CX [] H s (λ_ _ _=>False) e s'->False) :
  PySem.W.WalkO q loose XP YP l.row.toRowW d [] (λf vs=>PySem.call f vs):=by
 refine Z0.qh hn fS λw s₀ s₁ mg mb fa o pm cd doc a vs ns G qqz ho hd cB hmg hobj hints aQ hg=>?_
 have KX:=hY w _ qqz;obtain⟨fd,hb,hF⟩:=F w mg fa _ KX G.T.g hmg;exact wR KX (hT w _ qqz) G.T.g G.T.b G.T.builtins G.T.nolimit hg hobj hints (eM aQ hn2) hr hF hb (λH hO hS=>Q8 w H a ns aQ hO hS) λH e s'=>YQ H s₁ e s'
noncomputable def ZL(K:Frag)(C:Addr):Bool:=["int", "bool", "str", "tuple", "list", "dict"].all λn=>decide (PySem.W.kitOne K (.ref C) (.type n)=some false)
theorem QS{K:Frag}{C:Addr}(h1:PySem.W.findIn K (.ref C) "__getattribute__"=some (some (.builtin "BaseException.__getattribute__")))(h8:PySem.W.findIn K (.ref C) "__getattr__"=some none)(h9:PySem.W.mroIn K C (.type "BaseException")=some true)(h2:PySem.W.hasDictIn K C=true)(h3:PySem.W.findIn K (.ref C) "__class__"=some (some (.builtin "object.__class__")))(h4:PySem.W.specialIn K (.builtin "object.__class__") "__get__"=some (some (.builtin "getset_descriptor.__get__")))(h5:PySem.W.takesIn K (.builtin "object.__class__")=some true)(h6:PySem.W.mroIn K C (.type "object")=some true)(h7:ZL K C=true):Dq K C:=
 ⟨h1,h8,h9,h2,h3,h4,h5,h6,λn hn=>mE (i5.mp h7 n hn)⟩
noncomputable def d7(K:Frag)(cv:Value)(l:List (Addr×Bool)):Bool:=decide (PySem.W.kitOne K (.type "NoneType") cv=some false)&&l.all λp=>decide (PySem.W.kitOne K (.ref p.1) cv=some p.2)
theorem bw{P:Pg}{K:Frag}{mg:Str->Option Value}{h:Heap}{x:Str}{l:List (Addr×Bool)}{D:Addr}(X:K.In h)(G:h.Ns mainGlobals mg)(e1:(x==(~~~3))=false)(e2:PySem.W.nsIn K mainGlobals x=some (some (.ref D)))(e3:d7 K (.ref D) l=true) :
  (x==(~~~3))=false/\∃cv,((mg x=some cv/\∃D,cv=.ref D)\/(x∈P.bn/\x≠ "__name__" /\bootBuiltins x=some cv/\∃n,cv=.type n))/\PySem.W.kitOne K (.type "NoneType") cv=some false/\∀C b,l.lookup C=some b->PySem.W.kitOne K (.ref C) cv=some b:=by
 unfold d7 at e3;rw[eQ]at e3;exact⟨e1,.ref D,.inl ⟨BF X G e2,D,rfl⟩,mE e3.1,λC b hl=>mE (i5.mp e3.2 _ (lookup_mem hl))⟩
theorem CP{P:Pg}{K:Frag}{mg:Str->Option Value}{x:Str}{l:List (Addr×Bool)}{n:String}(e1:(x==(~~~3))=false)(e2:x∈P.bn)(e4:x≠ "__name__")(e5:bootBuiltins x=some (.type n))(e3:d7 K (.type n) l=true) :
  (x==(~~~3))=false/\∃cv,((mg x=some cv/\∃D,cv=.ref D)\/(x∈P.bn/\x≠ "__name__" /\bootBuiltins x=some cv/\∃n,cv=.type n))/\PySem.W.kitOne K (.type "NoneType") cv=some false/\∀C b,l.lookup C=some b->PySem.W.kitOne K (.ref C) cv=some b:=by
 unfold d7 at e3;rw[eQ]at e3;exact⟨e1,.type n,.inr ⟨e2,e4,e5,n,rfl⟩,mE e3.1,λC b hl=>mE (i5.mp e3.2 _ (lookup_mem hl))⟩
theorem Wc{P:Pg}{K:Frag}{mg:Str->Option Value}(h1:All (λn=>∀bh,PySem.W.codeIn K bh n=true->Aj K mg n bh) gG)(h2:All (λp:Str×Addr=>mg p.1=some (.ref p.2)/\dz K p.2/\Dq K p.2) (P.cls.zip P.jy))(hl:P.jy.length<=P.cls.length)
  (h3:(P.kt==(~~~3))=false/\∃D,mg P.kt=some (.ref D)/\dz K D/\All (λC=>qK K C D=true) P.jy)
  (h4:All (λp:Str×List (Addr×Bool)=>(p.1==(~~~3))=false/\∃cv,((mg p.1=some cv/\∃D,cv=.ref D)\/(p.1∈P.bn/\p.1≠ "__name__" /\bootBuiltins p.1=some cv/\∃n,cv=.type n))/\PySem.W.kitOne K (.type "NoneType") cv=some false/\∀C b,p.2.lookup C=some b->PySem.W.kitOne K (.ref C) cv=some b) P.ups):PB P K mg:=
 ⟨λ_ n hn=>h1.mem n hn,λi C e=>by
  have hi:=(a9.mp e).1;have hi2:i<P.cls.length:=by lia
  refine⟨P.cls[i],kA hi2,?_⟩;have:=h2.mem (P.cls[i],C) (fA (by rw[List.getElem?_zip_eq_some];exact⟨kA hi2,e⟩))
  exact this,λ_=>let ⟨a,D,b,c,d⟩:=h3;⟨a,D,b,c,λC hC=>d.mem C hC⟩,λx l h=>h4.mem (x,l) h⟩
end Ev
namespace aY
open L2 Ev
def f0:Fi:=eX (st 18)
def f1:Fi:=eX (st 19)
def f2:Fi:=eX (st 23)
def f3:Fi:=eX (st 24)
def f4:Fi:=eX (st 25)
def f5:Fi:=eX (st 26)
def f6:Fi:=eX (st 27)
def f7:Fi:=eX (st 28)
def f8:Fi:=eX (st 30)
def f9:Fi:=eX (st 31)
def f10:Fi:=eX (st 32)
def f11:Fi:=eX (st 33)
def f12:Fi:=eX (st 34)
def f13:Fi:=eX (st 35)
def f14:Fi:=eX (st 36)
def f15:Fi:=eX (st 37)
def f16:Fi:=eX (st 38)
def f17:Fi:=eX (st 39)
def RB:Fi:=eX (st 40)
noncomputable def ups:List (Str×List (Addr×Bool)):=[("NoWeb",[(109,false)]),("NoNumber",[(109,false)]),("NoTurn",[(109,false)]),("NoKind",[(109,false)]),("NoPlace",[(109,false)]),("NoTie",[(109,false)]),("NoNumbers",[(109,true)]),("NoTree",[(109,false)]),("NoCode",[(109,false)]),("NoCounts",[(109,false)]),("NoMarks",[(109,false)]),("NoText",[(109,false)]),("NoLine",[(109,false)]),("NoDeed",[(109,false)]),("TooGreat",[(109,false)]),("ValueError",[(109,true)])]
def P:Pg:=⟨[f0,f1,f2,f3,f4,f5,f6,f7,f8,f9,f10,f11,f12,f13,f14,f15,f16,f17,RB],[("MOST_NUMBERS",.int 9),("MOST_KINDS",.int 9999999999)],["ValueError", "all", "bool", "enumerate", "int", "isinstance", "len", "list", "max", "min", "range", "sorted", "tuple", "zip"],["NoNumbers"],true,[109], "KindError",ups⟩
theorem QT:Ie P P.fn fns=true:=by decide +kernel
theorem fns_eq:List.zipWith (uY P) P.fn fns=P.fn.map (λfi=>aU fi.st):=by kernel_rfl
theorem ZM:RB.N.length=7:=rfl
theorem ZN:∀ns:List Int,ns.length<=63->∃g',(run fns fuel).b [] kk Rz.body (bN RB.N.length [.dat (.fix (ns.map .int))])=some (.rt (.dat (.bl true)),g'):=by rw[ZM];exact hev
theorem iX(P:Params):bS (K P)=[(nat_lit 329,j8 "_law_right"),(nat_lit 336,j8 "law")]:=by kernel_rfl
theorem CQ(P:Params):([329,336].all λq=>((K P).lookup q).isNone)=true:=by kernel_rfl
theorem CT(P:Params):([329,336].all λq=>[333,338].any λc=>codeOk (K P) c q)=true:=by kernel_rfl
theorem CV(P:Params):codeOk (K P) (nat_lit 333) (nat_lit 329)=true:=by kernel_rfl
theorem CW(P:Params):ud (K P) "_law_right" (nat_lit 333)=true:=by kernel_rfl
theorem QV(P:Params):J5 (K P) (nat_lit 4) (nat_lit 329)=true:=by kernel_rfl
theorem CZ(P:Params):codeOk (K P) (nat_lit 338) (nat_lit 336)=true:=by kernel_rfl
theorem Dc(P:Params):ud (K P) "law" (nat_lit 338)=true:=by kernel_rfl
theorem QW(P:Params):J5 (K P) (nat_lit 4) (nat_lit 336)=true:=by kernel_rfl
theorem pL(P:Params):Dq (K P) (nat_lit 109):=QS (by kernel_rfl) (by kernel_rfl) (by kernel_rfl) (by kernel_rfl) (by kernel_rfl) (by kernel_rfl) (by kernel_rfl) (by kernel_rfl) (by kernel_rfl)
theorem iY(P:Params):dz (K P) (nat_lit 109):=by kernel_rfl
theorem pM(P:Params):qK (K P) (nat_lit 109) (nat_lit 24)=true:=by kernel_rfl
theorem pN(P:Params):dz (K P) (nat_lit 24):=by kernel_rfl
theorem Dd(P:Params):d7 (K P) (.ref (nat_lit 37)) [(109,false)]=true:=by kernel_rfl
theorem rR(P:Params):d7 (K P) (.ref (nat_lit 49)) [(109,false)]=true:=by kernel_rfl
theorem xS(P:Params):d7 (K P) (.ref (nat_lit 61)) [(109,false)]=true:=by kernel_rfl
theorem xT(P:Params):d7 (K P) (.ref (nat_lit 73)) [(109,false)]=true:=by kernel_rfl
theorem uf(P:Params):d7 (K P) (.ref (nat_lit 85)) [(109,false)]=true:=by kernel_rfl
theorem De(P:Params):d7 (K P) (.ref (nat_lit 97)) [(109,false)]=true:=by kernel_rfl
theorem pO(P:Params):d7 (K P) (.ref (nat_lit 109)) [(109,true)]=true:=by kernel_rfl
theorem xU(P:Params):d7 (K P) (.ref (nat_lit 121)) [(109,false)]=true:=by kernel_rfl
theorem xV(P:Params):d7 (K P) (.ref (nat_lit 133)) [(109,false)]=true:=by kernel_rfl
theorem rS(P:Params):d7 (K P) (.ref (nat_lit 145)) [(109,false)]=true:=by kernel_rfl
theorem ug(P:Params):d7 (K P) (.ref (nat_lit 157)) [(109,false)]=true:=by kernel_rfl
theorem xX(P:Params):d7 (K P) (.ref (nat_lit 169)) [(109,false)]=true:=by kernel_rfl
theorem xY(P:Params):d7 (K P) (.ref (nat_lit 181)) [(109,false)]=true:=by kernel_rfl
theorem xZ(P:Params):d7 (K P) (.ref (nat_lit 193)) [(109,false)]=true:=by kernel_rfl
theorem rT(P:Params):d7 (K P) (.ref (nat_lit 212)) [(109,false)]=true:=by kernel_rfl
theorem mH(P:Params):d7 (K P) (.type "ValueError") [(109,true)]=true:=by kernel_rfl
end aY
open PySem PySem.W PyProof.Rows
set_option maxHeartbeats 0 in
theorem PySem.Challenge.cw_websbykind_k41_lots_gathered_and_parted_holds : PySem.Challenge.rw_websbykind_k41_lots_gathered_and_parted.Holds := by
 w_on
 refine PySem.W.holds_law (by decide +kernel) λsaid=>?_
 refine PySem.W.holds_open (q:=aY.qv) (loose:=[]) (Xt:=λs=>xlAt aY.qv [] s&&recOk (OpenRow.toRowW PySem.Challenge.rw_websbykind_k41_lots_gathered_and_parted.row).records s) (XP:=XL aY.qv []) (Yf:=λs=>aY.as2.map s.heap.get?) (Ya:=λw=>(Ev.mJ [329,336] aY.K w.params).map λp:Nat×Obj=>some p.2) (YP:=InK (Ev.mJ [329,336] aY.K)) (N:=8000) aY.hl (InK.of aY.RD) InK.keeps (λs e=>xl_of s (Bool.and_eq_true_iff.mp e).1) XL.keeps (by rfl) (by rfl) (by rfl) (λs e=>recFacts_of (Bool.and_eq_true_iff.mp e).2) (by rfl) (by first |assumption |decide +kernel) (by decide +kernel) ⟨rfl,rfl,rfl,rfl,rfl,by decide +kernel⟩ ?hw ?hc
 (case hw=>w_witness2)
 k_fill
 refine Ev.CN (l:=PySem.Challenge.rw_websbykind_k41_lots_gathered_and_parted) (n:=63) (k:=aY.kk+1) (x:= "_law_script") (CX:=L2.sH) (K:=aY.K) (T:=[329,336]) (sp:=λK=>Ev.Ko K aY.RB.N 1 λbor g r g'=>(Ev.run aY.fns aY.fuel).b bor aY.kk aY.Rz.body g=some (.rt r,g')) rfl ⋯ rfl ⟨rfl,by decide,by decide⟩ (λw h qqz=>Ev.rQ (aY.CQ _) qqz) (λw h qqz=>Ev.xR (aY.CQ _) (aY.CT _) qqz) ?F ?S ?C
 case F=>
  intro w mg fa h KX G hmg
  have mm:Ev.cZ (L2.KOf KX) mg aY.f0/\Ev.cZ (L2.KOf KX) mg aY.f1/\Ev.cZ (L2.KOf KX) mg aY.f2/\Ev.cZ (L2.KOf KX) mg aY.f3/\Ev.cZ (L2.KOf KX) mg aY.f4/\Ev.cZ (L2.KOf KX) mg aY.f5/\Ev.cZ (L2.KOf KX) mg aY.f6/\Ev.cZ (L2.KOf KX) mg aY.f7/\Ev.cZ (L2.KOf KX) mg aY.f8/\Ev.cZ (L2.KOf KX) mg aY.f9/\Ev.cZ (L2.KOf KX) mg aY.f10/\Ev.cZ (L2.KOf KX) mg aY.f11/\Ev.cZ (L2.KOf KX) mg aY.f12/\Ev.cZ (L2.KOf KX) mg aY.f13/\Ev.cZ (L2.KOf KX) mg aY.f14/\Ev.cZ (L2.KOf KX) mg aY.f15/\Ev.cZ (L2.KOf KX) mg aY.f16/\Ev.cZ (L2.KOf KX) mg aY.f17/\Ev.cZ (L2.KOf KX) mg aY.RB:=by
   refine⟨?_,?_,?_,?_,?_,?_,?_,?_,?_,?_,?_,?_,?_,?_,?_,?_,?_,?_,?_⟩ <;> (
    dsimp only[L2.KOf]
    exact Ev.Vh (by assumption) (by assumption) (by k_is) (by k_is) (by k_is) (by k_is) ⟨rfl,rfl,rfl,by decide +kernel,by decide +kernel,by decide +kernel,by decide +kernel⟩ (λ_ _ _ _ _ _ us hl=>by first | (obtain⟨_,e⟩:=Ev.Vj hl;subst e;rfl) | (obtain⟨_,_,e⟩:=Ev.Vk hl;subst e;rfl) | (obtain⟨_,_,_,e⟩:=Ev.Zq hl;subst e;rfl) | (obtain⟨_,_,_,_,e⟩:=Ev.len4 hl;subst e;rfl)) ⋯)
  obtain⟨m0,m1,m2,m3,m4,m5,m6,m7,m8,m9,m10,m11,m12,m13,m14,m15,m16,m17,m18⟩:=mm
  have lM:Ev.Ic (L2.KOf KX) mg ("MOST_NUMBERS",.int 9):=by
   dsimp only[L2.KOf]
   refine' Ev.Bo KX G ?a ⋯
   (case a=>k_is)
  have pP:Ev.Ic (L2.KOf KX) mg ("MOST_KINDS",.int 9999999999):=by
   dsimp only[L2.KOf]
   refine' Ev.Bo KX G ?a ⋯
   (case a=>k_is)
  have pQ:mg "ValueError"=none:=mg_none_of KX G (by k_is)
  have Wd:mg "all"=none:=mg_none_of KX G (by k_is)
  have QX:mg "bool"=none:=mg_none_of KX G (by k_is)
  have rW:mg "enumerate"=none:=mg_none_of KX G (by k_is)
  have Wf:mg "int"=none:=mg_none_of KX G (by k_is)
  have pR:mg "isinstance"=none:=mg_none_of KX G (by k_is)
  have Wg:mg "len"=none:=mg_none_of KX G (by k_is)
  have QZ:mg "list"=none:=mg_none_of KX G (by k_is)
  have Wh:mg "max"=none:=mg_none_of KX G (by k_is)
  have Wi:mg "min"=none:=mg_none_of KX G (by k_is)
  have J6:mg "range"=none:=mg_none_of KX G (by k_is)
  have Df:mg "sorted"=none:=mg_none_of KX G (by k_is)
  have J7:mg "tuple"=none:=mg_none_of KX G (by k_is)
  have Wj:mg "zip"=none:=mg_none_of KX G (by k_is)
  have fP:PySem.W.nsIn (L2.KOf KX) mainGlobals "NoNumbers"=some (some (.ref 109)):=by dsimp only[L2.KOf];k_is
  have rX:PySem.W.nsIn (L2.KOf KX) mainGlobals "KindError"=some (some (.ref 24)):=by dsimp only[L2.KOf];k_is
  have J8:PySem.W.nsIn (L2.KOf KX) mainGlobals "NoWeb"=some (some (.ref 37)):=by dsimp only[L2.KOf];k_is
  have uh:PySem.W.nsIn (L2.KOf KX) mainGlobals "NoNumber"=some (some (.ref 49)):=by dsimp only[L2.KOf];k_is
  have Dg:PySem.W.nsIn (L2.KOf KX) mainGlobals "NoTurn"=some (some (.ref 61)):=by dsimp only[L2.KOf];k_is
  have Dh:PySem.W.nsIn (L2.KOf KX) mainGlobals "NoKind"=some (some (.ref 73)):=by dsimp only[L2.KOf];k_is
  have x6:PySem.W.nsIn (L2.KOf KX) mainGlobals "NoPlace"=some (some (.ref 85)):=by dsimp only[L2.KOf];k_is
  have J9:PySem.W.nsIn (L2.KOf KX) mainGlobals "NoTie"=some (some (.ref 97)):=by dsimp only[L2.KOf];k_is
  have Di:PySem.W.nsIn (L2.KOf KX) mainGlobals "NoTree"=some (some (.ref 121)):=by dsimp only[L2.KOf];k_is
  have Dj:PySem.W.nsIn (L2.KOf KX) mainGlobals "NoCode"=some (some (.ref 133)):=by dsimp only[L2.KOf];k_is
  have um:PySem.W.nsIn (L2.KOf KX) mainGlobals "NoCounts"=some (some (.ref 145)):=by dsimp only[L2.KOf];k_is
  have x8:PySem.W.nsIn (L2.KOf KX) mainGlobals "NoMarks"=some (some (.ref 157)):=by dsimp only[L2.KOf];k_is
  have Dk:PySem.W.nsIn (L2.KOf KX) mainGlobals "NoText"=some (some (.ref 169)):=by dsimp only[L2.KOf];k_is
  have Dl:PySem.W.nsIn (L2.KOf KX) mainGlobals "NoLine"=some (some (.ref 181)):=by dsimp only[L2.KOf];k_is
  have Dm:PySem.W.nsIn (L2.KOf KX) mainGlobals "NoDeed"=some (some (.ref 193)):=by dsimp only[L2.KOf];k_is
  have uo:PySem.W.nsIn (L2.KOf KX) mainGlobals "TooGreat"=some (some (.ref 212)):=by dsimp only[L2.KOf];k_is
  have n_b:PySem.W.nsIn (L2.KOf KX) mainGlobals "__builtins__"=some (some (.ref 4)):=by dsimp only[L2.KOf];k_is
  have lm:Ev.PB aY.P (L2.KOf KX) mg:=Ev.Wc (.cons (Ev.CK (n:= "law") (q:=nat_lit 336) KX G (aY.Dc _) (aY.CZ _) (by rw[aY.iX];decide) (by rw[aY.iX];decide) n_b (aY.QW _) ⋯) (.cons (Ev.CK (n:= "_law_right") (q:=nat_lit 329) KX G (aY.CW _) (aY.CV _) (by rw[aY.iX];decide) (by rw[aY.iX];decide) n_b (aY.QV _) ⋯) .nil)) (.cons ⟨mg_of KX G fP,aY.iY _,aY.pL _⟩ .nil) ⋯ ⟨by decide,24,mg_of KX G rX,aY.pN _,(.cons (aY.pM _) .nil)⟩ (.cons (Ev.bw KX G ⋯ J8 (aY.Dd _)) (.cons (Ev.bw KX G ⋯ uh (aY.rR _)) (.cons (Ev.bw KX G ⋯ Dg (aY.xS _)) (.cons (Ev.bw KX G ⋯ Dh (aY.xT _)) (.cons (Ev.bw KX G ⋯ x6 (aY.uf _)) (.cons (Ev.bw KX G ⋯ J9 (aY.De _)) (.cons (Ev.bw KX G ⋯ fP (aY.pO _)) (.cons (Ev.bw KX G ⋯ Di (aY.xU _)) (.cons (Ev.bw KX G ⋯ Dj (aY.xV _)) (.cons (Ev.bw KX G ⋯ um (aY.rS _)) (.cons (Ev.bw KX G ⋯ x8 (aY.ug _)) (.cons (Ev.bw KX G ⋯ Dk (aY.xX _)) (.cons (Ev.bw KX G ⋯ Dl (aY.xY _)) (.cons (Ev.bw KX G ⋯ Dm (aY.xZ _)) (.cons (Ev.bw KX G ⋯ uo (aY.rT _)) (.cons (Ev.CP ⋯ ⋯ ⋯ rfl (aY.mH _)) .nil))))))))))))))))
  have md:Ev.oZ aY.P (L2.KOf KX) mg:=Ev.Vg (.cons m0 (.cons m1 (.cons m2 (.cons m3 (.cons m4 (.cons m5 (.cons m6 (.cons m7 (.cons m8 (.cons m9 (.cons m10 (.cons m11 (.cons m12 (.cons m13 (.cons m14 (.cons m15 (.cons m16 (.cons m17 (.cons m18 .nil))))))))))))))))))) (.cons lM (.cons pP .nil)) (.cons pQ (.cons Wd (.cons QX (.cons rW (.cons Wf (.cons pR (.cons Wg (.cons QZ (.cons Wh (.cons Wi (.cons J6 (.cons Df (.cons J7 (.cons Wj .nil)))))))))))))) (.cons (Ev.Vi KX G fP (aY.iY _) ⋯) .nil) lm
  exact Ev.Bp (Ev.PN aY.QT aY.fns_eq) md (i:=18) (fi:=aY.RB) rfl rfl rfl m18 hmg
 case S=>exact λw H a ns hl hO hS=>Ev.PK aY.ZN (aY.K w.params) H a ns hl (by rw[aY.iX];exact hO) hS
 case C=>exact λ_ _ _ _ z=>z
