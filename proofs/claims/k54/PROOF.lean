import PyProof.Rows.All
import Wide.All
import OpenK.AllK
import Wide.FinOn
import Lean
import PyProof.EqAt
import PyProof.EqKinds
import PyProof.TupleCall
import PySem.Challenge.RW_websbykind_k54_codes_and_trees_counted
set_option Elab.async false
set_option linter.all false
set_option compiler.extract_closed false
set_option bootstrap.genMatcherCode false
set_option genSizeOf false
set_option maxHeartbeats 4000000
set_option maxRecDepth 100000
set_option autoImplicit true
open PySem PySem.Spec PyProof.Rows
open PySem.W (Frag)
noncomputable section
local macro_rules|`(!$x)=>`(some $x)
local macro_rules|`(#[$x,*])=>`(⟨$x,*⟩)
local macro_rules | `(⋯)=>`(by first |decide |lia |simp)
local macro_rules | `($x⁻¹)=>`(($x).heap.objs.size)
local macro_rules|`(⇑$x)=>`((.slot $x))
local macro_rules|`(↥$x)=>`((.val (.int $x)))
local macro_rules|`(‹$x›)=>`((.dat (.int $x)))
set_option hygiene false in
local macro_rules|`(~~~5)=>`(List (List Int))
local macro_rules|`(~~~0)=>`(List Int)
set_option hygiene false in
local macro_rules|`(~~~1)=>`(List (Addr×Obj))
set_option hygiene false in
local macro_rules|`(~~~2)=>`(model X.prog X.w)
local macro_rules|`(~~~3)=>`(("__debug__":Str))
set_option hygiene false in
local macro_rules|`(~~~7)=>`(Inv X aj σ H s)
set_option hygiene false in
local macro_rules|`(tactic|symm)=>`(tactic|cases h)
abbrev aS:=@PySem.wpAny_bind
abbrev a7:=@PySem.Heap.get?_push_of_some
abbrev a8:=@List.mem_cons_of_mem
abbrev a9:=@List.getD_eq_getElem?_getD
abbrev bP:=@List.mem_cons_self
abbrev dA:=@List.mem_cons
abbrev dC:=@PySem.Heap.get?_push_size
abbrev dE:=@List.length_map
abbrev dL:=@PySem.wpAny_pure
abbrev eA:=@Nat.le_refl
abbrev eD:=@List.getElem?_append_right
abbrev eJ:=@List.getElem?_eq_some_iff
abbrev eP:=@List.size_toArray
abbrev eQ:=@List.length_append
abbrev fA:=@List.mem_singleton
abbrev fI:=@PySem.Heap.lt_size
abbrev fN:=@List.getElem?_append_left
abbrev fR:=@Array.length_toList
abbrev gL:=@Bool.and_eq_true
abbrev gN:=@List.getElem?_set_ne
abbrev hU:=@of_decide_eq_true
abbrev hV:=@List.mem_append_right
abbrev i4:=@Nat.lt_of_lt_of_le
abbrev i5:=@Option.bind_eq_some_iff
abbrev i6:=@Nat.ne_of_lt
abbrev i7:=@PyProof.Rows.wpS_bind
abbrev i8:=@PyProof.Rows.wpS_pure
abbrev i9:=@List.mem_map
abbrev kA:=@List.mem_append
abbrev kS:=@List.append_assoc
abbrev lL:=@List.nodup_cons
abbrev lS:=@PySem.Heap.get?_update_other
abbrev mB:=@List.getElem?_eq_getElem
abbrev mE:=@List.all_eq_true
abbrev mI:=@List.mem_filter
abbrev mM:=@List.length_take
abbrev mP:=@List.mem_append_left
abbrev nE:=@List.getElem?_set_self
abbrev nK:=@List.length_cons
abbrev nN:=@List.not_mem_nil
abbrev nS:=@List.take_append_drop
abbrev nV:=@List.Perm.refl
abbrev oC:=@List.getElem?_map
abbrev oD:=@List.pairwise_append
abbrev oI:=@Nat.le_trans
abbrev oP:=@PySem.Heap.get?_update_self
abbrev oQ:=@PySem.Heap.size_push
abbrev o6:=@Nat.add_sub_cancel_left
abbrev pE:=@List.mem_of_getElem?
abbrev pV:=@List.append_nil
abbrev qS:=@PySem.wpAny_mono
abbrev rV:=@PySem.Obj.data_mapFields
abbrev r6:=@List.getElem_of_mem
abbrev sB:=@PySem.wpAny_holding
abbrev sK:=@if_neg
abbrev sR:=@Nat.zero_le
abbrev sT:=@PySem.Heap.SameBut.update
abbrev tJ:=@if_pos
abbrev tP:=@List.length_replicate
abbrev tS:=@Array.getElem?_toList
abbrev t0:=@Array.map_push
abbrev t5:=@decide_eq_true_eq
abbrev t6:=@List.take_of_length_le
abbrev t7:=@PySem.sizeLine_eq
abbrev t8:=@PySem.wpAny_truthy_bool
abbrev t9:=@Nat.lt_succ_self
abbrev u4:=@PySem.wpAny_setState_of
abbrev u7:=@decide_eq_false
abbrev u8:=@List.pairwise_singleton
abbrev v0:=@Nat.lt_of_lt_of_eq
abbrev wE:=@PySem.wpAny_call_entry
abbrev wP:=@Ne.symm
abbrev wS:=@Option.some.inj
abbrev wT:=@PySem.wpAny_newObj_type
abbrev w8:=@List.mem_range
abbrev w9:=@decide_eq_true
abbrev xI:=@Nat.zero_add
abbrev xL:=@PySem.Obj.isFreed_of_fields
abbrev yA:=@Nat.lt_irrefl
abbrev yB:=@List.mem_map_of_mem
abbrev yY:=@PySem.wpAny_callSpecial?_slot
abbrev y6:=@List.take_append_of_le_length
abbrev y7:=@List.pairwise_cons
abbrev y8:=@Nat.lt_of_le_of_lt
abbrev An:=@PyProof.Rows.callWith_type1
abbrev Ap:=@PySem.wpAny_field
abbrev At:=@List.lookup_cons
abbrev AA:=@List.nodup_nil
abbrev AB:=@PySem.wpAny_seqItems
abbrev AD:=@Nat.lt_succ_of_lt
abbrev AE:=@Nat.le_of_succ_le
abbrev AF:=@PySem.wpAny_pyIter_tuple
abbrev AG:=@PySem.wpAny_Call_Name_kw
abbrev AH:=@Option.map_eq_some_iff
abbrev AI:=@List.drop_eq_getElem_cons
abbrev AJ:=@PySem.codeAny_builtin
abbrev AK:=@PySem.wpAny_setField
abbrev AL:=@List.map_congr_left
abbrev AM:=@List.getElem?_eq_none
abbrev AO:=@PySem.W.kia_one
abbrev AQ:=@List.take_succ_eq_append_getElem
abbrev AR:=@PySem.wpAny_pyIter_list
abbrev AS:=@Int.toNat_natCast
abbrev AT:=@List.getElem?_eq_none_iff
abbrev AU:=@Nat.le_of_lt
abbrev AV:=@Nat.ne_of_gt
abbrev AW:=@List.map_append
abbrev AX:=@Nat.lt_or_ge
abbrev AY:=@List.nodup_append
abbrev AZ:=@Bool.not_eq_true'
abbrev A4:=@List.filterMap_cons
abbrev A5:=@List.replicate_succ
abbrev A6:=@Nat.min_eq_left
abbrev A7:=@List.length_reverse
abbrev A8:=@or_false
abbrev A9:=@Array.getElem?_eq_some_iff
abbrev Bi:=@Array.perm_iff_toList_perm
abbrev Bn:=@PySem.F.slot_tuple_iterator_next
abbrev Bz:=@List.length_drop
abbrev BA:=@List.getElem_mem
abbrev BB:=@Bool.false_ne_true
abbrev BC:=@List.mem_replicate
abbrev BD:=@PySem.wpAny_attempt
abbrev BE:=@List.perm_append_comm
abbrev BF:=@Nat.succ_pos
abbrev BH:=@PySem.wpAny_setField_rec
abbrev BI:=@Nat.le_succ
abbrev BM:=@List.getElem?_take_of_lt
abbrev BN:=@List.length_set
abbrev BO:=@List.flatten_cons
abbrev BQ:=@Nat.not_lt_zero
abbrev BS:=@PySem.wpAny_rule
abbrev BU:=@List.length_range
abbrev BY:=@PySem.mem_of_lookup
abbrev B0:=@PySem.plainId_quiet
abbrev B4:=@PySem.wpAny_isInstance
abbrev B5:=@PySem.wpAny_askSetting
abbrev B6:=@Nat.lt_of_succ_lt_succ
abbrev B7:=@List.drop_of_length_le
abbrev B8:=@PySem.codeAny_mono
abbrev B9:=@List.nil_append
abbrev Cc:=@List.set_append_right
abbrev Cf:=@Bool.or_eq_true
abbrev Cn:=@List.contains_iff_mem
abbrev Co:=@List.length_filter_le
abbrev Cs:=@List.ext_getElem?
abbrev CA:=@PySem.Obj.cls_mapFields
abbrev CB:=@Nat.sub_le
abbrev CC:=@Nat.le_of_lt_succ
abbrev CD:=@Array.toList_push
abbrev CF:=@List.mem_of_mem_drop
abbrev CH:=@PySem.Calls.call_function_entry
abbrev CI:=@List.pairwise_iff_getElem
abbrev CL:=@Array.size_map
abbrev CM:=@List.getElem?_zip_eq_some
abbrev CO:=@Decidable.byContradiction
abbrev CS:=@Classical.byContradiction
abbrev CU:=@PySem.wpAny_execs_cons
abbrev CY:=@Array.toList_append
abbrev C0:=@PySem.F.args_tuple_add_2
abbrev C4:=@Nat.succ.inj
abbrev C5:=@beq_iff_eq
abbrev C6:=@PyProof.Rows.wpS_modify
abbrev C7:=@List.mem_filterMap
abbrev C8:=@PySem.wpAny_passesOwn
abbrev C9:=@PySem.W.callWith_K
abbrev Db:=@PySem.F.entry_tuple_add
abbrev Do:=@Bool.eq_iff_iff
abbrev Dx:=@PySem.wpAny_newList
abbrev DA:=@Nat.lt_of_le_of_ne
abbrev DB:=@Bool.false_eq_true
abbrev DC:=@Nat.add_sub_cancel
abbrev DD:=@PySem.wpAny_updateSeq
abbrev DF:=@PySem.W.cellsFrom_some
abbrev DH:=@PySem.F.slot_tuple_add
abbrev DJ:=@List.range_succ_eq_map
abbrev DL:=@List.drop_eq_nil_of_le
abbrev DM:=@PySem.wpAny_call
abbrev DO:=@List.reverse_cons
abbrev DU:=@PySem.W.kitx_list
abbrev DV:=@PySem.W.kitx_dict
abbrev DZ:=@Array.map_extract
abbrev D3:=@List.reverse_perm
abbrev D4:=@PySem.wpAny_of_eq
abbrev D5:=@PySem.wpAny_letGo
abbrev D6:=@Nat.sub_self
abbrev D7:=@List.pairwise_reverse
abbrev D8:=@List.take_length
abbrev D9:=@Array.map_append
abbrev Ee:=@List.take_append
abbrev EA:=@List.mem_toArray
abbrev EB:=@PySem.F.plain_min_loop
abbrev ED:=@List.mem_of_mem_take
abbrev EH:=@PySem.wpAny_onRaise
abbrev EI:=@PySem.W.mg_of
abbrev EJ:=@List.of_mem_zip
abbrev EK:=@Option.map_some
abbrev EL:=@Nat.le_antisymm
abbrev EM:=@List.Perm.of_eq
abbrev EN:=@Nat.add_left_cancel
abbrev EQ:=@Bool.and_false
abbrev EU:=@PySem.wpAny_Name
abbrev EV:=@PySem.Walks.list
abbrev EW:=@Array.ext'
theorem nt{p:Prop}(h:false=true):p:=Bool.noConfusion h
namespace L2
def gi(s:Stmt):Arguments:=match s with
 |.FunctionDef _ a _ _ _ _ _ _ _ _=>a
 |_=>{ posonlyargs:=[],args:=[],vararg:=none,kwonlyargs:=[],kw_defaults:=[],kwarg:=none,defaults:=[]}
def bq(s:Stmt):List Stmt:=match s with
 |.FunctionDef _ _ b _ _ _ _ _ _ _=>b
 |_=>[]
def aE(s:Stmt):Scope:=match s with
 |.FunctionDef _ _ _ _ _ _ sc _ _ _=>sc
 |_=>{ kind:=.function,names:=[],isGenerator:=false,isCoroutine:=false}
end L2
namespace Ev
open L2
noncomputable def oV(qs:List Addr)(K:Params->Frag)(P:Params):Frag:=qs.map (λq=>(q,{ cls:=.none,data:=.fields ([].toArray)}))++K P
section
open PySem.W
noncomputable def Jj(tb:String->Option Builtin)(p:Program)(w:World)(n₀:Nat)(ann:Option Value):Nat->SharedT->Thread->Option SharedT
 | 0,_,_=>none
 |n+1,s,t=>match through t with
  |true=>!s
  |false=>match stepOk n₀ ann t with
   |false=>none
   |true=>match stepT (denote tb) p w s t with
    |!(s',t')=>Jj tb p w n₀ ann n s' t'
    |none=>none
theorem xH:∀{n:Nat}{s s':SharedT}{t:Thread},Jj tb p w n₀ ann n s t=!s'->topRun tb p w n₀ ann n s.abs t=!s'.abs
 | 0,_,_,_,h=>by symm
 |n+1,s,s',t,h=>by
  unfold Jj at h;unfold topRun;cases he:through t with
  |true=>rw[he]at h;symm;rfl
  |false=>
   rw[he]at h;cases hk:stepOk n₀ ann t with
   |false=>rw[hk]at h;symm
   |true=>
    rw[hk]at h;cases hs:stepT (denote tb) p w s t with
    |none=>rw[hs]at h;symm
    |some r=>obtain⟨s₂,t₂⟩:=r;rw[hs]at h;rw[stepT_spec hs];exact xH h
noncomputable def Om:BT->Nat->List Obj->BT
 |t,_,[]=>t
 |t,n,o::os=>Om (t.ins n o) (n+1) os
noncomputable def Cw(P:Params):BT:=Om .nil 0 (boot_heap P).objs.toList
theorem Cy(P:Params):absHeap (Cw P) 11 (boot_heap P).life=boot_heap P:=by kernel_rfl
noncomputable abbrev AN (P:Params):Option Value:=(boot_heap P).nsMap mainGlobals "__annotations__"
theorem zu{p q:Program}{loose:List Str}{Xt:Shared->Bool}{α:Type}{Yf:Shared->α}{Ya:World->α}{N:Nat}{ann:Option Value}
  (e:opening p=plainProg p.main.scope.names) (hN:Nat.ble 600 N=true) (f:∀s,fenceModules? p s=!s) (ha:∀P,AN P=ann)
  (run:∀(w:World) (os:OsState),(Jj treeTable p w 11 ann N #[Cw w.params,11,(boot_heap w.params).life,([].toArray),boot_drawn,boot_toks,os] (topStub p)).map (λs=>
   (staticsOk (importedModules p.main.body) (boot_heap w.params) s.abs.heap&&namesBound p s.abs.heap&&gensDone s.abs&&laidKept (boot_heap w.params) s.abs.heap,openSeen q loose (importedModules p.main.body) Xt true s.abs,Yf s.abs))=!(true,openGood q loose,Ya w)):LeftO p q loose Xt Yf Ya N:=λw=>by
 obtain⟨⟨h,gs,d,k,os⟩,e1,e2⟩:=AH.mp (boot_open e hN f w);obtain⟨rfl,rfl,rfl,rfl⟩:h=boot_heap w.params/\gs=Array.mk []/\d=boot_drawn/\k=boot_toks:=by simpa using e2
 obtain⟨s,r1,r2⟩:=AH.mp (run w os);obtain⟨l1,l2,l3⟩:_/\_/\_:=by simpa only[Prod.mk.injEq]using r2
 have r:=xH r1;unfold openEnds;rw[e1];show (topFrom treeTable p w N _).map _=_;have z0:((boot_heap w.params).isNs mainGlobals&&(Array.mk []:Array GenState).size==0)=true:=by kernel_rfl
 have t:topFrom treeTable p w N #[boot_heap w.params,Array.mk [],boot_drawn,boot_toks,os]=!s.abs:=by
  unfold topFrom;dsimp only;rw[z0];have r':topRun treeTable p w (boot_heap w.params).objs.size ((boot_heap w.params).nsMap mainGlobals "__annotations__") N #[boot_heap w.params,Array.mk [],boot_drawn,boot_toks,os] (topStub p)=!s.abs:=by
   have:=ha w.params;unfold AN at this;rw[this];have z:SharedT.abs #[Cw w.params,11,(boot_heap w.params).life,([].toArray),boot_drawn,boot_toks,os]=#[boot_heap w.params,Array.mk [],boot_drawn,boot_toks,os]:=by unfold SharedT.abs;dsimp only;rw[Cy]
   rw[z]at r;exact r
  rw[r'];show (match staticsOk (importedModules p.main.body) (boot_heap w.params) s.abs.heap&&namesBound p s.abs.heap&&gensDone s.abs&&laidKept (boot_heap w.params) s.abs.heap with |true=>_ |false=>_)=_
  rw[l1]
 rw[t];exact congrArg some (Prod.ext l2 l3)
theorem W0(P:Params):AN P=!(.ref 6):=by kernel_rfl
end
end Ev
namespace cF
open L2 Ev
def st(j:Nat):Stmt:=PySem.Challenge.pw_websbykind_k54_codes_and_trees_counted.main.body.getD j (.Pass #[0,0,0,0])
noncomputable def de(P:Params)(s:Str)(t:Tok)(v:Value):DictEntry:=#[PyData.keyHash P s,.str s t,v]
noncomputable def co(vs:Array Value):Obj:=#[.type "code",none,.fields vs,([].toArray)]
noncomputable def fo(j:Nat)(n:Str)(kV doc pm:Value)(an:Option Addr)(bz ct:Value):Obj:=#[.type "function",none,.func (PySem.W.fnOf n n (gi (st j)) (bq (st j)) (aE (st j)) .none kV doc pm an bz ct),([].toArray)]
noncomputable def ce(n:Str)(b a s r t u:Nat):Obj:=#[.type "type",none,.cls #[n,[.ref b],[.ref a,.ref b,.type "ValueError",.type "Exception",.type "BaseException",.type "object"],s,n,true,[],[],false,none,false],([!(.ref r),none,!(.str n t),!(.str n u),!(.builtin "ValueError.__new__"),!(.bool true)].toArray)]
def cd(n:Str)(t l p r:Nat)(x y z:Value)(u:Nat):Obj:=co ([.str n t,.str n (t+1),.str "/claim/cut.py" (t+2),.int l 0,.int p 0,.int 0 0,.int 0 0,.int 3 0,.ref r,.bool true,.int 181 0,.ref (r+1),.none,x,y,z,.int u 0,.int l 0,.str "/claim/cut.py" (u+1)].toArray)
def fq(j:Nat)(n:Str)(m:Value)(c:Addr):Obj:=fo j n .none .none m none (.ref c) .none
def m0:Value:=.str "websbykind.whole" 458
def m1:Value:=.str "websbykind.hanging" 485
def m2:Value:=.str "websbykind.growing" 501
def m3:Value:=.str "law_websbykind_k54_codes_and_trees_counted" 529
def K(P:Params):Frag:=
 (nat_lit 3,#[.type "dict",none,.dict ([de P "__name__" 165 (.str "law_websbykind_k54_codes_and_trees_counted" 529),de P "__doc__" 166 (.none),de P "__package__" 167 (.none),de P "__loader__" 168 (.builtin "__main__.__loader__#opaque"),de P "__spec__" 169 (.none),de P "__annotations__" 170 (.ref 6),de P "__builtins__" 171 (.ref 4),de P "__file__" 173 (.str "/claim/cut.py" 172),de P "__cached__" 174 (.none),de P "KindError" 206 (.ref 24),de P "NoWeb" 222 (.ref 37),de P "NoNumber" 238 (.ref 49),de P "NoTurn" 254 (.ref 61),de P "NoKind" 270 (.ref 73),de P "NoPlace" 286 (.ref 85),de P "NoTie" 302 (.ref 97),de P "NoNumbers" 318 (.ref 109),de P "NoTree" 334 (.ref 121),de P "NoCode" 350 (.ref 133),de P "NoCounts" 366 (.ref 145),de P "NoMarks" 382 (.ref 157),de P "NoText" 398 (.ref 169),de P "NoLine" 414 (.ref 181),de P "NoDeed" 430 (.ref 193),de P "TooGreat" 457 (.ref 212),de P "is_whole" 466 (.ref 221),de P "is_within" 475 (.ref 228),de P "must_be_within" 484 (.ref 235),de P "with_pieces" 500 (.ref 242),de P "MOST_COUNTED" 504 (.int 20 503),de P "codes_many" 511 (.ref 249),de P "codes_by_places" 522 (.ref 256),de P "trees_many" 528 (.ref 261),de P "_law_cell_at" 538 (.ref 268),de P "_law_state" 547 (.ref 275),de P "_law_take" 557 (.ref 282),de P "_law_lots" 567 (.ref 289),de P "_law_gathered" 581 (.ref 296),de P "_law_codes_by" 590 (.ref 303),de P "_law_same" 596 (.ref 308),de P "_law_rows_of" 602 (.ref 313),de P "_law_codes" 608 (.ref 318),de P "_law_near" 614 (.ref 323),de P "_law_code" 620 (.ref 328),de P "_law_ways" 632 (.ref 335),de P "_law_middles" 638 (.ref 340),de P "_law_least_code" 644 (.ref 345),de P "_law_tree_of" 655 (.ref 352),de P "_law_refused" 661 (.ref 357),de P "_law_trees" 672 (.ref 364),de P "law" 678 (.ref 369)].toArray) 51,([].toArray)]) ::
 (nat_lit 4,#[.type "module",(!0),.plain,([].toArray)]) ::
 (nat_lit 24,#[.type "type",none,.cls #["KindError",[.type "ValueError"],[.ref 24,.type "ValueError",.type "Exception",.type "BaseException",.type "object"],23, "KindError",true,[],[.ref 37,.ref 49,.ref 61,.ref 73,.ref 85,.ref 97,.ref 109,.ref 121,.ref 133,.ref 145,.ref 157,.ref 169,.ref 181,.ref 193,.ref 212],false,none,false],([!(.ref 15),none,!(.str "KindError" 189),!(.str "KindError" 197),!(.builtin "ValueError.__new__"),!(.bool true)].toArray)]) ::
 (nat_lit 23,#[.type "dict",none,.dict ([de P "__module__" 196 (.str "websbykind.errors" 187),de P "__firstlineno__" 200 (.int 2 199),de P "__static_attributes__" 201 (.ref 22),de P "__weakref__" 203 (.ref 25),de P "__doc__" 204 (.none)].toArray) 3,([].toArray)]) ::
 (nat_lit 37,ce "NoWeb" 24 37 36 28 207 215) ::
 (nat_lit 49,ce "NoNumber" 24 49 48 40 223 231) ::
 (nat_lit 48,#[.type "dict",none,.dict ([de P "__module__" 230 (.str "websbykind.errors" 187),de P "__firstlineno__" 234 (.int 6 233),de P "__static_attributes__" 235 (.ref 47),de P "__doc__" 236 (.none)].toArray) 2,([].toArray)]) ::
 (nat_lit 61,ce "NoTurn" 24 61 60 52 239 247) ::
 (nat_lit 73,ce "NoKind" 24 73 72 64 255 263) ::
 (nat_lit 85,ce "NoPlace" 24 85 84 76 271 279) ::
 (nat_lit 97,ce "NoTie" 24 97 96 88 287 295) ::
 (nat_lit 109,ce "NoNumbers" 24 109 108 100 303 311) ::
 (nat_lit 121,ce "NoTree" 24 121 120 112 319 327) ::
 (nat_lit 133,ce "NoCode" 24 133 132 124 335 343) ::
 (nat_lit 145,ce "NoCounts" 24 145 144 136 351 359) ::
 (nat_lit 157,ce "NoMarks" 24 157 156 148 367 375) ::
 (nat_lit 169,ce "NoText" 24 169 168 160 383 391) ::
 (nat_lit 181,ce "NoLine" 24 181 180 172 399 407) ::
 (nat_lit 193,ce "NoDeed" 24 193 192 184 415 423) ::
 (nat_lit 212,ce "TooGreat" 24 212 211 196 431 439) ::
 (nat_lit 220,cd "is_whole" 460 38 1 215 (.ref 217) (.ref 218) (.ref 219) 464) ::
 (nat_lit 221,fq 18 "is_whole" m0 220) ::
 (nat_lit 227,cd "is_within" 467 40 3 222 (.ref 224) (.ref 225) (.ref 226) 473) ::
 (nat_lit 228,fq 19 "is_within" m0 227) ::
 (nat_lit 234,cd "must_be_within" 476 42 3 229 (.ref 231) (.ref 232) (.ref 233) 482) ::
 (nat_lit 235,fq 20 "must_be_within" m0 234) ::
 (nat_lit 241,cd "with_pieces" 487 46 3 236 (.ref 238) (.ref 239) (.ref 240) 498) ::
 (nat_lit 242,fq 22 "with_pieces" m1 241) ::
 (nat_lit 248,cd "codes_many" 505 56 1 243 (.ref 245) (.ref 246) (.ref 247) 509) ::
 (nat_lit 249,fq 25 "codes_many" m2 248) ::
 (nat_lit 255,cd "codes_by_places" 512 59 1 250 (.ref 252) (.ref 253) (.ref 254) 520) ::
 (nat_lit 256,fq 26 "codes_by_places" m2 255) ::
 (nat_lit 260,cd "trees_many" 523 67 1 257 .none .none (.ref 259) 526) ::
 (nat_lit 261,fq 27 "trees_many" m2 260) ::
 (nat_lit 267,cd "_law_cell_at" 531 75 2 262 (.ref 264) (.ref 265) (.ref 266) 536) ::
 (nat_lit 268,fq 29 "_law_cell_at" m3 267) ::
 (nat_lit 274,cd "_law_state" 539 79 2 269 (.ref 271) (.ref 272) (.ref 273) 545) ::
 (nat_lit 275,fq 30 "_law_state" m3 274) ::
 (nat_lit 281,cd "_law_take" 548 84 2 276 (.ref 278) (.ref 279) (.ref 280) 555) ::
 (nat_lit 282,fq 31 "_law_take" m3 281) ::
 (nat_lit 288,cd "_law_lots" 558 93 2 283 (.ref 285) (.ref 286) (.ref 287) 565) ::
 (nat_lit 289,fq 32 "_law_lots" m3 288) ::
 (nat_lit 295,cd "_law_gathered" 568 98 1 290 (.ref 292) (.ref 293) (.ref 294) 579) ::
 (nat_lit 296,fq 33 "_law_gathered" m3 295) ::
 (nat_lit 302,cd "_law_codes_by" 582 109 1 297 (.ref 299) (.ref 300) (.ref 301) 588) ::
 (nat_lit 303,fq 34 "_law_codes_by" m3 302) ::
 (nat_lit 307,cd "_law_same" 591 114 2 304 .none .none (.ref 306) 594) ::
 (nat_lit 308,fq 35 "_law_same" m3 307) ::
 (nat_lit 312,cd "_law_rows_of" 597 122 3 309 .none .none (.ref 311) 600) ::
 (nat_lit 313,fq 36 "_law_rows_of" m3 312) ::
 (nat_lit 317,cd "_law_codes" 603 130 1 314 .none .none (.ref 316) 606) ::
 (nat_lit 318,fq 37 "_law_codes" m3 317) ::
 (nat_lit 322,cd "_law_near" 609 135 2 319 .none .none (.ref 321) 612) ::
 (nat_lit 323,fq 38 "_law_near" m3 322) ::
 (nat_lit 327,cd "_law_code" 615 137 3 324 .none .none (.ref 326) 618) ::
 (nat_lit 328,fq 39 "_law_code" m3 327) ::
 (nat_lit 334,cd "_law_ways" 621 140 2 329 (.ref 331) (.ref 332) (.ref 333) 630) ::
 (nat_lit 335,fq 40 "_law_ways" m3 334) ::
 (nat_lit 339,cd "_law_middles" 633 148 1 336 .none .none (.ref 338) 636) ::
 (nat_lit 340,fq 41 "_law_middles" m3 339) ::
 (nat_lit 344,cd "_law_least_code" 639 154 1 341 .none .none (.ref 343) 642) ::
 (nat_lit 345,fq 42 "_law_least_code" m3 344) ::
 (nat_lit 351,cd "_law_tree_of" 645 156 1 346 (.ref 348) (.ref 349) (.ref 350) 653) ::
 (nat_lit 352,fq 43 "_law_tree_of" m3 351) ::
 (nat_lit 356,cd "_law_refused" 656 169 1 353 .none .none (.ref 355) 659) ::
 (nat_lit 357,fq 44 "_law_refused" m3 356) ::
 (nat_lit 363,cd "_law_trees" 662 183 1 358 (.ref 360) (.ref 361) (.ref 362) 670) ::
 (nat_lit 364,fq 45 "_law_trees" m3 363) ::
 (nat_lit 368,cd "law" 673 190 1 365 .none .none (.ref 367) 676) ::
 (nat_lit 369,fq 46 "law" m3 368)::[]
noncomputable def as:List Addr:=nat_lit 3::nat_lit 4::nat_lit 24::nat_lit 23::nat_lit 37::nat_lit 49::nat_lit 48::nat_lit 61::nat_lit 73::nat_lit 85::nat_lit 97::nat_lit 109::nat_lit 121::nat_lit 133::nat_lit 145::nat_lit 157::nat_lit 169::nat_lit 181::nat_lit 193::nat_lit 212::nat_lit 220::nat_lit 221::nat_lit 227::nat_lit 228::nat_lit 234::nat_lit 235::nat_lit 241::nat_lit 242::nat_lit 248::nat_lit 249::nat_lit 255::nat_lit 256::nat_lit 260::nat_lit 261::nat_lit 267::nat_lit 268::nat_lit 274::nat_lit 275::nat_lit 281::nat_lit 282::nat_lit 288::nat_lit 289::nat_lit 295::nat_lit 296::nat_lit 302::nat_lit 303::nat_lit 307::nat_lit 308::nat_lit 312::nat_lit 313::nat_lit 317::nat_lit 318::nat_lit 322::nat_lit 323::nat_lit 327::nat_lit 328::nat_lit 334::nat_lit 335::nat_lit 339::nat_lit 340::nat_lit 344::nat_lit 345::nat_lit 351::nat_lit 352::nat_lit 356::nat_lit 357::nat_lit 363::nat_lit 364::nat_lit 368::nat_lit 369::[]
def as2:List Addr:=nat_lit 366 ::  as
noncomputable def qv:Program:={ PySem.Challenge.pw_websbykind_k54_codes_and_trees_counted with main:={ PySem.Challenge.pw_websbykind_k54_codes_and_trees_counted.main with body:=[st 1,st 2,st 3,st 4,st 5,st 6,st 7,st 8,st 9,st 10,st 11,st 12,st 13,st 14,st 15,st 16,st 18,st 19,st 20,st 22,st 24,st 25,st 26,st 27,st 29,st 30,st 31,st 32,st 33,st 34,st 35,st 36,st 37,st 38,st 39,st 40,st 41,st 42,st 43,st 44,st 45,st 46]}}
theorem W2(P:Params):as2=(oV [366] K P).map (·.1):=by kernel_rfl
theorem op:PySem.W.opening PySem.Challenge.rw_websbykind_k54_codes_and_trees_counted.row.prog=PySem.W.plainProg PySem.Challenge.rw_websbykind_k54_codes_and_trees_counted.row.prog.main.scope.names:=by kernel_rfl
theorem fe:∀s,PySem.fenceModules? PySem.Challenge.rw_websbykind_k54_codes_and_trees_counted.row.prog s=!s:=λs=>by kernel_rfl
theorem hl:PySem.W.LeftO PySem.Challenge.rw_websbykind_k54_codes_and_trees_counted.row.prog qv [] (λs=>PySem.W.xlAt qv [] s&&PySem.W.recOk (PySem.W.OpenRow.toRowW PySem.Challenge.rw_websbykind_k54_codes_and_trees_counted.row).records s) (λs=>as2.map s.heap.get?) (λw=>(oV [366] K w.params).map λp:Nat×Obj=>!p.2) 8000:=zu op ⋯ fe W0 λw os=>by kernel_rfl
end cF
namespace Ev
open PySem PySem.W
def RcW(op:CmpOp)(A:Around)(s:Shared)(x y:Value)(b:Bool):Prop:=
 ∀(prog:Program) (w:World) (E:Value->Shared->Prop) (Q:Value->Shared->Prop),Q (.bool b) s->wpAny (model prog w) A (richCompare op x y) Q E s
abbrev Jk:=RcW .Lt
section
open PySem.SeqAt
open PySem.AutoSeq1 (wpAny_loadPart')
open PySem.MeetsSeq PySem.MeetsSeq2 PySem.MeetsSeq3
end
end Ev
namespace L2
abbrev Key:=Sum Int Str
noncomputable def oW:Key->Value->Bool
 |.inl k,v=>Value.isInt k v
 |.inr x,v=>Value.isStrOf x v
noncomputable def keyH(w:World):Key->Int
 |.inl k=>hashInt k
 |.inr x=>hashStr w x
theorem aR:∀{k:Key}{v:Value},oW k v=true->(∃i t,k=Sum.inl i/\v=Value.int i t)\/(∃x t,k=Sum.inr x/\v=Value.str x t)
 |.inl i,v,h=>by
  obtain⟨t,e⟩:=Value.isInt_shape h;exact .inl #[i,t,rfl,e]
 |.inr x,v,h=>by
  obtain⟨t,e⟩:=Value.isStrOf_shape h;exact .inr #[x,t,rfl,e]
theorem zz(i:Int)(t:Tok):oW (.inl i) (.int i t)=true:=by simp[oW,Value.isInt]
theorem P4(a b:Int):decide ((Sum.inl a:Key)=Sum.inl b)=(a==b):=by
 by_cases e:a=b
 . subst e;simp
 .
  have h : ¬ (Sum.inl a:Key)=Sum.inl b:=λq=>e (Sum.inl.inj q)
  rw[u7 h];exact (beq_eq_false_iff_ne.mpr e).symm
theorem P5(a b:Str):decide ((Sum.inr a:Key)=Sum.inr b)=decide (a=b):=by
 by_cases e:a=b
 . subst e;simp
 .
  have h : ¬ (Sum.inr a:Key)=Sum.inr b:=λq=>e (Sum.inr.inj q)
  rw[u7 h,u7 e]
theorem P6(a:Int)(b:Str):decide ((Sum.inl a:Key)=Sum.inr b)=false:=u7 (λq=>nomatch q)
theorem P7(a:Str)(b:Int):decide ((Sum.inr a:Key)=Sum.inl b)=false:=u7 (λq=>nomatch q)
def gj(prog:Program)(w:World):PySem.KeyKind prog w Key where
 is:=oW
 hash:=keyH w
 inj:=λv a b ha hb=>by
  rcases aR ha with ⟨i,t,rfl,rfl⟩ |⟨x,t,rfl,rfl⟩
  .
   rcases aR hb with ⟨j,u,rfl,e⟩ |⟨y,u,rfl,e⟩
   . injection e with e1 _;rw[e1]
   . exact nomatch e
  .
   rcases aR hb with ⟨j,u,rfl,e⟩ |⟨y,u,rfl,e⟩
   . exact nomatch e
   . injection e with e1 _;rw[e1]
 byValue:=λk v h=>by
  rcases aR h with ⟨i,t,rfl,rfl⟩ |⟨x,t,rfl,rfl⟩ <;> rfl
 pyHash:=λhv h=>by
  rcases aR hv with ⟨i,t,rfl,rfl⟩ |⟨x,t,rfl,rfl⟩
  . exact wpAny_pyHash_int h
  . exact wpAny_pyHash_str h
 eqBool:=λhu hv h=>by
  rcases aR hu with ⟨i,t,rfl,rfl⟩ |⟨x,t,rfl,rfl⟩
  .
   rcases aR hv with ⟨j,u,rfl,rfl⟩ |⟨y,u,rfl,rfl⟩
   . rw[P4]at h;exact wpAny_eqBool_int h
   . rw[P6]at h;exact SeqAt.EqAt.int_str i t y u _ _ _ _ h
  .
   rcases aR hv with ⟨j,u,rfl,rfl⟩ |⟨y,u,rfl,rfl⟩
   . rw[P7]at h;exact SeqAt.EqAt.str_int x t j u _ _ _ _ h
   . rw[P5]at h;exact wpAny_eqBool_str h
 «strs»:=λk x t v h=>by
  rcases aR h with ⟨i,u,rfl,e⟩ |⟨y,u,rfl,e⟩
  . exact nomatch e
  . injection e with e1 _;subst e1;cases v <;> rfl
theorem sV(prog:Program)(w:World)(i:Int)(t:Tok):(gj prog w).is (.inl i) (.int i t)=true:=zz i t
inductive V where
 |non |bl (b:Bool) |int (i:Int) |str (x:Str) |P8 (b:Array UInt8) |flt (b:UInt64) |ref (a:Addr) |ty (n:String)
 deriving DecidableEq
noncomputable def RelV:V->Value->Prop
 |.non,u=>u=Value.none
 |.bl b,u=>u=Value.bool b
 |.int i,u=>∃t,u=Value.int i t
 |.str x,u=>∃t,u=Value.str x t
 |.P8 b,u=>∃t,u=Value.bytes b t
 |.flt b,u=>∃t,u=Value.float b t
 |.ref a,u=>u=Value.ref a
 |.ty n,u=>u=Value.type n
abbrev Vals:List V->List Value->Prop:=Paired RelV
theorem Vals.length{xs:List V}{us:List Value}(r:Vals xs us):xs.length=us.length:=Paired.length r
theorem Vals.get:∀{xs:List V}{us:List Value}{i:Nat}{x:V},Vals xs us->xs[i]?=!x->∃u,us[i]?=!u/\RelV x u
 |_,_,_,_,.nil,e=>by simp at e
 |_,_,0,_,.cons r _,e=>by simp at e;subst e;exact#[_,rfl,r]
 |_,_,i+1,x,.cons _ t,e=>by
  obtain⟨u,h1,h2⟩:=Vals.get t (by simpa using e)
  exact#[u,by simpa using h1,h2]
theorem Vals.set(r:RelV x u):∀{xs:List V}{us:List Value} (i:Nat),Vals xs us->Vals (xs.set i x) (us.set i u)
 |_,_,_,.nil=>.nil
 |_,_,0,.cons _ t=>.cons r t
 |_,_,i+1,.cons q t=>.cons q (Vals.set r i t)
theorem Vals.append:∀{xs ys:List V}{us ws:List Value},Vals xs us->Vals ys ws->Vals (xs++ys) (us++ws):=by
 intro xs ys us ws h s
 induction h with
 |nil=>exact s
 |cons r t ih=>exact .cons r ih
theorem Vals.take:∀{xs:List V}{us:List Value} (n:Nat),Vals xs us->Vals (xs.take n) (us.take n)
 |_,_,0,_=>.nil
 |_,_,_+1,.nil=>.nil
 |_,_,n+1,.cons r t=>.cons r (Vals.take n t)
theorem Vals.drop:∀{xs:List V}{us:List Value} (n:Nat),Vals xs us->Vals (xs.drop n) (us.drop n)
 |_,_,0,r=>r
 |_,_,_+1,.nil=>.nil
 |_,_,n+1,.cons _ t=>Vals.drop n t
def lP:Option V->Option Value->Prop
 |!v,!u=>RelV v u
 |none,none=>True
 |_,_=>False
def KV{κ:Type}:List (κ×V)->List (κ×Value)->Prop:=Paired λ(p:κ×V) (q:κ×Value)=>p.1=q.1/\RelV p.2 q.2
noncomputable def kV:Key->V
 |.inl i=>.int i
 |.inr x=>.str x
inductive HO where
 |lst (xs:List V)
 |tup (xs:List V)
 |dK (jJ:List (Key×V)) |dT (jJ:List (List Key×V))
 |set (φ:Obj->Prop)
 |ins (C dx:Addr) (fs:List (Str×V))
 |own (x:Addr)
 |xd (fs:List (Str×V))
 |met (f x:Addr)
 |BX (lo hi:Int)
 |fB (o:Obj) (u:HO)
 |k9 (ps:Array Value)
 |ext (φ:Heap->Prop)
abbrev Hp:=Addr->Option HO
noncomputable def upd(H:Hp)(a:Addr)(o:HO):Hp:=λb=>if b=a then some o else H b
theorem aC:upd H a o a=!o:=by unfold upd;rw[tJ rfl]
theorem az(h:b≠a):upd H a o b=H b:=by unfold upd;rw[sK h]
theorem aH{H:Hp}{a b:Addr}{o:HO}(h:H a=!o)(h':H b=none):a≠b:=by intro e;subst e;rw[h]at h';cases h'
def fJ(h:Heap)(a:Addr)(its:Array Value):Prop:=∃o,h.get? a=!o/\(o.cls=.type "tuple" /\∃n,o.data=.seq its n)/\o.dict=none
theorem fJ.tup{h:Heap}{a:Addr}{its:Array Value}(x:fJ h a its):IsTup h a its:=let #[o,e,c,_]:=x;#[o,e,c]
theorem fJ.new(h:Heap)(its:Array Value):fJ (h.push { cls:=.type "tuple",data:=.seq its}) h.objs.size its:=#[_,dC _ rfl,#[rfl,_,rfl],rfl]
section
variable(P:Program)(w:World)
def bR(H:Hp)(h:Heap)(a:Addr):HO->Prop
 |.lst xs=>xs.length<=sizeLine/\∃(its:List Value) (n:Nat),Vals xs its/\h.get? a=some { cls:=.type "list",data:=.seq its.toArray n}
 |.tup xs=>xs.length<=sizeLine/\∃its:List Value,Vals xs its/\fJ h a its.toArray
 |.dK jJ=>jJ.length<=sizeLine/\(a==sysModules)=false/\∃vs,KV jJ vs/\h.DictOf (gj P w) a vs
 |.dT jJ=>jJ.length<=sizeLine/\(a==sysModules)=false/\∃xs:List (List Key×Addr×Value),
   Paired (λ(p:List Key×V) (q:List Key×Addr×Value)=>p.1=q.1/\H q.2.1=!(.tup (p.1.map kV))/\RelV p.2 q.2.2) jJ xs/\
   ∃o es ep,h.get? a=!o/\o.ExactDict/\o.data=.dict es ep/\es.toList=xs.map (entryOfKey (tupleKind (gj P w)))/\(xs.map (·.1)).Nodup
 |.set φ=>∃o,h.get? a=!o/\φ o
 |.ins C dx fs=>H dx=!(.own a)/\fs.length<=1000/\dx≠a/\h.get? a=!(PySem.W.instObj C dx)/\
   ∃mA,h.Ns1 dx mA/\(∀f,lP (fs.lookup f) (mA f))/\PySem.Within mA (fs.map (·.1))
 |.own _=>∃o,h.get? a=!o
 |.xd fs=>∃mA,h.Ns1 a mA/\∀f,lP (fs.lookup f) (mA f)
 |.BX lo hi=>∃t u v,h.get? a=some { cls:=.type "range",data:=.fields ([.int lo t,.int hi u,.int 1 v].toArray)}
 |.fB o u=>h.get? a=!o/\bR H h a u
 |.k9 ps=>h.get? a=some { cls:=.none,data:=.fields ps}
 |.met f x=>h.get? a=!(PySem.W.methodObj (.ref f) (.ref x))
 |.ext φ=>φ h/\(∃o,h.get? a=!o)/\∀h1 h2:Heap,φ h1->(∀o,h1.get? a=!o->h2.get? a=!o)->φ h2
def jM(H:Hp)(h:Heap):Prop:=∀a o,H a=!o->bR P w H h a o
end
section
variable{P:Program}{w:World}{H H':Hp}{h h':Heap}{a:Addr}{o:HO}
theorem bR.lt(x:bR P w H h a o):a<h.objs.size:=by
 cases o with
 |lst xs=>obtain⟨_,_,_,_,e⟩:=x;exact fI e
 |tup xs=>obtain⟨_,_,_,_,e,_⟩:=x;exact fI e
 |dK jJ=>obtain⟨_,_,_,_,o,_,_,e,_⟩:=x;exact fI e
 |dT jJ=>obtain⟨_,_,_,_,o,_,_,e,_⟩:=x;exact fI e
 |set φ=>obtain⟨o,e,_⟩:=x;exact fI e
 |ins C dx fs=>obtain⟨_,_,_,e,_⟩:=x;exact fI e
 |own y=>obtain⟨_,e⟩:=x;exact fI e
 |xd fs=>obtain⟨_,⟨_,_,_,e,_⟩,_⟩:=x;exact fI e
 |BX lo hi=>obtain⟨_,_,_,e⟩:=x;exact fI e
 |fB ob u=>obtain⟨e,_⟩:=x;exact fI e
 |k9 ps=>exact fI (show h.get? a=!_ from x)
 |met f y=>exact fI (show h.get? a=!_ from x)
 |ext φ=>obtain⟨_,⟨_,e⟩,_⟩:=x;exact fI e
theorem Paired.mapP{α β:Type}{F G:α->β->Prop}:∀{l₁:List α}{l₂:List β},Paired F l₁ l₂->(∀a b,F a b->G a b)->Paired G l₁ l₂:=by
 intro l₁ l₂ h f
 induction h with
 |nil=>exact .nil
 |cons r t ih=>exact .cons (f _ _ r) ih
theorem bR.stay(x:bR P w H h a o)(k:∀b u,(b=a\/H b=!(.own a))->h.get? b=!u->h'.get? b=!u)
  (ho:∀b,H b=!(.own a)->H' b=!(.own a)) (ht:∀b xs,H b=!(.tup xs)->H' b=!(.tup xs)):bR P w H' h' a o:=by
 induction o with
 |lst xs=>obtain⟨z,its,n,r,e⟩:=x;exact#[z,its,n,r,k _ _ (.inl rfl) e]
 |tup xs=>obtain⟨z,its,r,ob,e,c⟩:=x;exact#[z,its,r,ob,k _ _ (.inl rfl) e,c]
 |dK jJ=>obtain⟨z,y,vs,r,ob,es,ep,e,c⟩:=x;exact#[z,y,vs,r,ob,es,ep,k _ _ (.inl rfl) e,c]
 |dT jJ=>obtain⟨z,y,xs,r,ob,es,ep,e,c⟩:=x;exact#[z,y,xs,Paired.mapP r λp q z=>#[z.1,ht _ _ z.2.1,z.2.2],ob,es,ep,k _ _ (.inl rfl) e,c]
 |set φ=>obtain⟨ob,e,c⟩:=x;exact#[ob,k _ _ (.inl rfl) e,c]
 |ins C dx fs=>obtain⟨d,z,ne,e,mA,⟨od,es,ep,e2,c⟩,r⟩:=x;exact#[ho _ d,z,ne,k _ _ (.inl rfl) e,mA,#[od,es,ep,k _ _ (.inr d) e2,c],r]
 |own y=>obtain⟨ob,e⟩:=x;exact#[ob,k _ _ (.inl rfl) e]
 |xd fs=>obtain⟨mA,⟨od,es,ep,e,c⟩,r⟩:=x;exact#[mA,#[od,es,ep,k _ _ (.inl rfl) e,c],r]
 |BX lo hi=>obtain⟨t,u,v,e⟩:=x;exact#[t,u,v,k _ _ (.inl rfl) e]
 |fB ob u ih=>obtain⟨e,q⟩:=x;exact#[k _ _ (.inl rfl) e,ih q]
 |k9 ps=>have e:=x;exact k a _ (.inl rfl) e
 |met f y=>have e:=x;exact k a _ (.inl rfl) e
 |ext φ=>obtain⟨p,⟨o,e⟩,st⟩:=x;exact#[st _ _ p λo q=>k _ _ (.inl rfl) q,#[o,k _ _ (.inl rfl) e],st]
theorem jM.lt(x:jM P w H h)(e:H a=!o):a<h.objs.size:=(x a o e).lt
theorem jM.fresh(x:jM P w H h)(e:h.objs.size<=a):H a=none:=by
 cases q:H a with
 |none=>rfl
 |some u=>exact absurd (i4 (x.lt q) e) (yA _)
theorem jM.kept(x:jM P w H h)(k:∀b u,h.get? b=!u->h'.get? b=!u):jM P w H h':=λa o e=>
 (x a o e).stay (λb u _ q=>k b u q) (λ_ q=>q) λ_ _ q=>q
theorem jM.laid(x:jM P w H h)(k:∀b u,h.get? b=!u->h'.get? b=!u)(hp:h.objs.size<=a)(new:bR P w (upd H a o) h' a o):jM P w (upd H a o) h':=λb u e=>by
 have hn:=x.fresh hp;by_cases hb:b=a
 . subst hb;rw[aC]at e;cases e;exact new
 . rw[az hb]at e;exact (x b u e).stay (λc v _ q=>k c v q) (λc q=>by rw[az (aH q hn)];exact q) λc xs q=>by rw[az (aH q hn)];exact q
end
def Rd(H:Hp)(a:Addr)(u:HO):Prop:=H a=!u\/∃o,H a=!(.fB o u)
theorem Rd.ok{P:Program}{w:World}{H:Hp}{h:Heap}{a:Addr}{u:HO}(r:Rd H a u)(x:jM P w H h):bR P w H h a u:=by
 rcases r with r |⟨o,r⟩
 . exact x a u r
 . obtain⟨_,q⟩:=x a _ r;exact q
noncomputable def Mut:Option HO->Prop
 |!(.lst _)=>True
 |!(.dK _)=>True
 |!(.dT _)=>True
 |!(.set _)=>True
 |!(.ins _ _ _)=>True
 |!(.ext _)=>True
 |_=>False
section
variable{P:Program}{w:World}{H:Hp}{h h':Heap}{x e:Addr}{o':HO}
theorem jM.write(ok:jM P w H h)(mu:Mut (H x))(he:e=x\/H e=!(.own x))(k:∀b u,b≠e->h.get? b=!u->h'.get? b=!u)(V3:∃u,h'.get? e=!u)
  (new:bR P w (upd H x o') h' x o'):jM P w (upd H x o') h':=λb u q=>by
 have W3:∀c y,H c=!(.own y)->c≠x:=λc y r z=>by subst z;rw[r]at mu;exact mu
 have ntup:∀c xs,H c=!(.tup xs)->c≠x:=λc xs r z=>by subst z;rw[r]at mu;exact mu
 by_cases hb:b=x
 . subst hb;rw[aC]at q;cases q;exact new
 .
  rw[az hb]at q;by_cases P9:b=e
  .
   have q':H b=!(.own x):=by
    rcases he with z |z
    . exact absurd (P9.trans z) hb
    . rw[P9];exact z
   rw[q]at q';cases q';obtain⟨v,hv⟩:=V3;exact#[v,by rw[P9];exact hv]
  .
   refine (ok b u q).stay (λc v hc r=>k c v ?_ r) (λc r=>by rw[az (W3 c b r)];exact r) λc xs r=>by rw[az (ntup c xs r)];exact r
   rcases hc with rfl |hc
   . exact P9
   .
    rintro rfl;rcases he with z |z
    . exact W3 c b hc z
    . rw[hc]at z;cases z;exact hb rfl
end
structure Un(fs ex:List Addr)(H H':Hp)(h h':Heap):Prop where
 keep:∀b o,h.get? b=!o->H b=none->b∉fs->b∉ex->h'.get? b=!o
 slot:∀b o,h.get? b=!o->H b=none->b∈fs->b∉ex->∃sl,h'.get? b=some { o with slots:=sl}
 free:∀b o,h.get? b=!o->H b=none->b∉ex->H' b=none
 there:∀b o,h.get? b=!o->b∉ex->∃o',h'.get? b=!o'
 tups:∀b xs,H b=!(.tup xs)->H' b=!(.tup xs)
 iV:∀b o u,H b=!(.fB o u)->H' b=!(.fB o u)
 iW:∀b ps,H b=!(.k9 ps)->∃more,H' b=!(.k9 (ps++more))
section
variable{fs fs' ex ex':List Addr}{H H1 H2:Hp}{h h1 h2 h':Heap}{a x e:Addr}{o:HO}
theorem Un.any(u:Un fs ex H H1 h h1){b:Addr}{ob:Obj}(q:h.get? b=!ob)(n:H b=none)(hx:b∉ex):∃sl,h1.get? b=some { ob with slots:=sl}:=by
 by_cases hb:b∈fs
 . exact u.slot b ob q n hb hx
 . exact#[ob.slots,u.keep b ob q n hb hx]
theorem Un.kept(k:∀b u,h.get? b=!u->h'.get? b=!u):Un fs ex H H h h':=
 #[λb ob q _ _ _=>k b ob q,λb ob q _ _ _=>#[ob.slots,k b ob q],λ_ _ _ n _=>n,λb ob q _=>#[ob,k b ob q],λ_ _ q=>q,λ_ _ _ q=>q,λ_ ps q=>#[([].toArray),by rw[q];simp]]
theorem Un.refl:Un fs ex H H h h:=Un.kept λ_ _ q=>q
theorem Un.laid(k:∀b u,h.get? b=!u->h'.get? b=!u)(hp:h.objs.size<=a)(hn:H a=none):Un fs ex H (upd H a o) h h' where
 keep:=λb u q _ _ _=>k b u q
 slot:=λb u q _ _ _=>#[u.slots,k b u q]
 free:=λb u q n _=>by rw[az (i6 (i4 (fI q) hp))];exact n
 there:=λb u q _=>#[u,k b u q]
 tups:=λb xs q=>by rw[az (aH q hn)];exact q
 iV:=λb u xs q=>by rw[az (aH q hn)];exact q
 iW:=λb ps q=>#[([].toArray),by rw[az (aH q hn),q];simp]
theorem Un.write(mu:Mut (H x))(he:e=x\/H e=!(.own x))(k:∀b u,b≠e->h.get? b=!u->h'.get? b=!u)(V3:∃u,h'.get? e=!u):Un fs ex H (upd H x o) h h':=by
 have hx:∀b,H b=none->b≠x:=λb n z=>by subst z;rw[n]at mu;exact mu
 have hb:∀b,H b=none->b≠e:=λb n z=>by
  subst z;rcases he with r |r
  . exact hx b n r
  . rw[n]at r;cases r
 have hm:∀b u,H b=!u->¬ Mut (!u)->b≠x:=λb u q nm z=>by subst z;rw[q]at mu;exact nm mu
 refine#[λb u q n _ _=>k b u (hb b n) q,λb u q n _ _=>#[u.slots,k b u (hb b n) q],λb u q n _=>by rw[az (hx b n)];exact n,λb u q _=>?_,
  λb xs q=>by rw[az (hm b _ q λz=>z)];exact q,λb u xs q=>by rw[az (hm b _ q λz=>z)];exact q,λb ps q=>#[([].toArray),by rw[az (hm b _ q λz=>z),q];simp]]
 by_cases P9:b=e
 . subst P9;exact V3
 . exact#[u,k b u P9 q]
end
noncomputable def trk(h:Heap)(H:Hp):List Addr:=(List.range h.objs.size).filter λa=>(H a).isSome
def qA(h:Heap)(H:Hp):Heap:=PySem.W.hideAll h (trk h H)
theorem zA(h:Heap)(H:Hp):(qA h H).objs.size=h.objs.size:=PySem.W.hideAll_size _ _
theorem Cz(e:h.get? b=!o)(n:H b=none):(qA h H).get? b=!o:=
 PySem.W.hideAll_get _ e λhm=>by
  have q:=(mI.mp hm).2;rw[n]at q;simp at q
theorem Jl(e:(qA h H).get? b=!o):h.get? b=!o/\H b=none:=by
 have e':=PySem.W.of_hideAll (trk h H) e;refine#[e',?_];cases q:H b with
 |none=>rfl
 |some x=>
  have hm:b∈trk h H:=mI.mpr #[w8.mpr (fI e'),by simp[q]]
  have z:(qA h H).get? b=none:=PySem.W.hideAll_none (trk h H) hm;rw[z]at e;cases e
noncomputable def Jm(g h:Heap)(L:Addr): ~~~1:=(List.range h.objs.size).filterMap λa=>if a=L\/(g.get? a).isSome=true then none else (h.get? a).map λo=>(a,o)
def rest(g h:Heap)(L d:Addr): ~~~1:=(Jm g h L).filter λp=>decide (p.1≠d)
structure Mod(K:Frag)(mg:Str->Option Value)(base:Heap):Prop where
 vR:K.In base
 glob:base.Ns mainGlobals mg
 blt:∃mb,base.Ns builtinsNs mb/\∀x:Str,x≠ "__name__" ->mb x=bootBuiltins x
 nolimit:base.NoLimit
structure Cx where
 prog:Program
 w:World
 K:Frag
 mg:Str->Option Value
 base:Heap
 A:Around
 N:List Str
 s₀:Shared
 H₀:Hp
 env:Env
 outer:List Env
 stack:List Env
 ex:List Addr
 fn:Str->Bool
 calm:Bool
 pn:List (Addr×Obj)
 xe:Value->Shared->Prop
noncomputable def frs(l:List Env):List Addr:=l.filterMap (·.frame)
abbrev Cx.fs(X:Cx):List Addr:=frs X.outer
def sW(sc:Scope)(x:Str):Prop:=sc.names.lookup x=some .local\/sc.names.lookup x=some .cell\/sc.names.lookup x=some .free
def Loc(sc:Scope)(x:Str):Prop:=sc.names.lookup x=some .local\/sc.names.lookup x=some .cell
def Look(env:Env)(h:Heap)(m:Str->Option Value)(x:Str)(u:Value):Prop:=
 (env.kindOf x=some .local/\m x=!u)\/((env.kindOf x=some .cell\/env.kindOf x=some .free)/\∃c,env.cells.lookup x=!c/\h.IsCell c (!u))
structure Cx.Ok(X:Cx):Prop where
 mod:Mod X.K X.mg X.base
 kind:X.env.scope.kind=.function
 glob:X.env.globals=mainGlobals
 blt:X.env.builtins=builtinsNs
 above:X.s₀⁻¹<=X.env.locals
 inj:∀x y c,X.env.cells.lookup x=!c->X.env.cells.lookup y=!c->x=y
 has:∀x,(X.env.kindOf x=some .cell\/X.env.kindOf x=some .free)->∃c,X.env.cells.lookup x=!c
 Qa:∀x c,X.fn x=true->X.env.cells.lookup x=!c->X.s₀⁻¹<=c
 hd:X.calm=true->X.A.handled=none
 frames:X.A.frames=!X.stack
 stk:X.stack=X.outer\/(X.stack=X.env::X.outer/\X.env.frame=!X.env.locals)
 V4:∀b∈X.ex,b≠X.env.locals/\∀x c,X.env.cells.lookup x=!c->c≠b
 bs:∀b o,X.base.get? b=!o->X.s₀.heap.get? b=!o/\X.H₀ b=none
 CG:X.base.objs.size<=X.s₀⁻¹
 sX:∀b o,X.base.get? b=!o->b∉X.ex
 vU:∀b∈X.ex,b∉X.fs
 iX:X.s₀.heap.FunFrames X.base X.outer
 Jo:∀b∈X.fs,X.H₀ b=none
structure Inv(X:Cx)(aj: ~~~1)(σ:List (Option V))(H:Hp)(s:Shared):Prop where
 ok:X.Ok
 os:s.os=X.s₀.os
 bare:AllBare s.gens
 base:Un X.fs X.ex X.H₀ H X.s₀.heap s.heap
 loc:∃m,s.heap.Ns X.env.locals m/\∀(i:Nat) (x:Str) (v:V),X.N[i]?=!x->σ[i]?=!(!v)->sW X.env.scope x->∃u,RelV v u/\Look X.env s.heap m x u
 cell:∀x c,X.env.cells.lookup x=!c->∃v,s.heap.IsCell c v
 free:H X.env.locals=none
 cG:∀x c,X.env.cells.lookup x=!c->H c=none
 pin:∀p∈X.pn++aj,s.heap.get? p.1=!p.2/\H p.1=none/\p.1≠X.env.locals/\p.1∉X.fs/\∀v,p.2.data≠.cell v
 hok:jM X.prog X.w H s.heap
 len:σ.length=X.N.length
section
variable{X:Cx}{aj: ~~~1}{σ:List (Option V)}{H H':Hp}{s:Shared}{h':Heap}
theorem Cx.Ok.nofr(ok:X.Ok)(e:X.base.get? b=!o):b∉X.fs:=λhb=>by
 have:=(ok.iX.mem hb).1;rw[e]at this;cases this
theorem Inv.bs(I: ~~~7):∀b o,X.base.get? b=!o->s.heap.get? b=!o/\H b=none:=λb o e=>
 #[I.base.keep b o (I.ok.bs b o e).1 (I.ok.bs b o e).2 (I.ok.nofr e) (I.ok.sX b o e),I.base.free b o (I.ok.bs b o e).1 (I.ok.bs b o e).2 (I.ok.sX b o e)]
theorem Inv.bk(I: ~~~7):∀b o,X.base.get? b=!o->s.heap.get? b=!o:=λb o e=>(I.bs b o e).1
theorem Inv.mod(I: ~~~7):Mod X.K X.mg X.base:=I.ok.mod
theorem Inv.oA(I: ~~~7):X.K.In s.heap:=I.ok.mod.vR.keeps I.bk
theorem Inv.nolimit(I: ~~~7):s.heap.NoLimit:=I.ok.mod.nolimit.keeps I.bk
theorem Inv.lt(I: ~~~7):X.env.locals<s⁻¹:=let #[_,hn,_]:=I.loc;hn.lt
theorem Inv.sz(I: ~~~7):X.s₀⁻¹<=s⁻¹:=oI I.ok.above (AU I.lt)
theorem Inv.nofs(I: ~~~7)(h:s⁻¹<=a):a∉X.fs:=λhb=>by
 obtain⟨_,o,ho,_⟩:=I.ok.iX.mem hb;exact absurd (i4 (fI ho) (oI I.sz h)) (yA _)
theorem Inv.Qc(I: ~~~7):∀x c,X.env.cells.lookup x=!c->c≠X.env.locals:=λx c e z=>by
 obtain⟨v,o,ho,hd⟩:=I.cell x c e;obtain⟨m,⟨o',es,ep,ho',hd',_⟩,_⟩:=I.loc;rw[z,ho']at ho;cases ho;rw[hd']at hd;cases hd
theorem Inv.iX(I: ~~~7):s.heap.FunFrames X.base X.outer:=by
 have all:∀(l:List Env),(∀b∈frs l,b∈X.fs)->X.s₀.heap.FunFrames X.base l->s.heap.FunFrames X.base l:=by
  intro l
  induction l with
  |nil=>intro _ _;trivial
  |cons env r ih=>
   intro hs hl;obtain⟨hk,⟨L,o,hf,hn,ho,hd⟩,hr⟩:=hl;have hL:=hs L (by unfold frs;rw[A4,hf];exact bP)
   obtain⟨sl,e⟩:=I.base.slot L o ho (I.ok.Jo L hL) hL λz=>I.ok.vU L z hL
   exact#[hk,#[L,_,hf,hn,e,hd],ih (λb hb=>hs b (by unfold frs;rw[A4,hf];exact a8 _ hb)) hr]
 exact all X.outer (λ_ hb=>hb) I.ok.iX
theorem Inv.stack(I: ~~~7):s.heap.FunFrames X.base X.stack:=by
 rcases I.ok.stk with e |⟨e,hf⟩
 . rw[e];exact I.iX
 .
  rw[e];obtain⟨m,hn,_⟩:=I.loc;refine .cons (by rw[I.ok.kind];decide) hf hn ?_ I.iX
  exact Heap.get?_none_of_le (oI I.ok.CG I.ok.above)
theorem Inv.vV(I: ~~~7):∀b∈frs X.stack,b∈X.env.locals::X.fs:=λb hb=>by
 rcases I.ok.stk with e |⟨e,hf⟩
 . rw[e]at hb;exact a8 _ hb
 . rw[e]at hb;unfold frs at hb;rw[A4,hf]at hb;exact hb
theorem Inv.qB(I: ~~~7):∀b∈frs X.stack,H b=none:=λb hb=>by
 rcases dA.mp (I.vV b hb)with e |hb
 . rw[e];exact I.free
 . obtain⟨_,o,ho,_⟩:=I.ok.iX.mem hb;exact I.base.free b o ho (I.ok.Jo b hb) λz=>I.ok.vU b z hb
theorem Inv.step{g':Array GenState}{t':Nat}{d':Drawn}{ch:List Addr}(I: ~~~7)
  (hch:∀b∈ch,(b∈X.ex\/X.s₀⁻¹<=b)/\b≠X.env.locals/\(∀x c,X.env.cells.lookup x=!c->c≠b)/\∀p∈X.pn++aj,p.1≠b)
  (keep:∀b o,b≠X.env.locals->b∉X.fs->b∉ch->s.heap.get? b=!o->H b=none->h'.get? b=!o)
  (slot:∀b o,b≠X.env.locals->b∈X.fs->b∉ch->s.heap.get? b=!o->H b=none->∃sl,h'.get? b=some { o with slots:=sl}) (free:∀b o,b∉ch->s.heap.get? b=!o->H b=none->H' b=none)
  (there:∀b o,b∉ch->s.heap.get? b=!o->∃o',h'.get? b=!o')
  (tups:∀b xs,H b=!(.tup xs)->H' b=!(.tup xs)) (iV:∀b o u,H b=!(.fB o u)->H' b=!(.fB o u)) (iW:∀b ps,H b=!(.k9 ps)->∃more,H' b=!(.k9 (ps++more)))
  (ns:∀m,s.heap.Ns X.env.locals m->h'.Ns X.env.locals m) (hok:jM X.prog X.w H' h') (hg:AllBare g') :
  Inv X aj σ H' { s with heap:=h',gens:=g',drawn:=d',toks:=t'}:=by
 have neL:∀b o,X.s₀.heap.get? b=!o->b≠X.env.locals:=λb o e=>i6 (i4 (fI e) I.ok.above)
 have neC:∀b o,X.s₀.heap.get? b=!o->b∉X.ex->b∉ch:=λb o e hx hb=>by
  rcases (hch b hb).1 with z |z
  . exact hx z
  . exact absurd (i4 (fI e) z) (yA _)
 have cellK:∀x c,X.env.cells.lookup x=!c->∀v,s.heap.IsCell c v->h'.IsCell c v:=by
  rintro x c e v ⟨o,ho,hd⟩;have W4:c∉ch:=λz=>(hch c z).2.2.1 x c e rfl
  by_cases hc:c∈X.fs
  . obtain⟨sl,q⟩:=slot c o (I.Qc x c e) hc W4 ho (I.cG x c e);exact#[_,q,hd]
  . exact#[o,keep c o (I.Qc x c e) hc W4 ho (I.cG x c e),hd]
 refine#[I.ok,I.os,hg,#[λb o e n hb hx=>?_,λb o e n hb hx=>?_,λb o e n hx=>?_,λb o e hx=>?_,λb xs e=>tups b xs (I.base.tups b xs e),λb o xs e=>iV b o xs (I.base.iV b o xs e),λb ps e=>?_],?_,λx c e=>?_,?_,λx c e=>?_,λp hp=>?_,hok,I.len]
 . exact keep b o (neL b o e) hb (neC b o e hx) (I.base.keep b o e n hb hx) (I.base.free b o e n hx)
 . obtain⟨sl,e1⟩:=I.base.slot b o e n hb hx;obtain⟨sl',e2⟩:=slot b _ (neL b o e) hb (neC b o e hx) e1 (I.base.free b o e n hx);exact#[sl',e2]
 . obtain⟨o',e1⟩:=I.base.there b o e hx;exact free b o' (neC b o e hx) e1 (I.base.free b o e n hx)
 . obtain⟨o',e1⟩:=I.base.there b o e hx;exact there b o' (neC b o e hx) e1
 . obtain⟨m1,e1⟩:=I.base.iW b ps e;obtain⟨m2,e2⟩:=iW b _ e1;exact#[m1++m2,by rw[e2,Array.append_assoc]]
 .
  obtain⟨m,hn,hl⟩:=I.loc;refine#[m,ns m hn,λi x v e1 e2 e3=>?_]
  obtain⟨u,r,l⟩:=hl i x v e1 e2 e3;refine#[u,r,?_];rcases l with l |⟨k,c,e,z⟩
  . exact .inl l
  . exact .inr #[k,c,e,cellK x c e _ z]
 . obtain⟨v,z⟩:=I.cell x c e;exact#[v,cellK x c e v z]
 . obtain⟨m,⟨o,_,_,ho,_⟩,_⟩:=I.loc;exact free _ o (λz=>(hch _ z).2.1 rfl) ho I.free
 . obtain⟨v,o,ho,hd⟩:=I.cell x c e;exact free c o (λz=>(hch c z).2.2.1 x c e rfl) ho (I.cG x c e)
 .
  obtain⟨e,n,ne,nf,d⟩:=I.pin p hp;have W4:p.1∉ch:=λz=>(hch p.1 z).2.2.2 p hp rfl
  exact#[keep p.1 p.2 ne nf W4 e n,free p.1 p.2 W4 e n,ne,nf,d]
theorem Inv.un{t':Nat}(I: ~~~7)(u:Un X.fs [] H H' s.heap h')(hok:jM X.prog X.w H' h'):Inv X aj σ H' { s with heap:=h',toks:=t'}:=by
 obtain⟨m,⟨o,es,ep,ho,r⟩,_⟩:=id I.loc;obtain⟨sl,hL⟩:=u.any ho I.free ⋯;exact I.step (ch:=[]) (λ_ z=>nomatch z) (λb o _ hb _ e n=>u.keep b o e n hb ⋯) (λb o _ hb _ e n=>u.slot b o e n hb ⋯) (λb o _ e n=>u.free b o e n ⋯) (λb o _ e=>u.there b o e ⋯) u.tups u.iV u.iW (λm' hm=>by
  obtain⟨o',es',oE,ho',r'⟩:=hm;rw[ho]at ho';cases ho';exact#[_,es',oE,hL,r']) hok I.bare
theorem Inv.call{g':Array GenState}{t':Nat}{d':Drawn}{ch:List Addr}(I: ~~~7)(u:Un (frs X.stack) ch H H' s.heap h')(hok:jM X.prog X.w H' h')(hg:AllBare g')
  (hch:∀b∈ch,(b∈X.ex\/X.s₀⁻¹<=b)/\b≠X.env.locals/\(∀x c,X.env.cells.lookup x=!c->c≠b)/\∀p∈X.pn++aj,p.1≠b) :
  Inv X aj σ H' { s with heap:=h',gens:=g',drawn:=d',toks:=t'}:=by
 obtain⟨m,⟨o,es,ep,ho,r⟩,_⟩:=id I.loc;obtain⟨sl,hL⟩:=u.any ho I.free λz=>(hch _ z).2.1 rfl
 exact I.step hch (λb o hL hb hc e n=>u.keep b o e n (λz=>(dA.mp (I.vV b z)).elim hL hb) hc) (λb o _ _ hc e n=>u.any e n hc) (λb o hc e n=>u.free b o e n hc) (λb o hc e=>u.there b o e hc) u.tups u.iV u.iW (λm' hm=>by
  obtain⟨o',es',oE,ho',r'⟩:=hm;rw[ho]at ho';cases ho';exact#[_,es',oE,hL,r']) hok hg
theorem Inv.turned{t':Nat}{it:Addr}(I: ~~~7)(k:∀b o,b≠it->s.heap.get? b=!o->h'.get? b=!o)(hn:H it=none)(hL:it≠X.env.locals)
  (h1:it∈X.ex\/X.s₀⁻¹<=it) (h2:∀x c,X.env.cells.lookup x=!c->c≠it) (h3:∀p∈X.pn++aj,p.1≠it):Inv X aj σ H { s with heap:=h',toks:=t'}:=by
 have nit:∀b u,H b=!u->b≠it:=λb u e z=>by rw[z,hn]at e;cases e
 refine I.step (ch:=[it]) (λb hb=>?_) (λb o _ _ hc e _=>k b o (λz=>hc (by simp[z])) e) (λb o _ _ hc e _=>#[o.slots,k b o (λz=>hc (by simp[z])) e]) (λ_ _ _ _ n=>n)
  (λb o hc e=>#[o,k b o (λz=>hc (by simp[z])) e]) (λ_ _ e=>e) (λ_ _ _ e=>e) (λb ps e=>#[([].toArray),by rw[e];simp]) (λm hm=>?_) (λb u e=>?_) I.bare
 .
  have e:b=it:=by simpa using hb
  subst e;exact#[h1,hL,h2,h3]
 . obtain⟨o,es,ep,ho,r⟩:=hm;exact#[o,es,ep,k _ o (wP hL) ho,r]
 .
  refine (I.hok b u e).stay (λc v hc q=>k c v ?_ q) (λ_ q=>q) λ_ _ q=>q
  rcases hc with z |z
  . rw[z];exact nit b u e
  . exact nit c _ z
theorem Inv.tok(I: ~~~7)(t:Nat):Inv X aj σ H { s with toks:=t}:=I.un Un.refl I.hok
theorem Inv.kept{t':Nat}(I: ~~~7)(k:∀b u,s.heap.get? b=!u->h'.get? b=!u):Inv X aj σ H { s with heap:=h',toks:=t'}:=I.un (Un.kept k) (I.hok.kept k)
theorem Inv.laid{a:Addr}{o:HO}{t':Nat}(I: ~~~7)(k:∀b u,s.heap.get? b=!u->h'.get? b=!u)(hp:s⁻¹<=a)(new:bR X.prog X.w (upd H a o) h' a o) :
  Inv X aj σ (upd H a o) { s with heap:=h',toks:=t'}:=I.un (Un.laid k hp (I.hok.fresh hp)) (I.hok.laid k hp new)
theorem Inv.write(I: ~~~7)(mu:Mut (H x))(he:e=x\/H e=!(.own x))(k:∀b u,b≠e->s.heap.get? b=!u->h'.get? b=!u)(V3:∃u,h'.get? e=!u)
  (new:bR X.prog X.w (upd H x o) h' x o):Inv X aj σ (upd H x o) { s with heap:=h',toks:=t'}:=I.un (Un.write mu he k V3) (I.hok.write mu he k V3 new)
theorem Inv.xJ(I: ~~~7)(h:∀p∈W5,s.heap.get? p.1=!p.2/\H p.1=none/\p.1≠X.env.locals/\p.1∉X.fs/\∀v,p.2.data≠.cell v):Inv X W5 σ H s:=
 #[I.ok,I.os,I.bare,I.base,I.loc,I.cell,I.free,I.cG,λp hp=>(kA.mp hp).elim (λz=>I.pin p (mP _ z)) (h p),I.hok,I.len]
theorem lQ{N:List Str}(hN:N.Nodup){i j:Nat}{x:Str}(a:N[i]?=!x)(b:N[j]?=!x):i=j:=by obtain⟨h1,e1⟩:=eJ.mp a;obtain⟨h2,e2⟩:=eJ.mp b;exact (List.getElem_inj hN).mp (e1.trans e2.symm)
theorem oX{M:Model}{A:Around}{E:Value->Shared->Prop}{i:Nat}{x:Str}{v:V}{u:Value}{Q:Unit->Shared->Prop}(I: ~~~7)(hN:X.N.Nodup)(hi:X.N[i]?=!x)(hx:Loc X.env.scope x)(r:RelV v u)
  (h:∀s',Inv X aj (σ.set i (!v)) H s'->(∃a,Heap.SameBut a s.heap s'.heap/\(a=X.env.locals\/X.env.cells.lookup x=!a))->Q () s') (hf:X.fn x=true\/X.env.scope.names.lookup x=some .local:=by first |exact .inl rfl |exact .inr rfl |assumption):wpAny M A (storeName X.env x u) Q E s:=by
 obtain⟨m,hn,hl⟩:=id I.loc;have hcls:(X.env.scope.kind==.class||(X.env.scope.kind==.module&&X.env.locals != X.env.globals))=false:=by rw[I.ok.kind];rfl
 have W6:i<σ.length:=by rw[I.len];exact (eJ.mp hi).1
 have Qc:=I.Qc;have tracked:∀{a:Addr}{h':Heap},(∃o,s.heap.get? a=!o/\H a=none)->Heap.SameBut a s.heap h'->jM X.prog X.w H h':=λ{a h'} ha hs b ob e=>by
  obtain⟨_,_,hfree⟩:=ha;refine (I.hok b ob e).stay (λc w' hc q=>(hs.2 c ?_).trans q) (λ_ q=>q) λ_ _ q=>q
  rintro rfl;rcases hc with rfl |hc
  . rw[hfree]at e;cases e
  . rw[hfree]at hc;cases hc
 rcases hx with hk |hk
 .
  refine wpAny_storeName_local hk hn (λh' hn' hs=>?_) hcls
  obtain⟨oL,_,_,hoL,_⟩:=id hn;refine h _ #[I.ok,I.os,I.bare,#[λb o e n hb hx=>?_,λb o e n hb hx=>?_,I.base.free,λb o e hx=>?_,I.base.tups,I.base.iV,I.base.iW],#[_,hn',λj y v' e1 e2 e3=>?_],λy c e=>?_,I.free,I.cG,λp hp=>?_,tracked #[oL,hoL,I.free] hs,by simpa using I.len] #[_,hs,.inl rfl]
  . exact (hs.2 b (i6 (i4 (fI e) I.ok.above))).trans (I.base.keep b o e n hb hx)
  . obtain⟨sl,e1⟩:=I.base.slot b o e n hb hx;exact#[sl,(hs.2 b (i6 (i4 (fI e) I.ok.above))).trans e1]
  . obtain⟨o',e1⟩:=I.base.there b o e hx;exact#[o',(hs.2 b (i6 (i4 (fI e) I.ok.above))).trans e1]
  .
   by_cases hj:j=i
   . subst hj;rw[hi]at e1;cases e1;rw[nE W6]at e2;cases e2;exact#[u,r,.inl #[hk,by simp]]
   .
    rw[gN (wP hj)]at e2;obtain⟨u',r',q⟩:=hl j y v' e1 e2 e3;refine#[u',r',?_];rcases q with ⟨k,e⟩ |⟨k,c,e,z⟩
    .
     refine .inl #[k,?_];have:y≠x:=λe=>hj (lQ hN e1 (e▸hi))
     simp[this,e]
    . exact .inr #[k,c,e,z.sameBut hs (Qc y c e)]
  . obtain⟨w',z⟩:=I.cell y c e;exact#[w',z.sameBut hs (Qc y c e)]
  . obtain⟨e,n,ne,nf,d⟩:=I.pin p hp;exact#[(hs.2 p.1 ne).trans e,n,ne,nf,d]
 .
  have hfn:X.fn x=true:=by
   rcases hf with z |z
   . exact z
   . rw[z]at hk;cases hk
  obtain⟨c,hc⟩:=I.ok.has x (.inl hk);obtain⟨w',z⟩:=I.cell x c hc;refine wpAny_storeName_cell I.ok.kind hk hc z (λh' hc' hs=>?_)
  obtain⟨oc,hoc,hocd⟩:=id z;refine h { s with heap:=h'} ⟨I.ok,I.os,I.bare,⟨λb o e n hb hx=>?_,λb o e n hb hx=>?_,I.base.free,λb o e hx=>?_,I.base.tups,I.base.iV,I.base.iW⟩,⟨m,hn.sameBut hs (wP (Qc x c hc)),λj y v' e1 e2 e3=>?_⟩,λy c' e=>?_,I.free,I.cG,λp hp=>?_,tracked ⟨oc,hoc,I.cG x c hc⟩ hs,by simpa using I.len⟩ ⟨c,hs,.inr hc⟩
  . exact (hs.2 b (i6 (i4 (fI e) (I.ok.Qa x c hfn hc)))).trans (I.base.keep b o e n hb hx)
  . obtain⟨sl,e1⟩:=I.base.slot b o e n hb hx;exact#[sl,(hs.2 b (i6 (i4 (fI e) (I.ok.Qa x c hfn hc)))).trans e1]
  . obtain⟨o',e1⟩:=I.base.there b o e hx;exact#[o',(hs.2 b (i6 (i4 (fI e) (I.ok.Qa x c hfn hc)))).trans e1]
  .
   by_cases hj:j=i
   . subst hj;rw[hi]at e1;cases e1;rw[nE W6]at e2;cases e2;exact#[u,r,.inr #[.inl hk,c,hc,hc']]
   .
    rw[gN (wP hj)]at e2;obtain⟨u',r',q⟩:=hl j y v' e1 e2 e3;refine#[u',r',?_];rcases q with q |⟨k,c',e,z'⟩
    . exact .inl q
    . refine .inr #[k,c',e,z'.sameBut hs ?_];rintro rfl;exact hj (lQ hN e1 (I.ok.inj _ _ _ e hc▸hi))
  .
   by_cases hcc:c'=c
   . subst hcc;exact#[_,hc']
   . obtain⟨w2,z2⟩:=I.cell y c' e;exact#[w2,z2.sameBut hs hcc]
  . obtain⟨e,n,ne,nf,d⟩:=I.pin p hp;refine#[(hs.2 p.1 ?_).trans e,n,ne,nf,d];intro q;rw[q,hoc]at e;have q':=wS e;exact d w' (by rw[<- q'];exact hocd)
theorem lR{M:Model}{A:Around}{E:Value->Shared->Prop}{i:Nat}{x:Str}{v:V}{u:Value}{Q:Unit->Shared->Prop}(I: ~~~7)(hN:X.N.Nodup)(hi:X.N[i]?=!x)(hx:Loc X.env.scope x)(r:RelV v u)
  (h:∀s',Inv X aj (σ.set i (!v)) H s'->Q () s') (hf:X.fn x=true\/X.env.scope.names.lookup x=some .local:=by first |exact .inl rfl |exact .inr rfl |assumption):wpAny M A (storeName X.env x u) Q E s:=
 oX I hN hi hx r (λs' I' _=>h s' I') hf
theorem Inv.call'(I: ~~~7)(ho:s'.os=s.os)(u:Un (frs X.stack) ch H H' s.heap s'.heap)(hok:jM X.prog X.w H' s'.heap)(hg:AllBare s'.gens)
  (hch:∀b∈ch,(b∈X.ex\/X.s₀⁻¹<=b)/\b≠X.env.locals/\(∀x c,X.env.cells.lookup x=!c->c≠b)/\∀p∈X.pn++aj,p.1≠b):Inv X aj σ H' s':=by
 obtain⟨h',g',d',t',o'⟩:=s';have e:=ho;subst e;exact I.call u hok hg hch
end
abbrev XK:=Value->Option Addr->Hp->Prop
abbrev St:=List (Option V)
abbrev VK:=V->Hp->Prop
abbrev TE:=St->Hp->VK->Prop
abbrev TT:=St->Hp->(Bool->Hp->Prop)->Prop
abbrev TA:=St->Hp->(List V->Hp->Prop)->Prop
structure Ends where
 nx:St->Hp->Prop
 rt:VK
 bk:St->Hp->Prop:=λ_ _=>False
 ct:St->Hp->Prop:=λ_ _=>False
abbrev TS:=Ends->St->Hp->Prop
def EP(X:Cx)(aj: ~~~1)(σ:St)(Q:VK)(u:Value)(s':Shared):Prop:=∃v H',Inv X aj σ H' s'/\RelV v u/\Q v H'
def TP(X:Cx)(aj: ~~~1)(σ:St)(Q:Bool->Hp->Prop)(b:Bool)(s':Shared):Prop:=∃H',Inv X aj σ H' s'/\Q b H'
def AP(X:Cx)(aj: ~~~1)(σ:St)(Q:List V->Hp->Prop)(us:List Value)(s':Shared):Prop:=∃vs H',Inv X aj σ H' s'/\Vals vs us/\Q vs H'
def SP(X:Cx)(aj: ~~~1)(D:Ends)(f:Flow)(s':Shared):Prop:=
 match f with
 |.next=>∃σ' H',Inv X aj σ' H' s'/\D.nx σ' H'
 |.brk=>∃σ' H',Inv X aj σ' H' s'/\D.bk σ' H'
 |.cont=>∃σ' H',Inv X aj σ' H' s'/\D.ct σ' H'
 |.ret u=>∃v σ' H',Inv X aj σ' H' s'/\RelV v u/\D.rt v H'
def PE(X:Cx)(e:Expr)(t:TE):Prop:=
 ∀(aj: ~~~1) (s:Shared) (σ:St) (H:Hp) (Q:VK),Inv X aj σ H s->t σ H Q->wpAny (~~~2) X.A (eval e X.env) (EP X aj σ Q) X.xe s
def PT(X:Cx)(e:Expr)(t:TT):Prop:=
 ∀(aj: ~~~1) (s:Shared) (σ:St) (H:Hp) (Q:Bool->Hp->Prop),Inv X aj σ H s->t σ H Q->wpAny (~~~2) X.A (isTrue e X.env (eval e X.env)) (TP X aj σ Q) X.xe s
def PW(X:Cx)(e:Expr)(t:TT):Prop:=
 ∀(whole:Sem Value) (aj: ~~~1) (s:Shared) (σ:St) (H:Hp) (Q:Bool->Hp->Prop),Inv X aj σ H s->t σ H Q->wpAny (~~~2) X.A (isTrue e X.env whole) (TP X aj σ Q) X.xe s
theorem PW.pt{X:Cx}{e:Expr}{t:TT}(h:PW X e t):PT X e t:=h _
def PA(X:Cx)(es:List Expr)(t:TA):Prop:=
 ∀(pos:Pos) (aj: ~~~1) (s:Shared) (σ:St) (H:Hp) (Q:List V->Hp->Prop),Inv X aj σ H s->t σ H Q->wpAny (~~~2) X.A (spliced (backTo pos (starEach es X.env))) (AP X aj σ Q) X.xe s
def PS(X:Cx)(st:Stmt)(t:TS):Prop:=
 ∀(aj: ~~~1) (s:Shared) (σ:St) (H:Hp) (D:Ends),Inv X aj σ H s->t D σ H->wpAny (~~~2) X.A (exec st X.env) (SP X aj D) X.xe s
def sO(X:Cx)(st:List Stmt)(t:TS):Prop:=
 ∀(aj: ~~~1) (s:Shared) (σ:St) (H:Hp) (D:Ends),Inv X aj σ H s->t D σ H->wpAny (~~~2) X.A (execs st X.env) (SP X aj D) X.xe s
theorem bA{α:Type}{t:Sem α}{Q Q':α->Shared->Prop}{M:Model}{A:Around}{E:Value->Shared->Prop}{s:Shared}(h:wpAny M A t Q E s)(hQ:∀a s,Q a s->Q' a s):wpAny M A t Q' E s:=qS h hQ λ_ _ x=>x
section
variable{X:Cx}
def W7(i:Nat):TE:=λσ H Q=>∃v,σ[i]?=!(!v)/\Q v H
def tC(v:V):TE:=λ_ H Q=>Q v H
theorem fK(hN:X.N[i]?=!x)(hv:sW X.env.scope x)(hd:(x==(~~~3))=false:=by decide)(bM:(x==("__classdict__":Str))=false:=by decide):PE X (.Name x pos) (W7 i):=by
 intro aj s σ H Q I h;obtain⟨v,e,h⟩:=h;obtain⟨m,hn,hl⟩:=I.loc;obtain⟨u,r,l⟩:=hl i x v hN e hv;have fin:EP X aj σ Q u s:=#[v,H,I,r,h];rcases l with ⟨hk,hm⟩ |⟨hk,c,hc,hcell⟩
 . exact EU (wpAny_loadName_local I.ok.kind hk hn hm fin) hd
 .
  rcases hk with hk |hk
  . exact EU (wpAny_loadName_cell I.ok.kind hk hc hcell fin) hd
  . exact EU (wpAny_loadName_free I.ok.kind hk hc hcell fin bM) hd
theorem qE{i j pos}:PE X (.Constant (.int i) j pos) (tC (.int i)):=λ_ _ _ H _ I h=>wpAny_Constant_int #[.int i,H,I.tok _,#[_,rfl],h]
theorem W8{b j pos}:PE X (.Constant (.bool b) j pos) (tC (.bl b)):=λ_ _ _ H _ I h=>Constant_bool #[.bl b,H,I,rfl,h]
theorem CJ{j pos}:PE X (.Constant .none j pos) (tC .non):=λ_ _ _ H _ I h=>Constant_none #[.non,H,I,rfl,h]
theorem CK{x j pos}:PE X (.Constant (.str x) j pos) (tC (.str x)):=λ_ _ _ H _ I h=>Calls.Constant_str #[.str x,H,I.tok _,#[_,rfl],h]
def Gl(X:Cx)(x:Str):Prop:=X.env.kindOf x=some .globalImplicit
theorem eH{E:Value->Shared->Prop}{aj: ~~~1}{s:Shared}{σ:St}{H:Hp}{x:Str}{u:Value}{pos:Pos}{Q:Value->Shared->Prop}(I: ~~~7)(hg:Gl X x)(hm:X.mg x=!u)(h:Q u s)
  (hd:(x==(~~~3))=false:=by decide):wpAny (~~~2) X.A (eval (.Name x pos) X.env) Q E s:=
 Calls.Name_function_global I.ok.kind hg (Calls.loadGlobal_global (by rw[I.ok.glob];exact I.mod.glob.keeps I.bk) hm h) hd
theorem eK{E:Value->Shared->Prop}{aj: ~~~1}{s:Shared}{σ:St}{H:Hp}{x:Str}{u:Value}{pos:Pos}{Q:Value->Shared->Prop}(I: ~~~7)(hg:Gl X x)(hm:X.mg x=none)(hv:bootBuiltins x=!u)(h:Q u s)
  (hn:x≠ "__name__" :=by decide) (hd:(x==(~~~3))=false:=by decide):wpAny (~~~2) X.A (eval (.Name x pos) X.env) Q E s:=by
 obtain⟨mb,h1,h2⟩:=I.mod.blt;exact Calls.Name_function_global I.ok.kind hg (Calls.loadGlobal_builtin (by rw[I.ok.glob];exact I.mod.glob.keeps I.bk) hm (by rw[I.ok.blt];exact h1.keeps I.bk) ((h2 x hn).trans hv) h) hd
theorem xK(hg:Gl X x)(hm:X.mg x=!u)(r:RelV v u)(hd:(x==(~~~3))=false:=by decide):PE X (.Name x pos) (tC v):=
 λ_ _ _ H _ I h=>eH I hg hm #[v,H,I,r,h] hd
theorem qF(hg:Gl X x)(hm:X.mg x=none)(hv:bootBuiltins x=!u)(r:RelV v u)(hn:x≠ "__name__" :=by decide)(hd:(x==(~~~3))=false:=by decide):PE X (.Name x pos) (tC v):=
 λ_ _ _ H _ I h=>eK I hg hm hv #[v,H,I,r,h] hn hd
variable{a b:Expr}{ta tb:TE}{pos:Pos}
def tB(t:TE):TT:=λσ H Q=>t σ H λx H1=>∃c,x=.bl c/\Q c H1
theorem Qd{e:Expr}{t:TE}(h:PE X e t)(he:∀whole,isTrue e X.env whole=(do let v <- whole;standAt e.pos;holding [v] (truthy v)):=by intro _;rfl):PT X e (tB t):=by
 intro aj s σ H Q I hw;refine isTrue_plain (bA (h aj s σ H _ I hw) λv s1 #[x,H1,I1,r1,q1]=>?_) (he _)
 obtain⟨d,rfl,q⟩:=q1;cases r1;exact t8 #[H1,I1,q]
variable{tA tB':TT}{rest:List Expr}
noncomputable def tAnd(t u:TT):TT:=λσ H Q=>t σ H λc H1=>if c=true then u σ H1 Q else Q false H1
noncomputable def tOr(t u:TT):TT:=λσ H Q=>t σ H λc H1=>if c=true then Q true H1 else u σ H1 Q
def tNot(t:TT):TT:=λσ H Q=>t σ H λc H1=>Q ((not c)) H1
theorem pw_and1(ha:PT X a tA):PW X (.BoolOp .And [a] pos) tA:=by
 intro wh aj s σ H Q I h;refine isTrue_and (bA (ha aj s σ H Q I h) λc s1 e=>?_)
 cases c with
 |true=>exact isTrue_and_nil e
 |false=>exact e
theorem pw_or1(ha:PT X a tA):PW X (.BoolOp .Or [a] pos) tA:=by
 intro wh aj s σ H Q I h;refine isTrue_or (bA (ha aj s σ H Q I h) λc s1 e=>?_)
 cases c with
 |false=>exact isTrue_or_nil e
 |true=>exact e
theorem pw_and(ha:PT X a tA)(hb:PW X (.BoolOp .And (b::rest) pos) tB'):PW X (.BoolOp .And (a::b::rest) pos) (tAnd tA tB'):=by
 intro wh aj s σ H Q I h;refine isTrue_and (bA (ha aj s σ H _ I h) ?_);rintro c s1 ⟨H1,I1,q1⟩;cases c with
 |true=>exact hb wh aj s1 σ H1 Q I1 q1
 |false=>exact#[H1,I1,q1]
theorem pw_or(ha:PT X a tA)(hb:PW X (.BoolOp .Or (b::rest) pos) tB'):PW X (.BoolOp .Or (a::b::rest) pos) (tOr tA tB'):=by
 intro wh aj s σ H Q I h;refine isTrue_or (bA (ha aj s σ H _ I h) ?_);rintro c s1 ⟨H1,I1,q1⟩;cases c with
 |true=>exact#[H1,I1,q1]
 |false=>exact hb wh aj s1 σ H1 Q I1 q1
theorem CN(ha:PT X a tA):PT X (.UnaryOp .Not a pos) (tNot tA):=by intro aj s σ H Q I h;exact isTrue_not (ha aj s σ H (λc H1=>Q ((not c)) H1) I h)
noncomputable def W9(ta tb:TE):TE:=λσ H Q=>ta σ H λx H1=>∃c,x=.bl c/\if c=true then tb σ H1 Q else Q (.bl false) H1
noncomputable def tOrV(ta tb:TE):TE:=λσ H Q=>ta σ H λx H1=>∃c,x=.bl c/\if c=true then Q (.bl true) H1 else tb σ H1 Q
def Xa(ta:TE):TE:=λσ H Q=>ta σ H λx H1=>∃c,x=.bl c/\Q (.bl ((not c))) H1
theorem Qe{op}(h:PE X a t):PE X (.BoolOp op [a] pos) t:=λaj s σ H Q I hw=>BoolOp_one (h aj s σ H Q I hw)
theorem CP(ha:PE X a ta)(hb:PE X (.BoolOp .And (b::rest) pos) tb):PE X (.BoolOp .And (a::b::rest) pos) (W9 ta tb):=by
 intro aj s σ H Q I h;refine BoolOp_and (bA (ha aj s σ H _ I h) ?_);rintro v s1 ⟨x,H1,I1,r1,q1⟩;obtain⟨c,rfl,q1⟩:=q1;cases r1;refine t8 ?_;cases c with
 |true=>exact hb aj s1 σ H1 Q I1 q1
 |false=>exact#[.bl false,H1,I1,rfl,q1]
theorem Oo(ha:PE X a ta)(hb:PE X (.BoolOp .Or (b::rest) pos) tb):PE X (.BoolOp .Or (a::b::rest) pos) (tOrV ta tb):=by
 intro aj s σ H Q I h;refine BoolOp_or (bA (ha aj s σ H _ I h) ?_);rintro v s1 ⟨x,H1,I1,r1,q1⟩;obtain⟨c,rfl,q1⟩:=q1;cases r1;refine t8 ?_;cases c with
 |false=>exact hb aj s1 σ H1 Q I1 q1
 |true=>exact#[.bl true,H1,I1,rfl,q1]
theorem Qf(ha:PE X a ta):PE X (.UnaryOp .Not a pos) (Xa ta):=by intro aj s σ H Q I h;refine UnaryOp_ (bA (ha aj s σ H _ I h) ?_);rintro v s1 ⟨x,H1,I1,r1,q1⟩;obtain⟨c,rfl,q1⟩:=q1;cases r1;exact not_of (t8 #[.bl ((not c)),H1,I1,rfl,q1])
noncomputable def tIf(t:TT)(ta tb:TE):TE:=λσ H Q=>t σ H λc H1=>if c=true then ta σ H1 Q else tb σ H1 Q
theorem sY{c:Expr}(hc:PT X c tA)(ha:PE X a ta)(hb:PE X b tb):PE X (.IfExp c a b pos) (tIf tA ta tb):=by
 intro aj s σ H Q I h;refine wpAny_IfExp (bA (hc aj s σ H _ I h) ?_);rintro d s1 ⟨H1,I1,q1⟩;cases d with
 |true=>exact ha aj s1 σ H1 Q I1 q1
 |false=>exact hb aj s1 σ H1 Q I1 q1
end
def bD(K:Frag)(H:Hp)(a:Addr)(xs:List V):Prop:=
 Rd H a (.lst xs)\/
  ∃(o:Obj) (its:Array Value) (n:Nat),K.lookup a=!o/\o.cls=.type "list" /\o.dict=none/\o.data=.seq its n/\its.size<=sizeLine/\Vals xs its.toList
def fG(K:Frag)(H:Hp)(a:Addr)(xs:List V):Prop:=
 Rd H a (.tup xs)\/
  ∃(o:Obj) (its:Array Value) (n:Nat),K.lookup a=!o/\o.cls=.type "tuple" /\o.data=.seq its n/\its.size<=sizeLine/\Vals xs its.toList
noncomputable def absV:Value->Option V
 |.none=>some .non
 |.bool b=>!(.bl b)
 |.int i _=>!(.int i)
 |.str x _=>!(.str x)
 |.bytes b _=>!(.P8 b)
 |.float b _=>!(.flt b)
 |.ref a=>!(.ref a)
 |.type n=>!(.ty n)
 |_=>none
theorem RelV.abs(r:RelV x u):absV u=!x:=by
 cases x with
 |non=>cases r;rfl
 |bl _=>cases r;rfl
 |int _=>obtain⟨t,rfl⟩:=r;rfl
 |str _=>obtain⟨t,rfl⟩:=r;rfl
 |P8 _=>obtain⟨t,rfl⟩:=r;rfl
 |flt _=>obtain⟨t,rfl⟩:=r;rfl
 |ref _=>cases r;rfl
 |ty _=>cases r;rfl
theorem RelV.inj{x y:V}{u:Value}(r:RelV x u)(q:RelV y u):x=y:=wS (r.abs.symm.trans q.abs)
theorem Vals.inj:∀{xs ys:List V}{us:List Value},Vals xs us->Vals ys us->xs=ys:=by
 intro xs ys us h
 induction h generalizing ys with
 |nil=>intro h';cases h';rfl
 |cons r t ih=>intro h';cases h' with |cons r' t'=>rw[r.inj r',ih t']
section
variable{X:Cx}{aj: ~~~1}{σ:St}{H:Hp}{s:Shared}{a:Addr}{xs ys:List V}
theorem bD.of{K:Frag}(h:H a=!(.lst xs)):bD K H a xs:=.inl (.inl h)
theorem Inv.list(I: ~~~7)(h:bD X.K H a xs):∃its:List Value,Vals xs its/\PlainL s.heap a its.toArray/\xs.length<=sizeLine:=by
 rcases h with h |⟨o,its,n,hk,hc,hd,hs,hz,r⟩
 . obtain⟨z,its,n,r,e⟩:=h.ok I.hok;exact#[its,r,#[_,n,e,rfl,rfl,rfl],z]
 .
  refine#[its.toList,r,#[o,n,I.oA a o hk,hc,hd,by simpa using hs],?_]
  have e:=r.length;simp only[fR]at e;lia
theorem Inv.tuple(I: ~~~7)(h:fG X.K H a xs):∃its:List Value,Vals xs its/\IsTup s.heap a its.toArray/\xs.length<=sizeLine:=by
 rcases h with h |⟨o,its,n,hk,hc,hs,hz,r⟩
 . obtain⟨z,its,r,p⟩:=h.ok I.hok;exact#[its,r,p.tup,z]
 .
  refine#[its.toList,r,#[o,I.oA a o hk,hc,n,by simpa using hs],?_]
  have e:=r.length;simp only[fR]at e;lia
theorem Inv.sZ(I: ~~~7)(h:bD X.K H a xs)(h':bD X.K H a ys):xs=ys:=by
 obtain⟨its,r,⟨o,n,e,_,_,d⟩,_⟩:=I.list h;obtain⟨its',r',⟨o',n',e',_,_,d'⟩,_⟩:=I.list h';rw[e]at e';cases e';rw[d]at d';injection d' with d1 _;have:its=its':=by simpa using congrArg Array.toList d1
 subst this;exact r.inj r'
theorem Inv.oY(I: ~~~7)(h:fG X.K H a xs)(h':fG X.K H a ys):xs=ys:=by
 obtain⟨its,r,⟨o,e,_,n,d⟩,_⟩:=I.tuple h;obtain⟨its',r',⟨o',e',_,n',d'⟩,_⟩:=I.tuple h';rw[e]at e';cases e';rw[d]at d';injection d' with d1 _;have:its=its':=by simpa using congrArg Array.toList d1
 subst this;exact r.inj r'
end
abbrev Cx.wish(X:Cx)(E:Value->Shared->Prop):Cx:={ X with xe:=E}
abbrev Cx.qG(X:Cx):Cx:=X.wish λ_ _=>False
theorem Cx.Ok.wish{X:Cx}(ok:X.Ok)(E:Value->Shared->Prop):(X.wish E).Ok:=
 #[ok.mod,ok.kind,ok.glob,ok.blt,ok.above,ok.inj,ok.has,ok.Qa,ok.hd,ok.frames,ok.stk,ok.V4,ok.bs,ok.CG,ok.sX,ok.vU,ok.iX,ok.Jo]
theorem Cx.Ok.bU{X:Cx}{E:Value->Shared->Prop}(ok:(X.wish E).Ok):X.Ok:=
 #[ok.mod,ok.kind,ok.glob,ok.blt,ok.above,ok.inj,ok.has,ok.Qa,ok.hd,ok.frames,ok.stk,ok.V4,ok.bs,ok.CG,ok.sX,ok.vU,ok.iX,ok.Jo]
section
variable{X:Cx}{aj: ~~~1}{σ:St}{H:Hp}{s:Shared}{E:Value->Shared->Prop}
theorem Inv.wish(I: ~~~7)(E:Value->Shared->Prop):Inv (X.wish E) aj σ H s:=#[I.ok.wish E,I.os,I.bare,I.base,I.loc,I.cell,I.free,I.cG,I.pin,I.hok,I.len]
theorem Inv.bU(I:Inv (X.wish E) aj σ H s):Inv X aj σ H s:=#[I.ok.bU,I.os,I.bare,I.base,I.loc,I.cell,I.free,I.cG,I.pin,I.hok,I.len]
theorem SP.bU(h:SP (X.wish E) aj D f s'):SP X aj D f s':=by
 cases f with
 |next=>obtain⟨σ',H',I,q⟩:=h;exact#[σ',H',I.bU,q]
 |brk=>obtain⟨σ',H',I,q⟩:=h;exact#[σ',H',I.bU,q]
 |cont=>obtain⟨σ',H',I,q⟩:=h;exact#[σ',H',I.bU,q]
 |ret u=>obtain⟨v,σ',H',I,r,q⟩:=h;exact#[v,σ',H',I.bU,r,q]
theorem PE.qG(h:PE X.qG e t):PE X e t:=λaj s σ H Q I hw=>
 qS (h aj s σ H Q (I.wish _) hw) (by rintro _ _ ⟨v,H',I',r,q⟩;exact#[v,H',I'.bU,r,q]) λ_ _ z=>False.elim z
theorem PT.qG(h:PT X.qG e t):PT X e t:=λaj s σ H Q I hw=>
 qS (h aj s σ H Q (I.wish _) hw) (by rintro _ _ ⟨H',I',q⟩;exact#[H',I'.bU,q]) λ_ _ z=>False.elim z
theorem sO.qG{st:List Stmt}{t:TS}(h:sO X.qG st t):sO X st t:=λaj s σ H D I hw=>
 qS (h aj s σ H D (I.wish _) hw) (λ_ _ q=>q.bU) λ_ _ z=>False.elim z
end
section
variable{X:Cx}{st:Stmt}{rest:List Stmt}{t u:TS}{e:Expr}{te:TE}{pos:Pos}
def Xc:TS:=λD σ H=>D.nx σ H
def Xd(t u:TS):TS:=λD σ H=>t { D with nx:=u D} σ H
theorem xM:sO X [] Xc:=λ_ _ σ H _ I h=>wpAny_execs_nil #[σ,H,I,h]
theorem cZ(h1:PS X st t)(h2:sO X rest u):sO X (st::rest) (Xd t u):=by
 intro aj s σ H D I h;refine CU (bA (h1 aj s σ H { D with nx:=u D} I h) λf s1 q=>?_)
 cases f with
 |next=>obtain⟨σ',H',I',q⟩:=q;exact h2 aj s1 σ' H' D I' q
 |ret v=>exact q
 |brk=>exact q
 |cont=>exact q
theorem iY(h1:PS X st t):sO X [st] t:=by
 intro aj s σ H D I h;refine CU (bA (h1 aj s σ H D I h) λf s1 q=>?_)
 cases f with
 |next=>exact wpAny_execs_nil q
 |ret v=>exact q
 |brk=>exact q
 |cont=>exact q
theorem Inv.quiet{aj: ~~~1}{σ:St}{H:Hp}{s:Shared}(I: ~~~7):interactive X.env=false:=by simp[interactive,I.ok.kind]
def Xe(te:TE):TS:=λD σ H=>te σ H λ_ H1=>D.nx σ H1
theorem xN(he:PE X e te)(hs:swapsWith e none pos.line X.env=pure false:=by rfl):PS X (.Expr e pos) (Xe te):=by intro aj s σ H D I h;exact wpAny_Expr_any (bA (he aj s σ H _ I h) (by rintro v s1 ⟨x,H1,I1,r1,q1⟩;exact#[σ,H1,I1,q1])) I.quiet hs
def tRet(te:TE):TS:=λD σ H=>te σ H D.rt
theorem vW(he:PE X e te):PS X (.Return (!e) pos) (tRet te):=by intro aj s σ H D I h;exact wpAny_Return_some (bA (he aj s σ H _ I h) (by rintro v s1 ⟨x,H1,I1,r1,q1⟩;exact#[x,σ,H1,I1,r1,q1]))
noncomputable def tIfS(c:TT)(t u:TS):TS:=λD σ H=>c σ H λb H1=>if b=true then t D σ H1 else u D σ H1
theorem oZ{c:Expr}{a b:List Stmt}{tc:TT}(hc:PT X c tc)(ha:sO X a t)(hb:sO X b u):PS X (.If c a b pos) (tIfS tc t u):=by
 intro aj s σ H D I h;refine wpAny_If (bA (hc aj s σ H _ I h) ?_);rintro d s1 ⟨H1,I1,q1⟩;cases d with
 |true=>exact ha aj s1 σ H1 D I1 q1
 |false=>exact hb aj s1 σ H1 D I1 q1
def Qg:TS:=λ_ _ _=>False
theorem bw:sO X ig Qg:=λ_ _ _ _ _ _ h=>h.elim
end
abbrev TG:=V->St->Hp->(St->Hp->Prop)->Prop
abbrev Qh:=List V->St->Hp->(St->Hp->Prop)->Prop
def PG(X:Cx)(target:Expr)(t:TG):Prop:=
 ∀(aj: ~~~1) (s:Shared) (σ:St) (H:Hp) (v:V) (u:Value) (Q:St->Hp->Prop),Inv X aj σ H s->RelV v u->t v σ H Q->
  wpAny (~~~2) X.A (assign target X.env u) (λ_ s'=>∃σ' H',Inv X aj σ' H' s'/\Q σ' H') X.xe s
def V5(X:Cx)(ts:List Expr)(t:Qh):Prop:=
 ∀(aj: ~~~1) (s:Shared) (σ:St) (H:Hp) (vs:List V) (us:List Value) (Q:St->Hp->Prop),Inv X aj σ H s->Vals vs us->t vs σ H Q->
  wpAny (~~~2) X.A (assignInOrder ((assignEach ts X.env).map (·.2)) us) (λ_ s'=>∃σ' H',Inv X aj σ' H' s'/\Q σ' H') X.xe s
abbrev zB:=V->V->V->Hp->(Hp->Prop)->Prop
def Qi(X:Cx)(t:zB):Prop:=
 ∀(aj: ~~~1) (s:Shared) (σ:St) (H:Hp) (o i v:V) (ov iv u:Value) (Q:Hp->Prop),Inv X aj σ H s->RelV o ov->RelV i iv->RelV v u->t o i v H Q->
  wpAny (~~~2) X.A (setItem ov iv u) (λ_ s'=>∃H',Inv X aj σ H' s'/\Q H') X.xe s
abbrev TIp:=V->V->Hp->VK->Prop
def PIp(X:Cx)(op:Operator)(t:TIp):Prop:=
 ∀(aj: ~~~1) (s:Shared) (σ:St) (H:Hp) (x y:V) (v u:Value) (Q:VK),Inv X aj σ H s->RelV x v->RelV y u->t x y H Q->
  wpAny (~~~2) X.A (inplaceOp op v u) (EP X aj σ Q) X.xe s
section
variable{X:Cx}{pos:Pos}
def CQ(i:Nat):TG:=λv σ H Q=>Q (σ.set i (!v)) H
theorem iZ(hN:X.N.Nodup)(hi:X.N[i]?=!x)(hx:Loc X.env.scope x)(hf:X.fn x=true\/X.env.scope.names.lookup x=some .local:=by first |exact .inl rfl |exact .inr rfl |assumption):PG X (.Name x pos) (CQ i):=by intro aj s σ H v u Q I r h;exact wpAny_assign_Name (lR I hN hi hx r (λs' I'=>#[_,H,I',h]) hf)
def gNil:Qh:=λvs σ H Q=>vs=[]/\Q σ H
noncomputable def Xg(t:TG)(u:Qh):Qh:=λvs σ H Q=>∃v r,vs=v::r/\t v σ H λσ' H'=>u r σ' H' Q
theorem Jp:V5 X [] gNil:=by intro aj s σ H vs us Q I r h;obtain⟨e,h⟩:=h;subst e;exact assignInOrder_nil #[σ,H,I,h]
theorem CT{e:Expr}{es:List Expr}{t:TG}{u:Qh}(h1:PG X e t)(h2:V5 X es u)
  (hs:(assignEach (e::es) X.env).map (·.2)=assign e X.env::(assignEach es X.env).map (·.2):=by rfl):V5 X (e::es) (Xg t u):=by
 intro aj s σ H vs us Q I r h;obtain⟨v,vr,e1,h⟩:=h;subst e1;cases r with
 |cons r rr=>rw[hs];refine assignInOrder_cons (bA (h1 aj s σ H _ _ _ I r h) ?_);rintro _ s1 ⟨σ1,H1,I1,q1⟩;exact h2 aj s1 σ1 H1 _ _ Q I1 rr q1
def gTup(K:Frag)(n:Nat)(t:Qh):TG:=λv σ H Q=>∃a xs,v=.ref a/\fG K H a xs/\xs.length=n/\t xs σ H Q
theorem Qj(hc:X.calm=true)(h:V5 X es t)
  (hn:(assignEach es X.env).length=n:=by rfl) (bT:(assignEach es X.env).findIdx? (·.1)=none:=by rfl):PG X (.Tuple es k pos) (gTup X.K n t):=by
 intro aj s σ H v u Q I r hw;obtain⟨a,xs,e1,hq,hl,hw⟩:=hw;subst e1;cases r;obtain⟨its,rv,ht,hz⟩:=I.tuple hq;refine assign_Tuple_tuple (I.ok.hd hc) ht (by simp[hn,<- hl,rv.length]) bT λh' hx=>?_
 have I1:=I.kept (t':=s.toks) λb o e=>hx b o (i6 (fI e)) e
 exact h aj _ σ H xs _ Q I1 (by simpa using rv) hw
noncomputable def gSub(to ti:TE)(t:zB):TG:=λv σ H Q=>to σ H λo H1=>ti σ H1 λi H2=>t o i v H2 λH3=>Q σ H3
theorem Qk{o i:Expr}{to ti:TE}{t:zB}(ho:PE X o to)(hi:PE X i ti)(hs:Qi X t)
  (ha:∀v,assign (.Subscript o i pos) X.env v=(do
   let ov <- holding [v] (eval o X.env)
   let iv <- holding [v,ov] (eval i X.env)
   standAt pos
   holding [v,ov,iv] (setItem ov iv v)
   release [v,ov,iv] []):=by intro _;rfl):PG X (.Subscript o i pos) (gSub to ti t):=by
 intro aj s σ H v u Q I r h;refine aS (sB (bA (ho aj s σ H _ I h) ?_));rintro ov s1 ⟨x,H1,I1,r1,q1⟩;refine aS (sB (bA (hi aj s1 σ H1 _ I1 q1) ?_));rintro iv s2 ⟨y,H2,I2,r2,q2⟩;refine aS (wpAny_standAt (aS (sB (bA (hs aj s2 σ H2 x y v ov iv u _ I2 r1 r2 r q2) ?_))));rintro _ s3 ⟨H3,I3,q3⟩;exact wpAny_release #[σ,H3,I3,q3]
def Ql(te:TE)(g:TG):TS:=λD σ H=>te σ H λx H1=>g x σ H1 D.nx
theorem Qm{tg e:Expr}{te:TE}{g:TG}(he:PE X e te)(hg:PG X tg g)(hs:swapsWithSole [tg] e pos.line X.env=pure false:=by rfl)(hw:swappedStores [tg] e X.env=pure none:=by rfl)
  (h1:(assignEach [tg] X.env).map (·.2)=[assign tg X.env]:=by rfl):PS X (.Assign [tg] e pos) (Ql te g):=by
 intro aj s σ H D I h;refine wpAny_Assign_stores (bA (he aj s σ H _ I h) ?_) hs hw;rintro v s1 ⟨x,H1,I1,r1,q1⟩;rw[h1];exact bA (hg aj s1 σ H1 x v _ I1 r1 q1) λ_ s2 q=>q
theorem lT{i:Nat}{x:Str}{e:Expr}{te:TE}{pos':Pos}(hN:X.N.Nodup)(hi:X.N[i]?=!x)(hx:Loc X.env.scope x)(he:PE X e te)(hs:swapsWith e (!(.Name x pos')) pos.line X.env=pure false:=by rfl)(hf:X.fn x=true\/X.env.scope.names.lookup x=some .local:=by first |exact .inl rfl |exact .inr rfl |assumption) :
  PS X (.Assign [.Name x pos'] e pos) (Ql te (CQ i)):=by
 intro aj s σ H D I h;refine wpAny_Assign_Name (bA (he aj s σ H _ I h) ?_) hs;rintro v s1 ⟨y,H1,I1,r1,q1⟩;exact lR I1 hN hi hx r1 (λs2 I2=>#[_,H1,I2,q1]) hf
noncomputable def Xh(to ti te:TE)(Jq:V->V->Hp->VK->Prop)(tip:TIp)(Jr:zB):TS:=λD σ H=>to σ H λo H1=>ti σ H1 λi H2=>Jq o i H2 λx H3=>te σ H3 λy H4=>tip x y H4 λz H5=>Jr o i z H5 λH6=>D.nx σ H6
def Xi(X:Cx)(t:V->V->Hp->VK->Prop):Prop:=
 ∀(aj: ~~~1) (s:Shared) (σ:St) (H:Hp) (o i:V) (ov iv:Value) (Q:VK),Inv X aj σ H s->RelV o ov->RelV i iv->t o i H Q->
  wpAny (~~~2) X.A (getItem ov iv) (EP X aj σ Q) X.xe s
theorem Js{o i e:Expr}{to ti te:TE}{Jq:V->V->Hp->VK->Prop}{tip:TIp}{Jr:zB}{op:Operator}{kB:Pos}(ho:PE X o to)(hi:PE X i ti)(hg:Xi X Jq)(he:PE X e te)(hp:PIp X op tip)(hs:Qi X Jr)
  (ha:∀ov iv new,augStore i ov iv new=(do holding [new,ov,iv] (setItem ov iv new);release [new,ov,iv] [];pure .next):=by intros;rfl):PS X (.AugAssign (.Subscript o i kB) op e pos) (Xh to ti te Jq tip Jr):=by
 intro aj s σ H D I h;refine wpAny_AugAssign_SubscriptAny (bA (ho aj s σ H _ I h) ?_) ha;rintro ov s1 ⟨x1,H1,I1,r1,q1⟩;refine bA (hi aj s1 σ H1 _ I1 q1) ?_;rintro iv s2 ⟨x2,H2,I2,r2,q2⟩;refine bA (hg aj s2 σ H2 x1 x2 ov iv _ I2 r1 r2 q2) ?_;rintro old s3 ⟨x3,H3,I3,r3,q3⟩;refine bA (he aj s3 σ H3 _ I3 q3) ?_;rintro v s4 ⟨x4,H4,I4,r4,q4⟩;refine bA (hp aj s4 σ H4 x3 x4 old v _ I4 r3 r4 q4) ?_;rintro new s5 ⟨x5,H5,I5,r5,q5⟩;exact bA (hs aj s5 σ H5 x1 x2 x5 ov iv new _ I5 r1 r2 r5 q5) (by rintro _ s6 ⟨H6,I6,q6⟩;exact#[σ,H6,I6,q6])
noncomputable def ipI(f:Int->Int->Int):TIp:=λx y H Q=>∃i j,x=.int i/\y=.int j/\Q (.int (f i j)) H
theorem Qo:PIp X .Add (ipI λi j=>i+j):=by intro aj s σ H x y v u Q I r1 r2 h;obtain⟨i,j,e1,e2,q⟩:=h;subst e1;subst e2;obtain⟨t,rfl⟩:=r1;obtain⟨t',rfl⟩:=r2;exact iadd_int #[.int _,H,I.tok _,#[_,rfl],q]
end
structure It where
 go:Nat->Hp->Prop
 Xj:Nat->Hp->V->Hp->Prop
 stop:Nat->Hp->Prop
def jc(X:Cx)(aj: ~~~1)(H:Hp)(b:Addr):Prop:=
 H b=none/\b≠X.env.locals/\b∉X.fs/\(b∈X.ex\/X.s₀⁻¹<=b)/\(∀x c,X.env.cells.lookup x=!c->c≠b)/\∀p∈X.pn++aj,p.1≠b
theorem Inv.qH{X:Cx}{aj: ~~~1}{σ:St}{H H':Hp}{s:Shared}{b:Addr}(I: ~~~7)(hb:s⁻¹<=b)(hn:H' b=none):jc X aj H' b:=by
 refine#[hn,AV (i4 I.lt hb),I.nofs hb,.inr (oI I.sz hb),λx c e z=>?_,λp hp z=>?_]
 . obtain⟨v,q⟩:=I.cell x c e;exact absurd (i4 q.lt (by rw[z];exact hb)) (yA _)
 . exact absurd (i4 (fI (I.pin p hp).1) (by rw[z];exact hb)) (yA _)
structure Turn(P:Program)(w:World)(K:Frag)(tg:Expr)(J:It)(fp:List Addr)(it:Addr)(tn:Nat->Heap->Prop):Prop where
 mem:it∈fp
 obj:∀i h,tn i h->∀b∈fp,∃o,h.get? b=!o/\∀v,o.data≠.cell v
 keep:∀i h h',tn i h->(∀b∈fp,∀o,h.get? b=!o->h'.get? b=!o)->tn i h'
 item:∀(X:Cx),X.prog=P->X.w=w->X.K=K->X.calm=true->∀(i:Nat) (aj: ~~~1) (s:Shared) (σ:St) (H:Hp) (E:Value->Shared->Prop),Inv X aj σ H s->(∀b∈fp,jc X aj H b)->tn i s.heap->J.go i H->
  wpAny (model P w) X.A (pyNext (.ref it)) (λr s1=>∃u,r=!u/\
   wpAny (model P w) X.A (letOwnedTupleGo tg (.ref it) u) (λ_ s2=>∃x H',Inv X aj σ H' s2/\RelV x u/\J.Xj i H x H'/\tn (i+1) s2.heap/\∀b∈fp,H' b=none) E s1) E s
 done:∀(X:Cx),X.prog=P->X.w=w->X.K=K->X.calm=true->∀(i:Nat) (aj: ~~~1) (s:Shared) (σ:St) (H:Hp) (E:Value->Shared->Prop),Inv X aj σ H s->(∀b∈fp,jc X aj H b)->tn i s.heap->J.stop i H->
  wpAny (model P w) X.A (pyNext (.ref it)) (λr s1=>r=none/\Inv X aj σ H s1) E s
 self:∀(A:Around) (i:Nat) (s:Shared) (Q:Value->Shared->Prop) (E:Value->Shared->Prop),tn i s.heap->Q (.ref it) s->wpAny (model P w) A (pyIter (.ref it)) Q E s
abbrev TI:=St->Hp->(It->Hp->Prop)->Prop
def PIE(X:Cx)(aj: ~~~1)(σ:St)(tg:Expr)(R:It->Hp->Prop)(itv:Value)(s2:Shared):Prop:=
 ∃(it:Addr) (fp:List Addr) (tn:Nat->Heap->Prop) (J:It) (H':Hp),itv=.ref it/\Inv X aj σ H' s2/\Turn X.prog X.w X.K tg J fp it tn/\tn 0 s2.heap/\(∀b∈fp,jc X aj H' b)/\R J H'
def PI(X:Cx)(tg iter:Expr)(wi:TI):Prop:=
 ∀(aj: ~~~1) (s:Shared) (σ:St) (H:Hp) (R:It->Hp->Prop),Inv X aj σ H s->wi σ H R->
  wpAny (~~~2) X.A (eval iter X.env) (λv s1=>wpAny (~~~2) X.A (pyIter v) (PIE X aj σ tg R) X.xe s1) X.xe s
theorem tD(ho:s.heap.get? it=!o)(hc:o.cls=.type n)(hd:o.data=.fields vs)
  (hn:["enumerate", "zip", "dict_itemiterator", "dict_reverseitemiterator", "odict_iterator", "itertools.zip_longest", "itertools.pairwise"].contains n=false) (hQ:Q () s):wpAny M A (letOwnedTupleGo tg (.ref it) u) Q E s:=by
 cases tg <;> first
  |exact dL hQ
  | (cases u <;> first
    |exact dL hQ
    | (refine aS (wpAny_load ho ?_)
       rw[hc,hd];show wpAny M A (if (["enumerate", "zip", "dict_itemiterator", "dict_reverseitemiterator", "odict_iterator", "itertools.zip_longest", "itertools.pairwise"].contains n&&vs[0]?==!(rawInt _))=true then _ else _) Q E s
       rw[sK (by intro h;rw[hn]at h;symm)]
       exact dL hQ))
def Itl(K:Frag)(a:Addr):It:=
 #[λi H=>∃xs x,bD K H a xs/\xs[i]?=!x,λi H x H'=>H'=H/\∀xs,bD K H a xs->xs[i]?=!x,λi H=>∃xs,bD K H a xs/\xs.length<=i]
def Itt(K:Frag)(a:Addr):It:=
 #[λi H=>∃xs x,fG K H a xs/\xs[i]?=!x,λi H x H'=>H'=H/\∀xs,fG K H a xs->xs[i]?=!x,λi H=>∃xs,fG K H a xs/\xs.length<=i]
noncomputable def Qp(lo:Int)(n:Nat):It:=#[λi _=>i<n,λi H x H'=>H'=H/\x=.int (lo+i),λi _=>n<=i]
theorem zC{P:Program}{w:World}{K:Frag}{tg:Expr}(a it:Addr):Turn P w K tg (Itl K a) [it] it (λi h=>h.IsListIter it a i) where
 mem:=by simp
 obj:=λi h st b hb=>by
  have e:b=it:=by simpa using hb
  subst e;obtain⟨o,e,c,d⟩:=st;exact#[o,e,λv z=>by rw[d]at z;cases z]
 keep:=λi h h' st k=>st.at λo e=>k it ⋯ o e
 item:=by
  intro X hP hw hK hc i aj s σ H E I hf st hg;subst hP hw hK;obtain⟨xs,x,hq,hx⟩:=hg;obtain⟨its,rv,p,hz⟩:=I.list hq;obtain⟨u,hu,ru⟩:=rv.get hx;obtain⟨f0,f1,f2,f3,f4,f5⟩:=hf it ⋯;refine wpAny_pyNext_list_item st p.isList (by simpa using hu) λh' st' sb=>?_
  have I1:=I.turned (t':=s.toks) (λb o hb e=>(sb.2 b hb).trans e) f0 f1 f3 f4 f5
  obtain⟨o,e,c,d⟩:=id st';exact#[u,rfl,tD e c d ⋯ #[x,H,I1,ru,#[rfl,λys hy=>by rw[I.sZ hy hq];exact hx],st',λb hb=>(hf b hb).1]]
 done:=by intro X hP hw hK hc i aj s σ H E I hf st hg;subst hP hw hK;obtain⟨xs,hq,hx⟩:=hg;obtain⟨its,rv,p,hz⟩:=I.list hq;obtain⟨f0,f1,f2,f3,f4,f5⟩:=hf it ⋯;have hl:=rv.length;exact wpAny_pyNext_list_end (I.ok.hd hc) st p.isList (by simp;lia) λh' eb=>#[rfl,I.turned (λb o hb e=>eb b o hb e) f0 f1 f3 f4 f5]
 self:=λ_ _ _ _ _ st h=>wpAny_pyIter_listiter st h
theorem vX{P:Program}{w:World}{K:Frag}{tg:Expr}(a it:Addr):Turn P w K tg (Itt K a) [it] it (λi h=>h.IsTupleIter it a i) where
 mem:=by simp
 obj:=λi h st b hb=>by
  have e:b=it:=by simpa using hb
  subst e;obtain⟨o,e,c,d⟩:=st;exact#[o,e,λv z=>by rw[d]at z;cases z]
 keep:=λi h h' st k=>st.at λo e=>k it ⋯ o e
 item:=by
  intro X hP hw hK hc i aj s σ H E I hf st hg;subst hP hw hK;obtain⟨xs,x,hq,hx⟩:=hg;obtain⟨its,rv,p,hz⟩:=I.tuple hq;obtain⟨u,hu,ru⟩:=rv.get hx;obtain⟨f0,f1,f2,f3,f4,f5⟩:=hf it ⋯;refine wpAny_pyNext_tuple_item st (show s.heap.IsTuple a its.toArray from p) (by simpa using hu) λh' st' sb=>?_
  have I1:=I.turned (t':=s.toks) (λb o hb e=>(sb.2 b hb).trans e) f0 f1 f3 f4 f5
  obtain⟨o,e,c,d⟩:=id st';exact#[u,rfl,tD e c d ⋯ #[x,H,I1,ru,#[rfl,λys hy=>by rw[I.oY hy hq];exact hx],st',λb hb=>(hf b hb).1]]
 done:=by intro X hP hw hK hc i aj s σ H E I hf st hg;subst hP hw hK;obtain⟨xs,hq,hx⟩:=hg;obtain⟨its,rv,p,hz⟩:=I.tuple hq;obtain⟨f0,f1,f2,f3,f4,f5⟩:=hf it ⋯;have hl:=rv.length;exact wpAny_pyNext_tuple_end (I.ok.hd hc) st (show s.heap.IsTuple a its.toArray from p) (by simp;lia) λh' eb=>#[rfl,I.turned (λb o hb e=>eb b o hb e) f0 f1 f3 f4 f5]
 self:=λ_ _ _ _ _ st h=>wpAny_pyIter_tupleiter st h
theorem vY{P:Program}{w:World}{K:Frag}{tg:Expr}(it:Addr)(lo:Int)(n:Nat):Turn P w K tg (Qp lo n) [it] it (λi h=>IsRangeIter h it (lo+(i:Nat) * 1) ((n:Int) - (i:Nat)) 1) where
 mem:=by simp
 obj:=λi h st b hb=>by
  have e:b=it:=by simpa using hb
  subst e;exact#[_,st,λv z=>by
   have z':=z;cases z']
 keep:=λi h h' st k=>k it ⋯ _ st
 item:=by
  intro X hP hw hK hc i aj s σ H E I hf st hg;subst hP hw hK;obtain⟨f0,f1,f2,f3,f4,f5⟩:=hf it ⋯;have W:=Walks.range (prog:=X.prog) (w:=X.w) (I.ok.hd hc) it lo 1 n;refine W.item i s _ _ hg st λv h' tk hv st' kk=>?_
  obtain⟨t,rfl⟩:=hv;have I1:Inv X aj σ H { s with heap:=h',toks:=tk}:=I.turned (λb o hb e=>kk b o (by simpa using hb) e) f0 f1 f3 f4 f5
  refine#[_,rfl,tD st' rfl rfl ⋯ #[.int (lo+i),H,I1,#[t,?_],#[rfl,rfl],st',λb hb=>(hf b hb).1]]
  rw[Int.mul_one]
 done:=by intro X hP hw hK hc i aj s σ H E I hf st hg;obtain⟨f0,f1,f2,f3,f4,f5⟩:=hf it ⋯;exact wpAny_pyNext_range_end (I.ok.hd hc) st (by have:n<=i:=hg;lia) λh' eb=>#[rfl,I.turned (λb o hb e=>eb b o hb e) f0 f1 f3 f4 f5]
 self:=λ_ _ _ _ _ st h=>wpAny_pyIter_rangeiter st h
section
variable{X:Cx}{tg:Expr}
def Xk(K:Frag)(tl:TE):TI:=λσ H R=>tl σ H λx H1=>∃a,x=.ref a/\(∃xs,bD K H1 a xs)/\R (Itl K a) H1
def iTup(K:Frag)(tl:TE):TI:=λσ H R=>tl σ H λx H1=>∃a,x=.ref a/\(∃xs,fG K H1 a xs)/\R (Itt K a) H1
theorem lB{l:Expr}{tl:TE}(hl:PE X l tl):PI X tg l (Xk X.K tl):=by
 intro aj s σ H R I h;refine bA (hl aj s σ H _ I h) ?_;rintro v s1 ⟨x,H1,I1,r1,q1⟩;obtain⟨a,e,⟨xs,hq⟩,q⟩:=q1;subst e;cases r1;obtain⟨its,rv,p,hz⟩:=I1.list hq;refine AR p.isList ?_;refine#[s1⁻¹,[s1⁻¹],_,_,H1,rfl,I1.kept λb o e=>a7 _ e,zC a _,#[_,dC _ rfl,rfl,rfl],λb hb=>?_,q]
 have e:b=s1⁻¹:=by simpa using hb
 subst e;exact I1.qH (eA _) (I1.hok.fresh (eA _))
theorem Qq{l:Expr}{tl:TE}(hl:PE X l tl):PI X tg l (iTup X.K tl):=by
 intro aj s σ H R I h;refine bA (hl aj s σ H _ I h) ?_;rintro v s1 ⟨x,H1,I1,r1,q1⟩;obtain⟨a,e,⟨xs,hq⟩,q⟩:=q1;subst e;cases r1;obtain⟨its,rv,p,hz⟩:=I1.tuple hq;refine AF (show s1.heap.IsTuple a its.toArray from p) ?_
 refine#[s1⁻¹,[s1⁻¹],_,_,H1,rfl,I1.kept λb o e=>a7 _ e,vX a _,#[_,dC _ rfl,rfl,rfl],λb hb=>?_,q]
 have e:b=s1⁻¹:=by simpa using hb
 subst e;exact I1.qH (eA _) (I1.hok.fresh (eA _))
theorem tE{aj: ~~~1}{σ:St}{H:Hp}{s:Shared}{R:It->Hp->Prop}{E:Value->Shared->Prop}{lo hi:Int}{t u v:Tok}{tk:Nat}(I: ~~~7)(h1 : -(2 ^ 62)<=lo)(h2:lo<2 ^ 62)(h3 : -(2 ^ 62)<=hi)(h4:hi<2 ^ 62)
  (q:R (Qp lo (hi - lo).toNat) H):wpAny (~~~2) X.A (pyIter (.ref s⁻¹)) (PIE X aj σ tg R) E { s with heap:=s.heap.push { cls:=.type "range",data:=.fields ([.int lo t,.int hi u,.int 1 v].toArray)},toks:=tk}:=by
 refine wpAny_pyIter_range (IsRange.new ..) (small_one h1 h2 h3 h4) ?_;have I1:Inv X aj σ H { s with heap:=s.heap.push { cls:=.type "range",data:=.fields ([.int lo t,.int hi u,.int 1 v].toArray)},toks:=tk}:=I.kept λb o e=>a7 _ e
 refine#[(s.heap.push { cls:=.type "range",data:=.fields ([.int lo t,.int hi u,.int 1 v].toArray)}).objs.size,[(s.heap.push { cls:=.type "range",data:=.fields ([.int lo t,.int hi u,.int 1 v].toArray)}).objs.size],_,_,H,rfl,
  I1.kept λb o e=>a7 _ e,vY _ lo (hi - lo).toNat,?_,λb hb=>?_,q]
 .
  have e1:lo+((0:Nat):Int) * 1=lo:=by simp
  have e2:(((hi - lo).toNat:Nat):Int) - ((0:Nat):Int)=Builtin.Range.rangeSize lo hi 1:=by rw[rangeSize_one];split <;> lia
  rw[e1,e2];exact dC _ rfl
 .
  have e:b=(s.heap.push { cls:=.type "range",data:=.fields ([.int lo t,.int hi u,.int 1 v].toArray)}).objs.size:=by simpa using hb
  subst e;exact I1.qH (eA _) (I1.hok.fresh (eA _))
def Xl(ta:TA):TI:=λσ H R=>ta σ H λvs H1=>∃j:Int,vs=[.int j]/\-(2 ^ 62)<=j/\j<2 ^ 62/\R (Qp 0 j.toNat) H1
def Xm(ta:TA):TI:=λσ H R=>ta σ H λvs H1=>∃i j:Int,vs=[.int i,.int j]/\(-(2 ^ 62)<=i/\i<2 ^ 62/\-(2 ^ 62)<=j/\j<2 ^ 62)/\R (Qp i (j - i).toNat) H1
theorem o7{a:Expr}{ta:TA}{p pos:Pos}(hg:Gl X "range")(hm:X.mg "range"=none)(ha:PA X [a] ta)(hs:starEach [a] X.env=[(false,eval a X.env)]:=by rfl):PI X tg (.Call (.Name "range" p) [a] [] pos) (Xl ta):=by
 intro aj s σ H R I h;refine Call_ (eK I hg hm boot_range (An (bA (ha pos aj s σ H _ I h) ?_) hs rfl));rintro us s1 ⟨vs,H1,I1,r1,q1⟩;obtain⟨j,e,q1,q2,q⟩:=q1;subst e;cases r1 with
 |cons r rr=>cases rr;obtain⟨t,rfl⟩:=r;exact call_range_1 (tE I1 ⋯ ⋯ q1 q2 (by simpa using q))
theorem zD{a b:Expr}{ta:TA}{p pos:Pos}(hg:Gl X "range")(hm:X.mg "range"=none)(ha:PA X [a,b] ta)(hs:starEach [a,b] X.env=[(false,eval a X.env),(false,eval b X.env)]:=by rfl)(hs2:starEach [b] X.env=[(false,eval b X.env)]:=by rfl) :
  PI X tg (.Call (.Name "range" p) [a,b] [] pos) (Xm ta):=by
 intro aj s σ H R I h;refine Call_ (eK I hg hm boot_range (An (bA (ha pos aj s σ H _ I h) λus s1 #[vs,H1,I1,r1,q1]=>?_) (by rw[hs,hs2]) (by rw[hs2];rfl)))
 obtain⟨i,j,e,⟨q1,q2,q3,q4⟩,q⟩:=q1;subst e;cases r1 with
 |cons r rr=>
  cases rr with
  |cons r' rr=>cases rr;obtain⟨t,rfl⟩:=r;obtain⟨t',rfl⟩:=r';exact call_range_2 (tE I1 q1 q2 q3 q4 q)
noncomputable def tFor(wi:TI)(g:TG)(tb:TS):TS:=λD σ H=>wi σ H λJ H1=>∃W:Nat->Nat->St->Hp->Prop,(∃m,W 0 m σ H1)/\∀i m σ H,W i m σ H->
 (J.stop i H/\D.nx σ H)\/(J.go i H/\∃N:St->Hp->Prop,(∀σ' H',N σ' H'->∃m',m'<m/\W (i+1) m' σ' H')/\∀x H',J.Xj i H x H'->g x σ H' λσ2 H2=>tb { D with nx:=N,ct:=N,bk:=D.nx} σ2 H2)
noncomputable def lU(fp:List Addr)(h:Heap): ~~~1:=fp.filterMap λb=>(h.get? b).map λo=>(b,o)
theorem eL{fp:List Addr}{h:Heap}{b:Addr}{o:Obj}(hb:b∈fp)(e:h.get? b=!o):(b,o)∈lU fp h:=C7.mpr #[b,hb,by rw[e];rfl]
theorem zE(hp:p∈lU fp h):p.1∈fp/\h.get? p.1=!p.2:=by
 obtain⟨b,hb,e⟩:=C7.mp hp;cases q:h.get? b with
 |none=>rw[q]at e;cases e
 |some o=>rw[q]at e;have e':=wS e;subst e';exact#[hb,q]
theorem Inv.pinned{aj: ~~~1}{σ:St}{H:Hp}{s:Shared}{fp:List Addr}(I: ~~~7)(hf:∀b∈fp,jc X aj H b)(ho:∀b∈fp,∃o,s.heap.get? b=!o/\∀v,o.data≠.cell v):Inv X (aj++lU fp s.heap) σ H s:=
 I.xJ λp hp=>(kA.mp hp).elim (λz=>I.pin p (hV _ z)) λz=>by
  obtain⟨hb,e⟩:=zE z;obtain⟨f0,f1,f2,_⟩:=hf p.1 hb;obtain⟨o,e',d⟩:=ho p.1 hb;rw[e]at e';cases e';exact#[e,f0,f1,f2,d]
theorem Inv.jd{aj pl: ~~~1}{σ:St}{H:Hp}{s:Shared}(I:Inv X (aj++pl) σ H s):Inv X aj σ H s:=I.xJ λp hp=>I.pin p (hV _ (mP _ hp))
theorem qI{iter:Expr}{body:List Stmt}{wi:TI}{g:TG}{tb:TS}{pos:Pos}(hp:PassesOwn (~~~2) X.A X.env X.xe)(hc:X.calm=true)(hi:PI X tg iter wi)(hg:PG X tg g)(hb:sO X body tb)
  (hs:∀x,foldedSetIterable iter X.env x=pure x:=by intro _;rfl):PS X (.For tg iter body [] pos) (tFor wi g tb):=by
 intro aj s σ H D I h;refine wpAny_For (bA (hi aj s σ H _ I h) λv s1 h1=>bA h1 λitv s2 h2=>?_) hs
 obtain⟨it,fp,tn,J,H2,e,I2,T,aL,f2,W,⟨m0,w0⟩,turn⟩:=h2;subst e;have stat:∀{H':Hp},(∀b∈fp,H' b=none)->∀b∈fp,jc X aj H' b:=λhn b hb=>#[hn b hb,(f2 b hb).2]
 refine codeAny_forLoop_any (λn s'=>∃i σ' H',Inv X aj σ' H' s'/\tn i s'.heap/\(∀b∈fp,H' b=none)/\W i n σ' H') ?_ m0 #[0,σ,H2,I2,aL,λb hb=>(f2 b hb).1,w0]
 rintro n s3 ⟨i,σ3,H3,I3,fy,Xn,w3⟩;rcases turn i n σ3 H3 w3 with ⟨stop,qn⟩ |⟨go,N,hN,step⟩
 . refine C8 hp (bA (T.done X rfl rfl rfl hc i aj s3 σ3 H3 X.xe I3 (stat Xn) fy stop) ?_);rintro r s4 ⟨hr,I4⟩;subst hr;exact wpAny_execs_nil #[σ3,H3,I4,qn]
 .
  refine C8 hp (bA (T.item X rfl rfl rfl hc i aj s3 σ3 H3 X.xe I3 (stat Xn) fy go) ?_);rintro r s4 ⟨u,hr,h4⟩;subst hr;refine C8 hp (bA h4 ?_);rintro _ s5 ⟨x,H5,I5,r5,y5,xO,fr5⟩;have I5':=I5.pinned (stat fr5) (T.obj _ _ xO);refine C8 hp (bA (hg _ s5 σ3 H5 x u _ I5' r5 (step x H5 y5)) ?_);rintro _ s6 ⟨σ6,H6,I6,q6⟩;refine C8 hp (bA (hb _ s6 σ6 H6 _ I6 q6) λf s7 q7=>?_)
  have again:∀{σ7:St}{H7:Hp},Inv X (aj++lU fp s5.heap) σ7 H7 s7->N σ7 H7->∃m,m<n/\∃i σ' H',Inv X aj σ' H' s7/\tn i s7.heap/\(∀b∈fp,H' b=none)/\W i m σ' H':=λ{σ7 H7} I7 n7=>by
   obtain⟨m',hm,w7⟩:=hN σ7 H7 n7;refine#[m',hm,i+1,σ7,H7,I7.jd,T.keep _ _ _ xO λb hb o e=>(I7.pin (b,o) (hV _ (hV _ (eL hb e)))).1,λb hb=>?_,w7]
   obtain⟨o,e,d⟩:=T.obj _ _ xO b hb;exact (I7.pin (b,o) (hV _ (hV _ (eL hb e)))).2.1
  cases f with
  |next=>obtain⟨σ7,H7,I7,n7⟩:=q7;exact again I7 n7
  |cont=>obtain⟨σ7,H7,I7,n7⟩:=q7;exact again I7 n7
  |brk=>obtain⟨σ7,H7,I7,q7⟩:=q7;exact#[σ7,H7,I7.jd,q7]
  |ret v=>obtain⟨x7,σ7,H7,I7,r7,q7⟩:=q7;exact#[x7,σ7,H7,I7.jd,r7,q7]
end
abbrev R2:=V->V->Hp->VK->Prop
def kD(X:Cx)(f:Value->Value->Sem Value)(r:R2):Prop:=
 ∀(aj: ~~~1) (s:Shared) (σ:St) (H:Hp) (x y:V) (v u:Value) (Q:VK),Inv X aj σ H s->RelV x v->RelV y u->r x y H Q->
  wpAny (~~~2) X.A (f v u) (EP X aj σ Q) X.xe s
def UnR(X:Cx)(f:Value->Sem Value)(r:V->Hp->VK->Prop):Prop:=
 ∀(aj: ~~~1) (s:Shared) (σ:St) (H:Hp) (x:V) (v:Value) (Q:VK),Inv X aj σ H s->RelV x v->r x H Q->
  wpAny (~~~2) X.A (f v) (EP X aj σ Q) X.xe s
def bV(X:Cx)(f:Value)(r:List V->Hp->VK->Prop):Prop:=
 ∀(aj: ~~~1) (s:Shared) (σ:St) (H:Hp) (xs:List V) (us:List Value) (Q:VK),Inv X aj σ H s->Vals xs us->r xs H Q->
  wpAny (~~~2) X.A (call f us) (EP X aj σ Q) X.xe s
def TruR(X:Cx)(r:V->Hp->(Bool->Hp->Prop)->Prop):Prop:=
 ∀(aj: ~~~1) (s:Shared) (σ:St) (H:Hp) (x:V) (v:Value) (Q:Bool->Hp->Prop),Inv X aj σ H s->RelV x v->r x H Q->
  wpAny (~~~2) X.A (truthy v) (TP X aj σ Q) X.xe s
noncomputable def tOp(r:R2)(ta tb:TE):TE:=λσ H Q=>ta σ H λx H1=>tb σ H1 λy H2=>r x y H2 Q
def tUn(r:V->Hp->VK->Prop)(ta:TE):TE:=λσ H Q=>ta σ H λx H1=>r x H1 Q
noncomputable def rI(C:Int->Int->Prop)(g:Int->Int->V):R2:=λx y H Q=>∃i j,x=.int i/\y=.int j/\C i j/\Q (g i j) H
noncomputable def Ju(g:Int->Int->V):R2:=λx y H Q=>∃i j,x=.int i/\y=.int j/\Q (g i j) H
def rU(g:Int->V):V->Hp->VK->Prop:=λx H Q=>∃i,x=.int i/\Q (g i) H
section
variable{X:Cx}{a b c:Expr}{ta tb tc:TE}{pos:Pos}
theorem Qs(ha:PE X a ta)(hb:PE X b tb){aj: ~~~1}{s:Shared}{σ:St}{H:Hp}{R:V->V->Hp->Prop}(I: ~~~7)
  (h:ta σ H λx H1=>tb σ H1 λy H2=>R x y H2) {Q:Value->Shared->Prop}{f:Value->Value->Sem Value}
  (hf:∀v u s2 x y H2,Inv X aj σ H2 s2->RelV x v->RelV y u->R x y H2->wpAny (~~~2) X.A (f v u) Q X.xe s2) :
  wpAny (~~~2) X.A (eval a X.env) (λv s₁=>wpAny (~~~2) X.A (eval b X.env) (λu s₂=>wpAny (~~~2) X.A (f v u) Q X.xe s₂) X.xe s₁) X.xe s:=by
 refine bA (ha aj s σ H _ I h) λv s1 #[x,H1,I1,r1,q1]=>?_
 refine bA (hb aj s1 σ H1 _ I1 q1) λu s2 #[y,H2,I2,r2,q2]=>?_
 exact hf v u s2 x y H2 I2 r1 r2 q2
theorem Oq{op:Operator}{r:R2}(ho:kD X (binaryOp op) r)(ha:PE X a ta)(hb:PE X b tb):PE X (.BinOp a op b pos) (tOp r ta tb):=by intro aj s σ H Q I h;exact wpAny_BinOp (Qs ha hb I h λv u s2 x y H2 I2 rx ry q=>ho aj s2 σ H2 x y v u Q I2 rx ry q)
theorem Ot{op:UnaryOp}{r:V->Hp->VK->Prop}(ho:UnR X (unaryOp op) r)(ha:PE X a ta):PE X (.UnaryOp op a pos) (tUn r ta):=by intro aj s σ H Q I h;exact UnaryOp_ (bA (ha aj s σ H _ I h) (by rintro v s1 ⟨x,H1,I1,r1,q1⟩;exact ho aj s1 σ H1 x v Q I1 r1 q1))
theorem opI{f:Value->Value->Sem Value}{C:Int->Int->Prop}{g:Int->Int->Int}
  (rule:∀(i j:Int) (t u:Tok) (s:Shared) (Q:Value->Shared->Prop) (E:Value->Shared->Prop),C i j->Q (.int (g i j) s.toks) { s with toks:=s.toks+1}->wpAny (~~~2) X.A (f (.int i t) (.int j u)) Q E s) :
  kD X f (rI C λi j=>.int (g i j)):=by
 intro aj s σ H x y v u Q I rx ry h;obtain⟨i,j,rfl,rfl,hc,q⟩:=h;obtain⟨t,rfl⟩:=rx;obtain⟨t',rfl⟩:=ry;exact rule i j t t' s _ _ hc #[.int (g i j),H,I.tok _,#[_,rfl],q]
theorem Xo{f:Value->Value->Sem Value}{g:Int->Int->Int}
  (rule:∀(i j:Int) (t u:Tok) (s:Shared) (Q:Value->Shared->Prop) (E:Value->Shared->Prop),Q (.int (g i j) s.toks) { s with toks:=s.toks+1}->wpAny (~~~2) X.A (f (.int i t) (.int j u)) Q E s) :
  kD X f (Ju λi j=>.int (g i j)):=by
 intro aj s σ H x y v u Q I rx ry h;obtain⟨i,j,rfl,rfl,q⟩:=h;obtain⟨t,rfl⟩:=rx;obtain⟨t',rfl⟩:=ry;exact rule i j t t' s _ _ #[.int (g i j),H,I.tok _,#[_,rfl],q]
theorem Qt{f:Value->Value->Sem Value}{g:Int->Int->Bool}
  (rule:∀(i j:Int) (t u:Tok) (s:Shared) (Q:Value->Shared->Prop) (E:Value->Shared->Prop),Q (.bool (g i j)) s->wpAny (~~~2) X.A (f (.int i t) (.int j u)) Q E s) :
  kD X f (Ju λi j=>.bl (g i j)):=by
 intro aj s σ H x y v u Q I rx ry h;obtain⟨i,j,rfl,rfl,q⟩:=h;obtain⟨t,rfl⟩:=rx;obtain⟨t',rfl⟩:=ry;exact rule i j t t' s _ _ #[.bl (g i j),H,I,rfl,q]
def CPow(i j:Int):Prop:=0<=j/\j<=1000000/\i.natAbs<2 ^ 64
def Qu(i j:Int):Prop:=(-(2 ^ 64)<i/\i<2 ^ 64)\/(-(2 ^ 64)<j/\j<2 ^ 64)
theorem Qu.ok{i j:Int}(h:Qu i j):IntMulOk i j:=by
 rcases h with ⟨h1,h2⟩ |⟨h1,h2⟩
 . exact .of_left (intBits_le_64 h1 h2)
 . exact .of_right (intBits_le_64 h1 h2)
theorem CV:kD X (binaryOp .Add) (Ju λi j=>.int (i+j)):=Xo λ_ _ _ _ _ _ _ q=>add_int q
theorem Qv:kD X (binaryOp .Sub) (Ju λi j=>.int (i - j)):=Xo λ_ _ _ _ _ _ _ q=>sub_int q
theorem Qw:kD X (binaryOp .Mult) (rI Qu λi j=>.int (i * j)):=opI λ_ _ _ _ _ _ _ hc q=>mul_int q hc.ok
theorem Qx:kD X (binaryOp .Mod) (rI (λ_ j=>0<j) λi j=>.int (i % j)):=opI λi j _ _ _ _ _ hc q=>by
 exact mod_int' ⋯ (by rw[Int.fmod_eq_emod_of_nonneg i ⋯];exact q)
theorem qJ:kD X (binaryOp .Pow) (rI CPow λi j=>.int (i ^ j.toNat)):=opI λ_ _ _ _ _ _ _ hc q=>pow_int_small hc.1 hc.2.1 hc.2.2 q
theorem unI{f:Value->Sem Value}{g:Int->Int}
  (rule:∀(i:Int) (t:Tok) (s:Shared) (Q:Value->Shared->Prop) (E:Value->Shared->Prop),Q (.int (g i) s.toks) { s with toks:=s.toks+1}->wpAny (~~~2) X.A (f (.int i t)) Q E s) :
  UnR X f (rU λi=>.int (g i)):=by
 intro aj s σ H x v Q I rx h;obtain⟨i,rfl,q⟩:=h;obtain⟨t,rfl⟩:=rx;exact rule i t s _ _ #[.int (g i),H,I.tok _,#[_,rfl],q]
theorem CW:UnR X (unaryOp .USub) (rU λi=>.int (-i)):=unI λ_ _ _ _ _ q=>neg_int q
end
section
variable{X:Cx}{a b c:Expr}{ta tb tc:TE}{pos:Pos}
theorem Qy(I: ~~~7)(q:Q (.bl k) H)(e:k=k'):EP X aj σ Q (.bool k') s:=by subst e;exact#[.bl k,H,I,rfl,q]
theorem Xp:kD X (compareOp .Lt) (Ju λi j=>.bl (decide (i<j))):=Qt λ_ _ _ _ _ _ _ q=>lt_int q
theorem Xq:kD X (compareOp .LtE) (Ju λi j=>.bl (decide (i<=j))):=Qt λ_ _ _ _ _ _ _ q=>le_int q
theorem Xr:kD X (compareOp .GtE) (Ju λi j=>.bl (decide (j<=i))):=Qt λ_ _ _ _ _ _ _ q=>ge_int q
theorem Jv{op:CmpOp}{r:R2}(ho:kD X (compareOp op) r)(ha:PE X a ta)(hb:PE X b tb)(hm:behindInMarks op b=false):PE X (.Compare a [op] [b] pos) (tOp r ta tb):=by intro aj s σ H Q I h;exact wpAny_Compare1 (Qs ha hb I h λv u s2 x y H2 I2 rx ry q=>ho aj s2 σ H2 x y v u Q I2 rx ry q) hm
def Xs(t:TE):TT:=λσ H Q=>t σ H λx H'=>∃k,x=.bl k/\Q k H'
theorem xP{op:CmpOp}{r:R2}(ho:kD X (compareOp op) r)(ha:PE X a ta)(hb:PE X b tb)(hm:behindInMarks op b=false):PT X (.Compare a [op] [b] pos) (Xs (tOp r ta tb)):=by
 intro aj s σ H Q I h;refine wpAny_isTrue_Compare1 (bA (ha aj s σ H _ I h) λv s1 #[x,H1,I1,r1,q1]=>bA (hb aj s1 σ H1 _ I1 q1) λu s2 #[y,H2,I2,r2,q2]=>
  bA (ho aj s2 σ H2 x y v u _ I2 r1 r2 q2) λc s3 #[z,H3,I3,r3,k,e,q3]=>?_) hm
 subst e;cases r3;exact t8 #[H3,I3,q3]
def Xu(K:Frag)(x:V)(H:Hp)(k:Bool):Prop:=
 match x with
 |.non=>k=false
 |.bl b=>k=b
 |.int i=>k=(i != 0)
 |.str y=>y.length<=sizeLine/\k=((y.length:Int) != 0)
 |.P8 y=>y.size<=sizeLine/\k=((y.size:Int) != 0)
 |.ref p=>(∃xs,bD K H p xs/\k=(not xs.isEmpty))\/(∃xs,fG K H p xs/\k=(not xs.isEmpty))\/∃jJ,H p=!(.dK jJ)/\k=(not jJ.isEmpty)
 |_=>False
theorem vZ{κ:Type}{jJ:List (κ×V)}{vs:List (κ×Value)}(r:KV jJ vs):((not vs.isEmpty))=(not jJ.isEmpty):=by cases r <;> rfl
theorem lV{xs:List V}{its:List Value}(r:Vals xs its):((not its.toArray.isEmpty))=(not xs.isEmpty):=by cases r <;> simp
theorem qK:(sizeLine:Nat)<2 ^ 63:=by rw[t7];decide
theorem Qz:TruR X (λx H Q=>∃k,Xu X.K x H k/\Q k H):=by
 intro aj s σ H x v Q I rx h;obtain⟨k,e,q⟩:=h;have hs:=t7;cases x with
 |non=>cases rx;have e':=e;subst e';exact truthy_none #[H,I,q]
 |bl b=>cases rx;have e':=e;subst e';exact t8 #[H,I,q]
 |int i=>obtain⟨t,rfl⟩:=rx;have e':=e;subst e';exact PySem.P.truthy_int #[H,I,q]
 |str y=>obtain⟨t,rfl⟩:=rx;obtain⟨hy,e'⟩:y.length<=sizeLine/\k=((y.length:Int) != 0):=e;subst e';exact PySem.P.truthy_str ⋯ #[H,I.tok _,q]
 |P8 y=>obtain⟨t,rfl⟩:=rx;obtain⟨hy,e'⟩:y.size<=sizeLine/\k=((y.size:Int) != 0):=e;subst e';exact PySem.W.truthy_bytes ⋯ #[H,I.tok _,q]
 |ref p=>
  cases rx;have e':=e;rcases e' with ⟨xs,hx,e'⟩ |⟨xs,hx,e'⟩ |⟨jJ,hx,e'⟩
  . subst e';obtain⟨its,r,pl,hz⟩:=I.list hx;have aM:=r.length;exact wpAny_truthy_list pl.isList (by simp only[eP];lia) #[H,I.tok _,by rw[lV r];exact q]
  . subst e';obtain⟨its,r,pl,hz⟩:=I.tuple hx;have aM:=r.length;exact truthy_tuple pl (by simp only[eP];lia) #[H,I.tok _,by rw[lV r];exact q]
  . subst e';obtain⟨hz,hS,vs,r,m⟩:jJ.length<=sizeLine/\(p==sysModules)=false/\∃vs,KV jJ vs/\s.heap.DictOf (gj X.prog X.w) p vs:=I.hok p _ hx;have aM:=Paired.length r;exact wpAny_truthy_dict hS m ⋯ #[H,I.tok _,by rw[vZ r];exact q]
 |_=>exact (show False from e).elim
theorem CZ(ha:PE X a ta)(he:∀whole,isTrue a X.env whole=(do let v <- whole;standAt a.pos;holding [v] (truthy v))) :
  PT X a (λσ H Q=>ta σ H λx H'=>∃k,Xu X.K x H' k/\Q k H'):=by
 intro aj s σ H Q I h;exact isTrue_plain (bA (ha aj s σ H _ I h) (by rintro v s1 ⟨x,H1,I1,r1,q1⟩;exact Qz aj s1 σ H1 x v Q I1 r1 q1)) (he _)
theorem v5:kD X (binaryOp .Add) (λx y H Q=>∃i j,x=.str i/\y=.str j/\i.length+j.length<=sizeLine/\Q (.str (i++j)) H):=by intro aj s σ H x y v u Q I rx ry h;obtain⟨i,j,rfl,rfl,hz,q⟩:=h;obtain⟨t,rfl⟩:=rx;obtain⟨t',rfl⟩:=ry;exact add_str (λt' tk=>#[.str (i++j),H,I.tok _,#[_,rfl],q]) hz
theorem vals1(r:Vals [x] us):∃u,us=[u]/\RelV x u:=by
 cases r with
 |cons r1 r2=>cases r2;exact#[_,rfl,r1]
theorem vals2(r:Vals [x,y] us):∃u w',us=[u,w']/\RelV x u/\RelV y w':=by
 cases r with
 |cons r1 r2=>
  cases r2 with
  |cons r3 r4=>cases r4;exact#[_,_,rfl,r1,r3]
def LenV(K:Frag)(x:V)(H:Hp)(n:Nat):Prop:=
 match x with
 |.str y=>y.length<=sizeLine/\n=y.length
 |.P8 y=>y.size<=sizeLine/\n=y.size
 |.ref p=>(∃xs,bD K H p xs/\n=xs.length)\/∃xs,fG K H p xs/\n=xs.length
 |_=>False
theorem Dc:bV X (.builtin "len") (λxs H Q=>∃x n,xs=[x]/\LenV X.K x H n/\Q (.int n) H):=by
 intro aj s σ H xs us Q I r h;obtain⟨x,n,rfl,e,q⟩:=h;obtain⟨u,rfl,rx⟩:=vals1 r;have hs:=t7;cases x with
 |str y=>obtain⟨t,rfl⟩:=rx;obtain⟨hy,e'⟩:y.length<=sizeLine/\n=y.length:=e;subst e';exact len_str ⋯ #[.int _,H,I.tok _,#[_,rfl],q]
 |P8 y=>obtain⟨t,rfl⟩:=rx;obtain⟨hy,e'⟩:y.size<=sizeLine/\n=y.size:=e;subst e';exact PySem.W.len_bytes ⋯ #[.int _,H,I.tok _,#[_,rfl],q]
 |ref p=>
  cases rx;have e':=e;rcases e' with ⟨xs,hx,e'⟩ |⟨xs,hx,e'⟩
  . subst e';obtain⟨its,r',pl,hz⟩:=I.list hx;have aM:=r'.length;exact Calls.call_len_list pl.isList (by simp only[eP];lia) #[.int xs.length,H,I.tok _,#[_,by simp only[eP];rw[aM]],q]
  . subst e';obtain⟨its,r',pl,hz⟩:=I.tuple hx;have aM:=r'.length;exact len_tuple pl (by simp only[eP];lia) #[.int xs.length,H,I.tok _,#[_,by simp only[eP];rw[aM]],q]
 |_=>exact (show False from e).elim
end
theorem lP.some_of(r:lP (!v) o):∃u,o=!u/\RelV v u:=by
 cases o with
 |none=>exact (show False from r).elim
 |some u=>exact#[u,rfl,r]
theorem lP.none_of(r:lP none o):o=none:=by
 cases o with
 |none=>rfl
 |some u=>exact (show False from r).elim
structure bK(k:Nat)(A:Around):Prop where
 hd:A.handled=none
 dp:A.depth+3 * k+5<recursionLimit
 un:A.units+16 * k+200<cLine
theorem bK.mono(r:bK k A)(h:j<=k):bK j A:=#[r.hd,by have:=r.dp;lia,by have:=r.un;lia]
theorem bK.deeper(r:bK (k+1) A)(env:Env):bK k (A.deeper env):=
 #[r.hd,by have:=r.dp;show A.depth+1+3 * k+5<_;lia,by have:=r.un;show A.units+3+16 * k+200<_;lia]
theorem bK.depth(r:bK k A):A.depth<recursionLimit:=by have:=r.dp;lia
theorem bK.units(r:bK k A):A.units+64<cLine:=by have:=r.un;lia
def tNil:TA:=λ_ H Q=>Q [] H
noncomputable def Xv(ta:TE)(tr:TA):TA:=λσ H Q=>ta σ H λx H1=>tr σ H1 λxs H2=>Q (x::xs) H2
section
variable{X:Cx}{e:Expr}{es:List Expr}{te:TE}{t:TA}{pos:Pos}
theorem eS:PA X [] tNil:=λ_ _ _ _ H Q I h=>Calls.spliced_nil #[[],H,I,.nil,h]
theorem bB(ha:PE X e te)(hr:PA X es t)(hs:starEach (e::es) X.env=(false,eval e X.env)::starEach es X.env:=by rfl):PA X (e::es) (Xv te t):=by intro pos aj s σ H Q I h;rw[hs];refine Calls.spliced_cons (bA (ha aj s σ H _ I h) ?_);rintro u s1 ⟨x,H1,I1,r1,q1⟩;exact bA (hr pos aj s1 σ H1 _ I1 q1) (by rintro us s2 ⟨xs,H2,I2,r2,q2⟩;exact#[x::xs,H2,I2,.cons r1 r2,q2])
def tTup(t:TA):TE:=λσ H Q=>t σ H λxs H1=>xs.length<=sizeLine/\∀p,H1 p=none->Q (.ref p) (upd H1 p (.tup xs))
def tLst(t:TA):TE:=λσ H Q=>t σ H λxs H1=>xs.length<=sizeLine/\∀p,H1 p=none->Q (.ref p) (upd H1 p (.lst xs))
theorem Dd{x1}(h:PA X es t):PE X (.Tuple es x1 pos) (tTup t):=by
 intro aj s σ H Q I hq;refine wpAny_Tuple_spliced (bA (h pos aj s σ H _ I hq) λus s1 #[xs,H1,I1,r,z,q]=>#[by rw[<- r.length];exact z,?_])
 have hf:=I1.hok.fresh (eA _);refine#[.ref s1⁻¹,upd H1 s1⁻¹ (.tup xs),I1.laid (λb u e=>a7 _ e) (eA _) ?_,rfl,q _ hf]
 exact#[z,us,r,#[_,dC _ rfl,#[rfl,_,rfl],rfl]]
theorem QB(h:PA X es t):PE X (.List es pos) (tLst t):=by
 intro aj s σ H Q I hq;refine wpAny_List_spliced (bA (h pos aj s σ H _ I hq) λus s1 #[xs,H1,I1,r,z,q]=>#[by rw[<- r.length];exact z,?_])
 have hf:=I1.hok.fresh (eA _);refine#[.ref s1⁻¹,upd H1 s1⁻¹ (.lst xs),I1.laid (λb u e=>a7 _ e) (eA _) ?_,rfl,q _ hf]
 exact#[z,us,0,r,dC _ rfl]
end
abbrev Sp:=List V->Hp->VK->XK->Prop
abbrev zF:=List Env->Hp->Shared->XK->Value->Shared->Prop
structure De(P:Program)(w:World)(K:Frag)(mg:Str->Option Value)(base:Heap)(A:Around)(outer:List Env)(s:Shared)(H:Hp):Prop where
 frames:A.frames=!outer
 mod:Mod K mg base
 bs:∀b o,base.get? b=!o->s.heap.get? b=!o/\H b=none
 CG:base.objs.size<=s⁻¹
 iX:s.heap.FunFrames base outer
 Jo:∀b∈frs outer,H b=none
 hok:jM P w H s.heap
 bare:AllBare s.gens
def CE(outer:List Env)(P:Program)(w:World)(H:Hp)(s:Shared)(Q:VK)(u:Value)(s':Shared):Prop:=
 ∃v H',s'.os=s.os/\AllBare s'.gens/\Un (frs outer) [] H H' s.heap s'.heap/\jM P w H' s'.heap/\RelV v u/\Q v H'
def CR(CX:zF)(outer:List Env)(P:Program)(w:World)(H:Hp)(s:Shared)(Q:VK)(E:XK)(r:Result)(s':Shared):Prop:=
 match r with
 |.ok (.ret u)=>CE outer P w H s Q u s'
 |.ok _=>False
 |.error e=>CX outer H s E e s'
structure iu(P:Program)(w:World)(K:Frag)(mg:Str->Option Value)(base:Heap)(CX:zF)(k:Nat)(f:Addr)(fd:FuncData)(ps:List Str)(sp:Sp):Prop where
 len:∀vs H Q E,sp vs H Q E->vs.length=ps.length
 run:∀(A:Around) (outer:List Env) (s:Shared) (H:Hp) (args:Args) (us:List Value) (vs:List V) (Q:VK) (E:XK),bK k A->De P w K mg base A outer s H->BindsTo s fd args (ps.zip us)->Vals vs us->sp vs H Q E->
  codeAny (model P w) A (.call (.ref f) args) (CR CX outer P w H s Q E) s
section
variable{X:Cx}{aj: ~~~1}{σ:St}{H:Hp}{s s':Shared}
theorem Inv.Jw(I: ~~~7):De X.prog X.w X.K X.mg X.base X.A X.stack s H:=
 #[I.ok.frames,I.ok.mod,I.bs,oI I.ok.CG I.sz,I.stack,I.qB,I.hok,I.bare]
theorem Inv.after(I: ~~~7)(h:CE X.stack X.prog X.w H s Q u s'):EP X aj σ Q u s':=by obtain⟨v,H',os,bare,un,hok,r,q⟩:=h;obtain⟨hh,g,d,t,os'⟩:=s';obtain rfl:os'=s.os:=os;exact#[v,H',I.call un hok bare (λb z=>absurd z ⋯),r,q]
end
noncomputable def Xw(sp:Sp)(BZ:List V)(E:XK)(t:TA):TE:=λσ H Q=>t σ H λvs H1=>sp (vs++BZ) H1 Q E
def Binds(K:Frag)(fd:FuncData)(ps:List Str)(ds:List Value):Prop:=
 ∀(s:Shared) (us:List Value),K.In s.heap->(us++ds).length=ps.length->BindsTo s fd #[us,[]] (ps.zip (us++ds))
theorem Binds.all{K:Frag}{fd:FuncData}{ps:List Str}(h:∀us:List Value,us.length=ps.length->bindArgs fd #[us,[]]=pure (ps.zip us)):Binds K fd ps []:=λs us _ hl=>by
 rw[pV]at hl ⊢
 exact .of_eq (h us hl)
def Passes(CX:zF)(X:Cx)(E:XK):Prop:=∀(aj: ~~~1) (σ:St) (H:Hp) (s:Shared) (e:Value) (s':Shared),Inv X aj σ H s->CX X.stack H s E e s'->X.xe e s'
section
variable{X:Cx}{CX:zF}{k:Nat}{f C:Addr}{fd:FuncData}{ps:List Str}{sp:Sp}{BZ:List V}{ds:List Value}{E:XK}{x m:Str}{p pos dB:Pos}{e o:Expr}{es:List Expr}{ta:TE}{t:TA}
theorem QC{aj: ~~~1}{σ:St}{H:Hp}{s:Shared}{Q:VK}{us:List Value}{vs:List V}(F:iu X.prog X.w X.K X.mg X.base CX k f fd ps sp)(hr:bK k X.A)(hb:Binds X.K fd ps ds)(hd:Vals BZ ds)(hx:Passes CX X E)
  (I: ~~~7) (r:Vals vs us) (h:sp (vs++BZ) H Q E):wpAny (~~~2) X.A (call (.ref f) us) (EP X aj σ Q) X.xe s:=by
 have r2:=r.append hd;have hl:(us++ds).length=ps.length:=by rw[<- r2.length];exact F.len _ _ _ _ h
 refine DM (B8 (F.run X.A X.stack s H #[us,[]] (us++ds) (vs++BZ) Q E hr I.Jw (hb s us I.oA hl) r2 h) λr s' hq=>?_)
 cases r with
 |error e=>exact hx aj σ H s e s' I hq
 |ok fl=>
  cases fl with
  |ret u=>exact I.after hq
  |next=>exact False.elim hq
  |brk=>exact False.elim hq
  |cont=>exact False.elim hq
theorem xQ(F:iu X.prog X.w X.K X.mg X.base CX k f fd ps sp)(hr:bK k X.A)(hg:Gl X x)(hm:X.mg x=!(.ref f))(hk:PySem.W.keepIn X.K (.ref f)=true)(hb:Binds X.K fd ps ds)(hd:Vals BZ ds)(hx:Passes CX X E)
  (ha:PA X (e::es) t) (iU:(x==(~~~3))=false:=by decide) (he:starEach (e::es) X.env=(false,eval e X.env)::starEach es X.env:=by rfl) (gI:(backTo pos (starEach es X.env)).any (·.1)=false:=by rfl) :
  PE X (.Call (.Name x p) (e::es) [] pos) (Xw sp BZ E t):=by
 intro aj s σ H Q I h;refine AG (eH I hg hm ?_ iU);refine C9 I.ok.mod.vR hk (bA (ha pos aj s σ H _ I h) λus s1 #[vs,H1,I1,r,q]=>#[I1.oA,?_]) he gI
 exact QC F hr hb hd hx I1 r q
end
structure bI(N P:List Str)(sc:Scope):Prop where
 kind:sc.kind=.function
 co:sc.isCoroutine=false
 gen:sc.isGenerator=false
 nd:N.Nodup
 pre:N.take P.length=P
 par:∀x∈P,sc.names.lookup x=some .local\/sc.names.lookup x=some .cell
 QD:∀y∈sc.names,y.2≠.free
theorem o8{kindOf:Str->Option NameKind}{x:Str}:∀{binds:List (Str×Value)}{m:Str->Option Value},(∀v,(x,v)∉binds)->bindL kindOf binds m x=m x
 | [],_,_=>rfl
 | (n,v)::r,m,h=>by
  unfold bindL;rw[o8 λw hw=>h w (a8 _ hw)]
  split
  .
   have:x≠n:=by rintro rfl;exact h v bP
   simp[this]
  . rfl
theorem o9{kindOf:Str->Option NameKind}{x:Str}:∀{binds:List (Str×Value)}{m:Str->Option Value},(∀v,(x,v)∉binds)->bindC kindOf binds m x=m x
 | [],_,_=>rfl
 | (n,v)::r,m,h=>by
  unfold bindC;rw[o9 λw hw=>h w (a8 _ hw)]
  split
  . rfl
  .
   have:x≠n:=by rintro rfl;exact h v bP
   simp[this]
theorem pA{kindOf:Str->Option NameKind}{x:Str}{v:Value}:∀{P:List Str}{vs:List Value}{i:Nat}{m:Str->Option Value},P.Nodup->P[i]?=!x->vs[i]?=!v->kindOf x=some .local->
  bindL kindOf (P.zip vs) m x=!v
 | [],_,_,_,_,h,_,_=>by simp at h
 |_::_,[],_,_,_,_,h,_=>by simp at h
 |p::P,w::vs,0,m,nd,h1,h2,hk=>by
  simp at h1 h2;subst h1;subst h2;show bindL kindOf ((p,w)::P.zip vs) m p=_;unfold bindL;rw[o8 λv hv=>(lL.mp nd).1 (EJ hv).1,tJ hk]
  simp
 |p::P,w::vs,i+1,m,nd,h1,h2,hk=>by
  unfold bindL;exact pA (lL.mp nd).2 (by simpa using h1) (by simpa using h2) hk
theorem pB{kindOf:Str->Option NameKind}{x:Str}{v:Value}:∀{P:List Str}{vs:List Value}{i:Nat}{m:Str->Option Value},P.Nodup->P[i]?=!x->vs[i]?=!v->kindOf x≠some .local->
  bindC kindOf (P.zip vs) m x=!v
 | [],_,_,_,_,h,_,_=>by simp at h
 |_::_,[],_,_,_,_,h,_=>by simp at h
 |p::P,w::vs,0,m,nd,h1,h2,hk=>by
  simp at h1 h2;subst h1;subst h2;show bindC kindOf ((p,w)::P.zip vs) m p=_;unfold bindC;rw[o9 λv hv=>(lL.mp nd).1 (EJ hv).1,sK hk]
  simp
 |p::P,w::vs,i+1,m,nd,h1,h2,hk=>by
  unfold bindC;exact pB (lL.mp nd).2 (by simpa using h1) (by simpa using h2) hk
noncomputable def start(N:List Str)(vs:List V):St:=vs.map some++List.replicate (N.length - vs.length) none
noncomputable def eU(CX:zF)(P:Program)(w:World)(K:Frag)(mg:Str->Option Value)(base:Heap)(N:List Str)(qual:Str)(scope:Scope)(f:Addr)(cd:Value)(A:Around)(outer:List Env)(s:Shared)(H:Hp)(E:XK):Cx where
 prog:=P
 w:=w
 K:=K
 mg:=mg
 base:=base
 A:=A.deeper (envOfC qual scope s⁻¹ f cd)
 N:=N
 s₀:=s
 H₀:=H
 env:=envOfC qual scope s⁻¹ f cd
 outer:=outer
 stack:=envOfC qual scope s⁻¹ f cd::outer
 ex:=[]
 calm:=true
 fn:=λ_=>true
 pn:=[]
 xe:=λe s'=>wpAny (model P w) (A.deeper (envOfC qual scope s⁻¹ f cd)) (leaving (envOfC qual scope s⁻¹ f cd) e) (λ_ s''=>CX outer H s E e s'') (λe' s''=>CX outer H s E e' s'') s'
theorem tF{sc:Scope}{n:Nat}{x:Str}(h:sc.names.lookup x=some .cell):∃c,(cellsFrom n sc.names []).lookup x=!c:=by have q:=DF sc.names n [] (.inl h);exact Option.isSome_iff_exists.mp q
theorem pC{CX:zF}{P:Program}{w:World}{K:Frag}{mg:Str->Option Value}{base:Heap}{N ps:List Str}{qual:Str}{scope:Scope}{f:Addr}{cd:Value}{A:Around}{outer:List Env}{s s1:Shared}{H:Hp}{E:XK}{us:List Value}{vs:List V}
  (S:bI N ps scope) (hd:A.handled=none) (e0:De P w K mg base A outer s H) (hl:vs.length=ps.length) (r:Vals vs us)
  (x:InCallC s s⁻¹ (bindL (envOfC qual scope s⁻¹ f cd).kindOf (ps.zip us) λ_=>none) (cellsFrom (s⁻¹+1) scope.names []) (bindC (envOfC qual scope s⁻¹ f cd).kindOf (ps.zip us) λ_=>none) s1) :
  Inv (eU CX P w K mg base N qual scope f cd A outer s H E) [] (start N vs) H s1:=by
 have gI:ps.length<=N.length:=by have:=congrArg List.length S.pre;rw[mM]at this;lia
 obtain⟨h1,tk,rfl,hk⟩:=x.done;have Xx:∀b:Addr,b∉(eU CX P w K mg base N qual scope f cd A outer s H E).ex:=λb z=>absurd (show b∈([]:List Addr)from z) ⋯
 refine#[#[e0.mod,S.kind,rfl,rfl,eA _,λy z c h1 h2=>?_,λy hy=>?_,λy c _ h=>?_,λ_=>hd,Around.frames_deeper e0.frames,.inr #[rfl,rfl],λb z=>absurd z (Xx b),e0.bs,e0.CG,λb _ _=>Xx b,λb z=>absurd z (Xx b),e0.iX,e0.Jo],
  rfl,e0.bare,Un.kept hk,#[_,x.toInCall.ns,λi y v h1 h2 h3=>?_],λy c h=>#[_,x.cell y c h],e0.hok.fresh (eA _),λy c h=>?_,λp hp=>absurd (show p∈([]: ~~~1)from hp) ⋯,e0.hok.kept hk,?_]
 . exact name_of_addr x.apart (BY h1) (BY h2)
 .
  have hy:=hy;rcases hy with hy |hy
  . exact tF hy
  . exact absurd rfl (S.QD _ (BY hy))
 . exact AU (x.above y c (BY h))
 .
  have hi:i<vs.length:=by
   unfold start at h2;by_cases hi:i<vs.length
   . exact hi
   .
    rw[eD (by simpa using hi)]at h2
    rw[List.getElem?_replicate]at h2;split at h2 <;> cases h2
  have ha:vs[i]?=!v:=by
   unfold start at h2;rw[fN (by simpa using hi),oC]at h2
   cases e:vs[i]? with
   |none=>rw[e]at h2;cases h2
   |some a=>rw[e]at h2;cases h2;rfl
  obtain⟨u,hu,rv⟩:=r.get ha;have hp:ps[i]?=!y:=by rw[<- S.pre,BM ⋯];exact h1
  have ndP:ps.Nodup:=by rw[<- S.pre];exact S.nd.sublist (List.take_sublist _ _)
  refine#[u,rv,?_];rcases S.par y (pE hp)with k |k
  . exact .inl #[k,pA ndP hp hu k]
  .
   obtain⟨c,e⟩:=tF k;refine .inr #[.inl k,c,e,?_];have q:=x.cell y c e;rw[pB ndP hp hu (by show scope.names.lookup y≠_;rw[k];decide)]at q
   exact q
 . exact e0.hok.fresh (AU (x.above y c (BY h)))
 . unfold start;show _=N.length;rw[eQ,dE,tP];lia
theorem Ou{CX:zF}{P:Program}{w:World}{K:Frag}{mg:Str->Option Value}{base:Heap}{k:Nat}{f:Addr}{name qual:Str}{params:Arguments}{body:List Stmt}{scope:Scope}{dV kV doc pm bz ct oc:Value}{an od:Option Addr}
  {osl:Array (Option Value)}{N ps:List Str}{sp:Sp} (lk:K.lookup f=!#[oc,od,.func (PySem.W.fnOf name qual params body scope dV kV doc pm an bz ct),osl]) (bM:PySem.W.codeIn K bz qual=true) (S:bI N ps scope)
  (len:∀vs H Q E,sp vs H Q E->vs.length=ps.length)
  (hbody:∀(A:Around) (outer:List Env) (s:Shared) (H:Hp) (vs:List V) (Q:VK) (E:XK),bK k (A.deeper (envOfC qual scope s⁻¹ f bz))->sp vs H Q E->
   ∃t,sO (eU CX P w K mg base N qual scope f bz A outer s H E) body t/\t { nx:=λ_ H'=>Q .non H',rt:=Q} (start N vs) H) :
  iu P w K mg base CX (k+1) f (PySem.W.fnOf name qual params body scope dV kV doc pm an bz ct) ps sp:=by
 refine#[len,λA outer s H args us vs Q E hr e0 hb r V6=>?_]
 have hl:=len _ _ _ _ V6;have KX:=e0.mod.vR.keeps λb o e=>(e0.bs b o e).1
 have lim:=e0.mod.nolimit.keeps λb o e=>(e0.bs b o e).1
 have hkind:∀y∈ps.zip us,scope.names.lookup y.1=some .local\/(scope.names.lookup y.1=some .cell/\((cellsFrom (s⁻¹+1) scope.names []).lookup y.1).isSome=true):=by
  rintro⟨n,v⟩ hy;rcases S.par n (EJ hy).1 with q |q
  . exact .inl q
  . exact .inr #[q,DF _ _ _ (.inl q)]
 refine codeAny_call_function hr.depth (KX _ _ lk) rfl S.co S.gen rfl (PySem.W.codeRec_of KX bM) (hb _ _ _ _ ?_);refine wpAny_newFunctionEnv_cells S.kind hkind λenv he s1 x=>?_
 subst he;refine#[lim.keeps x.toInCall.keep,codeAny_func ?_];obtain⟨t,ht,hq⟩:=hbody A outer s H vs Q E (hr.deeper _) V6;have I:Inv (eU CX P w K mg base N qual scope f bz A outer s H E) [] (start N vs) H s1:=pC S hr.hd e0 hl r x;refine qS (ht [] s1 (start N vs) H _ I hq) (λfl s' hs=>?_) λe s' hs=>hs
 have fin:∀{σ':St}{H':Hp}{v:V}{u:Value},Inv (eU CX P w K mg base N qual scope f bz A outer s H E) [] σ' H' s'->RelV v u->Q v H'->CE outer P w H s Q u s':=
  λ{σ' H' v u} J rv q=>#[v,H',J.os,J.bare,J.base,J.hok,rv,q]
 cases fl with
 |ret u=>obtain⟨v,σ',H',J,rv,q⟩:=hs;exact fin J rv q
 |next=>obtain⟨σ',H',J,q⟩:=hs;exact fin (v:=V.non) J rfl q
 |brk=>obtain⟨_,_,_,q⟩:=hs;exact False.elim q
 |cont=>obtain⟨_,_,_,q⟩:=hs;exact False.elim q
section
variable{X:Cx}{x:Str}{p pos:Pos}{e:Expr}{es:List Expr}{t:TA}{id T:String}{r:List V->Hp->VK->Prop}
noncomputable def tCB(r:List V->Hp->VK->Prop)(t:TA):TE:=λσ H Q=>t σ H λvs H1=>r vs H1 Q
theorem jf(hc:bV X (.builtin id) r)(hg:Gl X x)(hm:X.mg x=none)(hv:bootBuiltins x=!(.builtin id))(ha:PA X (e::es) t)(hn:x≠ "__name__" :=by decide)(iU:(x==(~~~3))=false:=by decide)
  (he:starEach (e::es) X.env=(false,eval e X.env)::starEach es X.env:=by rfl) (gI:(backTo pos (starEach es X.env)).any (·.1)=false:=by rfl):PE X (.Call (.Name x p) (e::es) [] pos) (tCB r t):=by
 intro aj s σ H Q I h;refine AG (eK I hg hm hv ?_ hn iU);exact PyProof.Rows.callWith_builtin1 (bA (ha pos aj s σ H _ I h) (by rintro us s1 ⟨vs,H1,I1,r1,q1⟩;exact hc aj s1 σ H1 vs us Q I1 r1 q1)) he gI
theorem pD(hc:bV X (.type T) r)(hg:Gl X x)(hm:X.mg x=none)(hv:bootBuiltins x=!(.type T))(ha:PA X (e::es) t)(hn:x≠ "__name__" :=by decide)(iU:(x==(~~~3))=false:=by decide)
  (he:starEach (e::es) X.env=(false,eval e X.env)::starEach es X.env:=by rfl) (gI:(backTo pos (starEach es X.env)).any (·.1)=false:=by rfl):PE X (.Call (.Name x p) (e::es) [] pos) (tCB r t):=by
 intro aj s σ H Q I h;refine AG (eK I hg hm hv ?_ hn iU);exact An (bA (ha pos aj s σ H _ I h) λus s1 #[vs,H1,I1,r1,q1]=>hc aj s1 σ H1 vs us Q I1 r1 q1) he gI
end
end L2
namespace HT
open PySem PyProof.Rows
noncomputable def lexLt: ~~~0->~~~0->Bool
 | [],[]=>false
 | [],_::_=>true
 |_::_,[]=>false
 |x::xs,y::ys=>if x=y then lexLt xs ys else decide (x<y)
theorem dc(x y:Int)(xs ys: ~~~0):lexLt (x::xs) (y::ys)=if x=y then lexLt xs ys else decide (x<y):=rfl
section
variable{prog:Program}{w:World}{A:Around}{E:Value->Shared->Prop}{s:Shared}
theorem Jx(ht:IsTup s.heap t vs.toArray)(hb:IsTup s.heap b ws.toArray)(hv:vs≠[])
  (h1:ws=[]->Q (.ref t) s) (h2:ws≠[]->Q (.ref s⁻¹) { s with heap:=s.heap.push { cls:=.type "tuple",data:=.seq (vs++ws).toArray}})
  (hsz:vs.length+ws.length<=sizeLine):wpAny (model prog w) A (binaryOp .Add (.ref t) (.ref b)) Q E s:=by
 obtain⟨⟨cls,dd,data,sl⟩,ho,hc,n,hd⟩:=id ht;obtain⟨⟨cls2,dd2,data2,sl2⟩,ho2,hc2,n2,hd2⟩:=id hb;subst hc hd hc2 hd2;have e:vs.toArray++ws.toArray=(vs++ws).toArray:=by simp
 by_cases hw:ws=[]
 .
  exact concat_meets #[_,ho,rfl] #[_,ho2,rfl] noFill_tuple_add seq_tuple_add DH Db (C0 _ _)
   (tuple_addW1 t b vs.toArray ws.toArray n n2 dd dd2 sl sl2 (by simpa using hv) (by simp[hw])) #[ho,ho2,h1 hw]
 .
  refine concat_meets #[_,ho,rfl] #[_,ho2,rfl] noFill_tuple_add seq_tuple_add DH Db (C0 _ _)
   (tuple_addW2 t b vs.toArray ws.toArray n n2 dd dd2 sl sl2 (by simpa using hv) (by simpa using hw) (by rw[eP];exact hsz)) #[ho,ho2,?_]
  rw[e];exact h2 hw
noncomputable def sP(n d:Nat):Option Int->Nat
 |none=>d
 |some v=>if v<0 then (v+(n:Int)).toNat else min v.toNat n
end
end HT
namespace L2
abbrev TO:=St->Hp->(Option Int->Hp->Prop)->Prop
def PO(X:Cx)(e:Option Expr)(t:TO):Prop:=
 ∀(aj: ~~~1) (s:Shared) (σ:St) (H:Hp) (Q:Option Int->Hp->Prop),Inv X aj σ H s->t σ H Q->
  wpAny (~~~2) X.A (evalPart e X.env) (λu s'=>∃o H',Inv X aj σ H' s'/\IsPart u o/\Q o H') X.xe s
def Jy:TO:=λ_ H Q=>Q none H
def Xy(t:TE):TO:=λσ H Q=>t σ H λx H1=>∃i,x=.int i/\Q (!i) H1
theorem intsAre_of:∀{us:List Value},Vals (ns.map V.int) us->IntsAre us ns:=by
 induction ns with
 |nil=>intro us r;rw[List.map_nil]at r;cases r;exact .nil
 |cons n ns ih=>
  intro us r;cases r with
  |cons r1 r2=>obtain⟨t,e⟩:=r1;subst e;exact .cons n t (ih r2)
section
variable{X:Cx}{e:Expr}{te:TE}{lo hi:Option Expr}{tl th:TO}{pos p2:Pos}
theorem Jz:PO X none Jy:=by intro aj s σ H Q I h;exact dL #[none,H,I,.none,h]
theorem JB(h:PE X e te):PO X (!e) (Xy te):=by intro aj s σ H Q I hw;refine bA (h aj s σ H _ I hw) ?_;rintro u s1 ⟨x,H1,I1,r1,q1⟩;obtain⟨i,rfl,q⟩:=q1;obtain⟨t,rfl⟩:=r1;exact#[!i,H1,I1,.int i t,q]
def SlR(X:Cx)(r:V->Option Int->Option Int->Hp->VK->Prop):Prop:=
 ∀(aj: ~~~1) (s:Shared) (σ:St) (H:Hp) (x:V) (v vl vu:Value) (lo hi:Option Int) (sl:Addr) (Q:VK),Inv X aj σ H s->RelV x v->s.heap.IsSliceOf sl vl vu .none->IsPart vl lo->IsPart vu hi->r x lo hi H Q->
  ∃T id,typeLookup (.type T) "__getitem__"=pure (!(.builtin id))/\s.TypeIs v T/\wpAny (~~~2) X.A (getItem v (.ref sl)) (EP X aj σ Q) X.xe s
noncomputable def tSl(r:V->Option Int->Option Int->Hp->VK->Prop)(te:TE)(tl th:TO):TE:=λσ H Q=>te σ H λx H1=>tl σ H1 λl H2=>th σ H2 λu H3=>r x l u H3 Q
theorem Df{r:V->Option Int->Option Int->Hp->VK->Prop}(hr:SlR X r)(he:PE X e te)(hl:PO X lo tl)(hu:PO X hi th):PE X (.Subscript e (.Slice lo hi none p2) pos) (tSl r te tl th):=by
 intro aj s σ H Q I h;refine Subscript_ (bA (he aj s σ H _ I h) ?_);rintro v s1 ⟨x,H1,I1,r1,q1⟩;refine wpAny_Slice (bA (hl aj s1 σ H1 _ I1 q1) λvl s2 #[l,H2,I2,pl,q2]=>bA (hu aj s2 σ H2 _ I2 q2) ?_)
 rintro vu s3 ⟨u,H3,I3,pu,q3⟩;refine dL ?_;have I4:Inv X aj σ H3 { s3 with heap:=s3.heap.push { cls:=.type "slice",data:=.fields ([vl,vu,.none].toArray)}}:=I3.kept λb ob q=>a7 _ q
 obtain⟨T,id,hT,ht,hg⟩:=hr aj { s3 with heap:=s3.heap.push { cls:=.type "slice",data:=.fields ([vl,vu,.none].toArray)}} σ H3 x v vl vu l u s3⁻¹ Q I4 r1 (Heap.IsSliceOf.new ..) pl pu q3;exact tail_any ht hT hg (by with_unfolding_all rfl)
def Dg(xs:List V)(lo hi:Option Int):List V:=(xs.drop (HT.sP xs.length 0 lo)).take (HT.sP xs.length xs.length hi - HT.sP xs.length 0 lo)
theorem tG(xs:List V)(lo hi:Option Int):(Dg xs lo hi).length<=xs.length:=by unfold Dg;rw[mM,Bz];lia
def Xz(K:Frag):R2:=λx y H Q=>∃a b xs ys,x=.ref a/\y=.ref b/\fG K H a xs/\fG K H b ys/\xs≠[]/\xs.length+ys.length<=sizeLine/\
 (ys=[]->Q (.ref a) H)/\(ys≠[]->∀p,H p=none->Q (.ref p) (upd H p (.tup (xs++ys))))
theorem Vals.qL(r:Vals xs us):us=[] ↔ xs=[]:=by
 cases r with
 |nil=>simp
 |cons _ _=>simp
theorem JC:kD X (binaryOp .Add) (Xz X.K):=by
 intro aj s σ H x y v u Q I rx ry h;obtain⟨a,b,xs,ys,rfl,rfl,ha,hb,hx,hz,q1,q2⟩:=h;cases rx;cases ry;obtain⟨its,r1,p1,_⟩:=I.tuple ha;obtain⟨ou,r2,p2,_⟩:=I.tuple hb;refine HT.Jx p1 p2 (λz=>hx (r1.qL.mp z)) (λz=>#[.ref a,H,I,rfl,q1 (r2.qL.mp z)]) (λz=>?_) (by rw[<- r1.length,<- r2.length];exact hz)
 refine#[.ref s⁻¹,_,I.laid (λb ob q=>a7 _ q) (eA _) ?_,rfl,q2 (λw=>z (r2.qL.mpr w)) _ (I.hok.fresh (eA _))]
 exact#[by rw[eQ];exact hz,_,r1.append r2,fJ.new _ _]
end
noncomputable def Ca(n:Nat)(i:Int):Option Nat:=if 0<=i then (if i<n then some i.toNat else none)else if -(n:Int)<=i then some (i+n).toNat else none
def iS{α:Type}(xs:List α)(i:Int):Option α:=(Ca xs.length i).bind λj=>xs[j]?
theorem xR(h:Ca n i=!j):seqIndex? i n=!j/\j<n/\-(n:Int)<=i/\i<n:=by
 unfold Ca at h;by_cases h0:0<=i
 .
  rw[tJ h0]at h;by_cases h1:i<n
  . rw[tJ h1]at h;have e:=wS h;exact#[by rw[seqIndex_of h0 h1,e],by lia,by lia,h1]
  . rw[sK h1]at h;symm
 .
  rw[sK h0]at h;by_cases h1 : -(n:Int)<=i
  . rw[tJ h1]at h;have e:=wS h;exact#[by rw[seqIndex_neg ⋯ h1,e],by lia,h1,by lia]
  . rw[sK h1]at h;symm
theorem xS{α:Type}{xs:List α}{i:Int}{v:α}(h:iS xs i=!v):∃j,seqIndex? i xs.length=!j/\xs[j]?=!v/\j<xs.length/\-(xs.length:Int)<=i/\i<xs.length:=by
 unfold iS at h;cases e:Ca xs.length i with
 |none=>rw[e]at h;symm
 |some j=>rw[e]at h;obtain⟨h1,h2,h3,h4⟩:=xR e;exact#[j,h1,h,h2,h3,h4]
def qM(b:Expr):Prop:=∀o i,subscripted b false o i=operate [o,i] (getItem o i)
def XC(X:Cx)(r:R2):Prop:=
 ∀(value slice:Expr) (aj: ~~~1) (s:Shared) (σ:St) (H:Hp) (x y:V) (v u:Value) (Q:VK),Inv X aj σ H s->RelV x v->RelV y u->r x y H Q->
  subscripted slice false v u=operate [v,u] (getItem v u)->wpAny (~~~2) X.A (subscriptTail value slice v u) (EP X aj σ Q) X.xe s
def MtR(X:Cx)(id:String)(r:V->List V->Hp->VK->Prop):Prop:=
 ∀(aj: ~~~1) (s:Shared) (σ:St) (H:Hp) (x:V) (xs:List V) (v:Value) (us:List Value) (Q:VK),Inv X aj σ H s->RelV x v->Vals xs us->r x xs H Q->
  wpAny (~~~2) X.A (call (.builtin id) (v::us)) (EP X aj σ Q) X.xe s
section
variable{X:Cx}{a b:Expr}{ta tb:TE}{pos:Pos}
theorem Ov{r:R2}(hr:XC X r)(ha:PE X a ta)(hb:PE X b tb)(hs:qM b):PE X (.Subscript a b pos) (tOp r ta tb):=by intro aj s σ H Q I h;exact Subscript_ (Qs ha hb I h λv u s2 x y H2 I2 rx ry q=>hr a b aj s2 σ H2 x y v u Q I2 rx ry q (hs _ _))
def rIxL(K:Frag):R2:=λx y H Q=>∃p xs i v,x=.ref p/\y=.int i/\bD K H p xs/\iS xs i=!v/\Q v H
def rIxT(K:Frag):R2:=λx y H Q=>∃p xs i v,x=.ref p/\y=.int i/\fG K H p xs/\iS xs i=!v/\Q v H
theorem xT:XC X (rIxL X.K):=by
 intro value slice aj s σ H x y v u Q I rx ry h hs;obtain⟨p,xs,i,z,rfl,rfl,hq,he,q⟩:=h;cases rx;obtain⟨t,rfl⟩:=ry;obtain⟨its,r,pl,hz⟩:=I.list hq;obtain⟨j,h1,h2,h3,h4,h5⟩:=xS he;obtain⟨w,ew,rw'⟩:=r.get h2;have hl:=r.length;have hn:=qK;have fin:EP X aj σ Q w s:=#[z,H,I,rw',q];by_cases h0:0<=i
 .
  have hj:i.toNat=j:=by rw[seqIndex_of h0 h5]at h1;exact wS h1
  exact item_listR pl.isList h0 ⋯ (by rw[hj];simpa using ew) fin hs
 .
  have hj:(i+(its.toArray.size:Int)).toNat=j:=by rw[seqIndex_neg ⋯ h4]at h1;rw[eP,<- hl];exact wS h1
  exact subscriptTail_builtinR pl.isList.typeIs slot_list_getitem.lookup
   (wpAny_getItem_list_neg pl.isList ⋯ (by rw[eP] <;> lia) ⋯ (by rw[hj];simpa using ew) #[rfl,fin]) hs
theorem QF:XC X (rIxT X.K):=by
 intro value slice aj s σ H x y v u Q I rx ry h hs;obtain⟨p,xs,i,z,rfl,rfl,hq,he,q⟩:=h;cases rx;obtain⟨t,rfl⟩:=ry;obtain⟨its,r,pl,hz⟩:=I.tuple hq;obtain⟨j,h1,h2,h3,h4,h5⟩:=xS he;obtain⟨w,ew,rw'⟩:=r.get h2;have hl:=r.length;have hn:=qK;have fin:EP X aj σ Q w s:=#[z,H,I,rw',q];exact subscriptTail_builtinR pl.typeIs slot_tuple_getitem.lookup
  (getItem_tuple pl ⋯ ⋯ (by rw[eP,<- hl];exact h1) (by simpa using ew) #[rfl,fin]) hs
theorem v7(its:List Value)(n j:Nat)(u:Value):Obj.mapSeq (·.setIfInBounds j u) { cls:=.type "list",data:=.seq its.toArray n}={ cls:=.type "list",data:=.seq (its.set j u).toArray n}:=by simp[Obj.mapSeq]
theorem Inv.lst{aj: ~~~1}{σ:St}{H:Hp}{s:Shared}{p:Addr}{xs:List V}(I: ~~~7)(h:H p=!(.lst xs)) :
  ∃(its:List Value) (n:Nat),Vals xs its/\s.heap.get? p=some { cls:=.type "list",data:=.seq its.toArray n}/\xs.length<=sizeLine:=by
 obtain⟨z,its,n,r,e⟩:=I.hok p _ h;exact#[its,n,r,e,z]
theorem Inv.QG{aj: ~~~1}{σ:St}{H:Hp}{s:Shared}{p:Addr}{xs ys:List V}{its its':List Value}{n n':Nat}{f:Obj->Obj}(I: ~~~7)(h:H p=!(.lst xs))
  (ho:s.heap.get? p=some { cls:=.type "list",data:=.seq its.toArray n}) (hf:f { cls:=.type "list",data:=.seq its.toArray n}={ cls:=.type "list",data:=.seq its'.toArray n'}) (r:Vals ys its') (hz:ys.length<=sizeLine) (t:Nat) :
  Inv X aj σ (upd H p (.lst ys)) { s with heap:=s.heap.update p f,toks:=t}:=by
 have e:(s.heap.update p f).get? p=some { cls:=.type "list",data:=.seq its'.toArray n'}:=by rw[oP f ho (by rw[hf] <;> rfl),hf]
 refine I.write (by rw[h];trivial) (.inl rfl) (λb u hb q=>(lS _ _ (wP hb)).trans q) #[_,e] ?_
 exact#[hz,its',n',r,e]
def XD:V->V->V->Hp->(Hp->Prop)->Prop:=λo i v H Q=>∃p xs k j,o=.ref p/\i=.int k/\H p=!(.lst xs)/\Ca xs.length k=!j/\Q (upd H p (.lst (xs.set j v)))
theorem set_list:Qi X XD:=by
 intro aj s σ H o i v ov iv u Q I ro ri rv h;obtain⟨p,xs,k,j,rfl,rfl,hp,hj,q⟩:=h;cases ro;obtain⟨t,rfl⟩:=ri;obtain⟨its,n,r,ho,hz⟩:=I.lst hp;obtain⟨h1,h2,h3,h4⟩:=xR hj;have hl:=r.length;have hn:=qK;have I':=
  I.QG hp ho (v7 its n j u) (r.set rv j) (by rw[BN];exact hz) s.toks
 by_cases h0:0<=k
 .
  have hk:k.toNat=j:=by rw[seqIndex_of h0 h4]at h1;exact wS h1
  exact PySem.W.ki_setAt ho h0 ⋯ (by rw[eP,<- hl];exact h4) (by rw[hk];exact#[_,I',q])
 .
  have hk:(k+(its.toArray.size:Int)).toNat=j:=by rw[seqIndex_neg ⋯ h3]at h1;rw[eP,<- hl];exact wS h1
  exact PySem.W.ki_setBack ho ⋯ (by rw[eP,<- hl];exact h3) ⋯ (by rw[hk];exact#[_,I',q])
theorem qN(lo hi:Option Int)(n:Nat):(sliceBounds lo hi none n).1=((HT.sP n 0 lo:Nat):Int)/\(sliceBounds lo hi none n).2.1=((HT.sP n n hi:Nat):Int)/\(sliceBounds lo hi none n).2.2=1:=by
 refine#[?_,?_,rfl]
 .
  cases lo with
  |none=>simp[sliceBounds,HT.sP]
  |some i=>
   simp only[sliceBounds,HT.sP,Option.getD_none];by_cases h:i<0
   . simp only[h] <;> lia
   . simp only[h] <;> lia
 .
  cases hi with
  |none=>simp[sliceBounds,HT.sP]
  |some i=>
   simp only[sliceBounds,HT.sP,Option.getD_none];by_cases h:i<0
   . simp only[h] <;> lia
   . simp only[h] <;> lia
theorem oF(its:List Value)(lo hi:Option Int):slicePick its.toArray lo hi none=((its.drop (HT.sP its.length 0 lo)).take (HT.sP its.length its.length hi - HT.sP its.length 0 lo)).toArray:=by obtain⟨h1,h2,h3⟩:=qN lo hi its.toArray.size;unfold slicePick;rw[h1,h2,h3];simp only[sliceRange_one,pick_run] <;> rfl
def rSlL(K:Frag):V->Option Int->Option Int->Hp->VK->Prop:=λx lo hi H Q=>∃a xs,x=.ref a/\bD K H a xs/\∀p,H p=none->Q (.ref p) (upd H p (.lst (Dg xs lo hi)))
theorem JD:SlR X (rSlL X.K):=by
 intro aj s σ H x v vl vu lo hi sl Q I rx hs pl pu h;obtain⟨a,xs,rfl,hx,q⟩:=h;cases rx;obtain⟨its,r,ht,hz⟩:=I.list hx;have aM:=r.length;refine#["list",_,slot_list_getitem.lookup,ht.isList.typeIs,?_];refine wpAny_getItem_list_slice ht.isList hs pl pu .none ⋯ ?_ (by rw[eP] <;> lia)
 rw[oF,<- aM];refine#[.ref s⁻¹,_,I.laid (λb ob q=>a7 _ q) (eA _) ?_,rfl,q _ (I.hok.fresh (eA _))]
 exact#[oI (tG xs lo hi) hz,_,0,(r.drop (HT.sP xs.length 0 lo)).take (HT.sP xs.length xs.length hi - HT.sP xs.length 0 lo),dC _ rfl]
theorem qO:bV X (.builtin "len") (λxs H Q=>∃z,xs=[.str z]/\z.length<=sizeLine/\Q (.int z.length) H):=by intro aj s σ H xs us Q I r h;obtain⟨z,rfl,hz,q⟩:=h;obtain⟨u,rfl,t,rfl⟩:=vals1 r;have hn:=qK;exact len_str ⋯ #[.int z.length,H,I.tok _,#[_,rfl],q]
theorem qP:bV X (.type "list") (λxs H Q=>∃p ys,xs=[.ref p]/\(bD X.K H p ys\/fG X.K H p ys)/\∀l,H l=none->Q (.ref l) (upd H l (.lst ys))):=by
 intro aj s σ H xs us Q I r h;obtain⟨p,ys,rfl,hq,q⟩:=h;obtain⟨u,rfl,rx⟩:=vals1 r;cases rx;have fin:∀(its:List Value),Vals ys its->ys.length<=sizeLine->∀(h':Heap) (c':Nat),(∀b o',s.heap.get? b=!o'->h'.get? b=!o')->
   h'.get? s⁻¹=some { cls:=.type "list",dict:=none,data:=.seq its.toArray c',slots:=([].toArray)}->EP X aj σ Q (.ref s⁻¹) { s with heap:=h'}:=λits r' hz h' c' kp e=>
  #[.ref s⁻¹,_,I.laid kp (eA _) (show bR X.prog X.w _ h' _ (.lst ys)from#[hz,its,c',r',e]),rfl,q _ (I.hok.fresh (eA _))]
 rcases hq with hq |hq
 . obtain⟨its,r',pl,hz⟩:=I.list hq;have aM:=r'.length;obtain⟨o,ho,hc,n,hd⟩:=pl.isList;exact call_list_seq p (.inl rfl) ho hc hd (λh' c' kp e=>fin its r' hz h' c' kp e) (by simp only[eP] <;> lia)
 . obtain⟨its,r',pl,hz⟩:=I.tuple hq;have aM:=r'.length;obtain⟨o,ho,hc,n,hd⟩:=pl;exact call_list_seq p (.inr rfl) ho hc hd (λh' c' kp e=>fin its r' hz h' c' kp e) (by simp only[eP] <;> lia)
theorem oG:bV X (.type "tuple") (λxs H Q=>∃p ys,xs=[.ref p]/\((bD X.K H p ys/\∀l,H l=none->Q (.ref l) (upd H l (.tup ys)))\/(fG X.K H p ys/\Q (.ref p) H))):=by
 intro aj s σ H xs us Q I r h;obtain⟨p,ys,rfl,h⟩:=h;obtain⟨u,rfl,rx⟩:=vals1 r;cases rx;rcases h with ⟨hq,q⟩ |⟨hq,q⟩
 .
  obtain⟨its,r',pl,hz⟩:=I.list hq;have aM:=r'.length;refine call_tuple_list pl.isList (λh' kp=>?_) (by simp only[eP] <;> lia)
  have I1:=I.kept (t':=s.toks) kp;have I2:=
   I1.laid (t':=s.toks) (λb o e=>a7 _ e) (eA _) (show bR X.prog X.w _ _ _ (.tup ys)from#[hz,its,r',fJ.new _ _])
  exact#[.ref h'.objs.size,_,I2,rfl,q _ (I1.hok.fresh (eA _))]
 . obtain⟨its,r',pl,hz⟩:=I.tuple hq;exact call_tuple_same pl #[.ref p,H,I,rfl,q]
def tyV(K:Frag)(T:String)(x:V)(H:Hp):Prop:=match x with
 |.str _=>T = "str"
 |.int _=>T = "int"
 |.ref p=>(T = "list" /\∃xs,bD K H p xs)\/(T = "tuple" /\∃o,K.lookup p=!o/\o.cls=.type "tuple" /\o.dict=none)\/
   (T = "dict" /\((∃jJ,H p=!(.dK jJ))\/∃jJ,H p=!(.dT jJ)))\/∃φ,H p=!(.set φ)/\∀o,φ o->o.cls=.type T/\o.dict=none
 |_=>False
theorem QH{aj: ~~~1}{σ:St}{H:Hp}{s:Shared}{T:String}{x:V}{v:Value}(I: ~~~7)(r:RelV x v)(ty:tyV X.K T x H) :
  s.TypeIs v T/\∀a,v=.ref a->∃ob,s.heap.get? a=!ob/\ob.dict=none:=by
 cases x with
 |str z=>
  obtain⟨t,rfl⟩:=r;cases (show T = "str" from ty)
  exact#[typeIs_str s z t,λ_ e=>nomatch e]
 |int i=>
  obtain⟨t,rfl⟩:=r;cases (show T = "int" from ty)
  exact#[typeIs_int s i t,λ_ e=>nomatch e]
 |ref p=>
  cases r;rcases ty with ⟨rfl,xs,hq⟩ |⟨rfl,o,hk,hc,hd⟩ |⟨rfl,hk⟩ |⟨φ,hk,hf⟩
  .
   obtain⟨its,_,pl,_⟩:=I.list hq;refine#[pl.isList.typeIs,λa e=>?_]
   cases e;obtain⟨o,n,e,c,hd,_⟩:=pl;exact#[o,e,hd]
  .
   refine#[#[o,I.oA p o hk,hc],λa e=>?_]
   cases e;exact#[o,I.oA _ o hk,hd]
  .
   have z:∃o,s.heap.get? p=!o/\o.ExactDict:=by
    rcases hk with ⟨jJ,hk⟩ |⟨jJ,hk⟩
    . obtain⟨_,_,_,_,o,_,_,e,ex,_⟩:=I.hok p _ hk;exact#[o,e,ex]
    . obtain⟨_,_,_,_,o,_,_,e,ex,_⟩:=I.hok p _ hk;exact#[o,e,ex]
   obtain⟨o,e,ex⟩:=z;refine#[#[o,e,ex.1],λa e2=>?_]
   cases e2;exact#[o,e,ex.2.1]
  .
   obtain⟨o,e,ex⟩:=I.hok p _ hk;refine#[#[o,e,(hf o ex).1],λa e2=>?_]
   cases e2;exact#[o,e,(hf o ex).2]
 |_=>exact False.elim ty
def tBM(K:Frag)(T:String)(r:V->List V->Hp->VK->Prop)(to:TE)(t:TA):TE:=λσ H Q=>to σ H λx H1=>tyV K T x H1/\t σ H1 λxs H2=>r x xs H2 Q
variable{o e:Expr}{es:List Expr}{to:TE}{t:TA}{name:Str}{dB cM:Pos}{T id:String}{r:V->List V->Hp->VK->Prop}
theorem Dh(pa:PlainAttrs T)(slot:Slot T name id)(hty:typeOf (.builtin id)=pure (.type "method_descriptor"))(hm:MtR X id r)(ho:PE X o to)(ha:PA X (e::es) t)
  (hbase:attributeBase o name X.env (eval o X.env)=eval o X.env:=by rfl)
  (hfew:((backTo cM (starEach (e::es) X.env)).all (λx=>(not x.1))&&(backToKw cM (keywordEach [] X.env)).all (λx=>x.1.isSome)
   && decide ((e::es).length+([]:List Keyword).length+(if ([]:List Keyword).isEmpty then 0 else 1)<30))=true:=by rfl)
  (hline:(dB.endLine==cM.line)=true:=by rfl) (hs:starEach (e::es) X.env=(false,eval e X.env)::starEach es X.env:=by rfl) (hplain:(backTo cM (starEach es X.env)).any (·.1)=false:=by rfl) :
  PE X (.Call (.Attribute o name dB) (e::es) [] cM) (tBM X.K T r to t):=by
 intro aj s σ H Q I h;refine wpAny_Call_method_late hbase hfew hline rfl (bA (ho aj s σ H _ I h) ?_);rintro v s1 ⟨x,H1,I1,r1,ty,q1⟩;obtain⟨h1,h2⟩:=QH I1 r1 ty;refine#[T,id,pa,slot,hty,h1,h2,?_];have hA:=ha cM aj s1 σ H1 _ I1 q1;rw[hs]at hA ⊢
 refine Calls.callWith_builtin (by show (false||(backTo cM (starEach es X.env)).any (·.1))=false;rw[hplain] <;> rfl) (Calls.evalArgs_plain ?_)
 exact bA hA (by rintro us s2 ⟨vs,H2,I2,r2,q2⟩;exact hm aj s2 σ H2 x vs v us Q I2 r1 r2 q2)
/- xs.append(e),list.index on a module's tuple .. are MtR facts of 06m -/
end
def MtM(X:Cx)(id:String)(r:V->List V->Hp->VK->Prop):Prop:=
 ∀(aj: ~~~1) (s:Shared) (σ:St) (H:Hp) (x:V) (xs:List V) (v:Value) (us:List Value) (Q:VK),Inv X aj σ H s->RelV x v->Vals xs us->r x xs H Q->
  wpAny (~~~2) X.A (call (.builtin id) (v::us)) (EP X aj σ Q) X.xe s
theorem Vals.one:∀{x:V}{us:List Value},Vals [x] us->∃u,us=[u]/\RelV x u:=by intro x us h;cases h with |cons r t=>cases t;exact#[_,rfl,r]
theorem Vals.reverse{xs:List V}{us:List Value}(h:Vals xs us):Vals xs.reverse us.reverse:=by
 induction h with
 |nil=>exact .nil
 |cons r t ih=>rw[DO,DO];exact Vals.append ih (.cons r .nil)
theorem Vals.rep(h:Vals xs us):∀k:Nat,Vals (List.replicate k xs).flatten (List.replicate k us).flatten
 | 0=>.nil
 |k+1=>by
  exact Vals.append h (Vals.rep h k)
theorem foldl_rep(its:List Value):∀(k:Nat) (acc:List Value),
  List.foldl (λx1 x2=>x1++x2) acc.toArray (List.replicate k its.toArray)=(acc++(List.replicate k its).flatten).toArray
 | 0,acc=>by simp
 |k+1,acc=>by
  have e:acc.toArray++its.toArray=(acc++its).toArray:=by simp
  have e2:(acc++its)++(List.replicate k its).flatten=acc++(List.replicate (k+1) its).flatten:=by rw[A5,BO,kS]
  rw[<- e2,<- foldl_rep its k (acc++its),<- e,A5,List.foldl_cons]
section
variable{X:Cx}{aj: ~~~1}{σ:St}{H:Hp}{s:Shared}{l b:Addr}{xs ys zs:List V}
theorem Inv.XF{its its':List Value}{n:Nat}{f:Array Value->Array Value}{t':Nat}(I: ~~~7)(hH:H l=!(.lst xs))
  (e:s.heap.get? l=some { cls:=.type "list",data:=.seq its.toArray n}) (hf:f its.toArray=its'.toArray) (hv:Vals ys its') (hz:ys.length<=sizeLine) :
  Inv X aj σ (upd H l (.lst ys)) { s with heap:=s.heap.update l (Obj.mapSeq f),toks:=t'}:=by
 have q:=PySem.IsL.update e f;rw[hf]at q;refine I.write (by rw[hH];exact trivial) (.inl rfl) (λb' u hb hu=>(lS s.heap (Obj.mapSeq f) (wP hb)).trans hu) #[_,q] ?_
 exact#[hz,its',_,hv,q]
theorem Inv.XH(I: ~~~7)(hv:Vals ys its)(hz:ys.length<=sizeLine) :
  Inv X aj σ (upd H s⁻¹ (.lst ys)) { s with heap:=s.heap.push { cls:=.type "list",data:=.seq its.toArray},toks:=t'}:=
 I.laid (λ_ _ q=>a7 _ q) (eA _) #[hz,its,0,hv,dC _ rfl]
theorem Inv.fresh(I: ~~~7):H s⁻¹=none:=I.hok.fresh (eA _)
theorem Inv.zG(I: ~~~7)(hH:H l=!(.lst xs)):xs.length<=sizeLine/\∃(its:List Value) (n:Nat),Vals xs its/\xs.length=its.length/\s.heap.get? l=some { cls:=.type "list",data:=.seq its.toArray n}:=by obtain⟨z,its,n,r,e⟩:=I.hok l _ hH;exact#[z,its,n,r,r.length,e]
theorem tH(h:n<=sizeLine):Builtin.List.listTooLong n=false:=by exact u7 ⋯
end
section
variable{X:Cx}
def JF:V->List V->Hp->VK->Prop:=λx vs H Q=>∃l xs y,x=.ref l/\vs=[y]/\H l=!(.lst xs)/\xs.length<sizeLine/\Q .non (upd H l (.lst (xs++[y])))
theorem pF:MtM X "list.append" JF:=by
 intro aj s σ H x vs v us Q I rx rv h;obtain⟨l,xs,y,rfl,rfl,hH,hz,q⟩:=h;cases rx;obtain⟨u,rfl,ru⟩:=rv.one;obtain⟨z,its,n,r,hl,e⟩:=I.zG hH;refine call_meets F.slot_list_append #[_,e,rfl] F.entry_list_append (F.args_list_append_2 _ _) (PySem.list_append l its.toArray n u (by rw[eP];lia)) #[e,?_]
 refine#[.non,_,I.XF hH e ⋯ (r.append (.cons ru .nil)) ?_,rfl,q];rw[eQ,List.length_singleton];lia
def JG:V->List V->Hp->VK->Prop:=λx vs H Q=>∃l b xs zs,x=.ref l/\vs=[.ref b]/\H l=!(.lst xs)/\H b=!(.lst zs)/\xs.length+zs.length<=sizeLine/\Q .non (upd H l (.lst (xs++zs)))
theorem zH:MtM X "list.extend" JG:=by
 intro aj s σ H x vs v us Q I rx rv h;obtain⟨l,b,xs,zs,rfl,rfl,hH,hB,hz,q⟩:=h;cases rx;obtain⟨u,rfl,ru⟩:=rv.one;cases ru;obtain⟨z,its,n,r,hl,e⟩:=I.zG hH;obtain⟨z2,ou,n2,r2,hl2,e2⟩:=I.zG hB;have hsz:its.toArray.size+ou.toArray.size<=sizeLine:=by rw[eP,eP];lia
 have Di : ¬ ((not its.toArray.isEmpty)&&Builtin.List.listTooLong (its.toArray.size+ou.toArray.size))=true:=by rw[tH hsz,EQ];exact BB
 refine call_meets F.slot_list_extend #[_,e,rfl] F.entry_list_extend (F.args_list_extend_2 _ _)
  (AutoSeq1.list_extend_list_list_0 l its.toArray n b ou.toArray n2 Di (by rw[eP];lia) ⋯) #[e,e2,?_]
 refine#[.non,_,I.XF hH e ⋯ (r.append r2) ?_,rfl,q];rw[eQ];lia
def rCat:R2:=λx y H Q=>∃l b xs zs,x=.ref l/\y=.ref b/\H l=!(.lst xs)/\H b=!(.lst zs)/\xs.length+zs.length<=sizeLine/\∀p,H p=none->Q (.ref p) (upd H p (.lst (xs++zs)))
theorem QJ:kD X (binaryOp .Add) rCat:=by
 intro aj s σ H x y v u Q I rx ry h;obtain⟨l,b,xs,zs,rfl,rfl,hH,hB,hz,q⟩:=h;cases rx;cases ry;obtain⟨z,its,n,r,hl,e⟩:=I.zG hH;obtain⟨z2,ou,n2,r2,hl2,e2⟩:=I.zG hB;refine PySem.P.add_list e e2 ?_ (by rw[eP,eP];lia)
 have ea:its.toArray++ou.toArray=(its++ou).toArray:=by simp
 rw[ea];exact#[.ref _,_,I.XH (r.append r2) (by rw[eQ];lia),rfl,q _ I.fresh]
def rRep:R2:=λx y H Q=>∃l k xs,x=.ref l/\y=.int k/\H l=!(.lst xs)/\-(2 ^ 63)<=k/\k<2 ^ 63/\xs.length * k.toNat<=sizeLine/\
 ∀p,H p=none->Q (.ref p) (upd H p (.lst (List.replicate k.toNat xs).flatten))
theorem len_rep{α:Type}(xs:List α)(k:Nat):(List.replicate k xs).flatten.length=k * xs.length:=by
 induction k with
 |zero=>simp
 |succ k ih=>rw[A5,BO,eQ,ih,Nat.succ_mul,Nat.add_comm]
theorem QK:kD X (binaryOp .Mult) rRep:=by
 intro aj s σ H x y v u Q I rx ry h;obtain⟨l,k,xs,rfl,rfl,hH,h1,h2,hz,q⟩:=h;cases rx;obtain⟨t,rfl⟩:=ry;obtain⟨z,its,n,r,hl,e⟩:=I.zG hH;have aM:its.toArray.size * k.toNat<=sizeLine:=by rw[eP,<- hl];exact hz
 have hcap : ¬ its.toArray.size * k.toNat > (2 ^ 63 - 1) / 8:=by
  have:(sizeLine:Nat)<=(2 ^ 63 - 1) / 8:=by decide
  lia
 have hfit : ¬ ((not (Builtin.List.listFitsIndex k)))=true:=by rw[fitsIndex_both h1 h2];exact BB
 have Di : ¬ Builtin.List.listTooLong (its.toArray.size * k.toNat)=true:=by rw[tH aM];exact BB
 have hnew:List.foldl (λx1 x2=>x1++x2) ([].toArray) (List.replicate (if its.toArray.isEmpty=true then 0 else k.toNat) its.toArray)=(List.replicate k.toNat its).flatten.toArray:=by
  have f0:∀m:Nat,List.foldl (λx1 x2=>x1++x2) ([].toArray) (List.replicate m its.toArray)=(List.replicate m its).flatten.toArray:=λm=>by
   have:=foldl_rep its m [];exact this
  rw[f0];cases its with
  |nil=>simp
  |cons a r'=>rw[sK ⋯]
 refine wpAny_binaryOp_repeat_ref ⋯ #[_,e,rfl] (λs'=>typeIs_int s' k t) noFill_list_mul F.fills_int_mul F.slot_int_rmul repeat_list F.slot_int_index.lookup
  (call_meets F.slot_int_rmul (typeIs_int s k t) F.entry_int_rmul (F.args_int_rmul_2 _ _) (int___rmul___int_list k t l its.toArray n)
   #[e,rfl,#[_,e,rfl],call_meets F.slot_list_mul #[_,e,rfl] F.entry_list_mul (F.args_list_mul_2 _ _) (AutoListH.list___mul___list_int_3 l its.toArray n k t hfit hcap Di) #[e,?_]])
 rw[hnew];exact#[.ref _,_,I.XH (r.rep k.toNat) (by rw[len_rep,Nat.mul_comm];exact hz),rfl,q _ I.fresh]
end
end L2
namespace Att
open PySem PySem.W PySem.Calls PyProof.Rows
theorem lg:∀(ns: ~~~0) (vs:List Value),WellAll P h vs (ns.map WData.int)->IntsAre vs ns:=by
 intro ns
 induction ns with
 |nil=>intro vs w;cases w;exact .nil
 |cons n ns ih=>
  intro vs w;cases w with
  |cons a b=>cases a;exact .cons _ _ (ih _ b)
theorem zI{l:OpenLaw}{n:Nat}(hn:l.most=!n){P:Params}{h:Heap}{args:List WData}{vals:List Value}
  (hpre:l.row.toRowW.claim.pre args=true) (hwl:WellAll P h vals args) :
  ∃a vs ns,vals=[Value.ref a]/\args=[WData.list (ns.map WData.int)]/\h.get? a=some { cls:=.type "list",data:=.seq vs.toArray}/\IntsAre vs ns/\ns.length<=n:=by
 have hsh:=(pre_splitW hpre).1;have hc:l.pre.holds [] { args:=args}=true:=(pre_splitW hpre).2;obtain⟨d,r,rfl,h1,h2⟩:=hasAllW_cons hsh;obtain rfl:=hasAllW_nil h2;obtain⟨xs,rfl,h3⟩:=hasW_list h1;obtain⟨ns,rfl⟩:=items_int h3;have aM:ns.length<=n:=by
  have h4:(WTm.not (.lt (.lit (.int (n:Int))) (.len (.arg 0)))).holds [] { args:=[.list (ns.map .int)]}=true:=by have h4:=(holds_andW hc).1;rw[hn]at h4;exact h4
  have h5:=condW_of h4 (w_not (w_lt w_lit (w_len_list (w_arg rfl))));refine Nat.le_of_not_lt λq=>?_
  first
   | (rw[w9 q']at h5;exact absurd h5 ⋯)
   | (simp at h5;lia)
 cases hwl with
 |cons w1 w2=>
  cases w2;cases w1 with
  |list ho hall=>exact#[_,_,ns,rfl,rfl,ho,lg ns _ hall,aM]
theorem zJ(l:OpenLaw)(args:List WData):l.row.toRowW.claim.post args (.bool true) args=true:=
 postW_of
  (show WShape.has [] (.bool true) .bool=true by first |rfl |decide |simp[WShape.arms])
  (show (WTm.eq .res (.lit (.bool true))).value [] { args:=args,res:=!(.bool true),after:=args}=!(.bool (true==true))from w_eq_bool (w_res rfl) w_lit) rfl
theorem tK{l:OpenLaw}{n:Nat}{q:Program}{loose:List Str}{XP:(Str->Option Value)->Heap->Prop}{YP:World->Heap->Prop}{d:DefRec}
  (hn:l.most=!n) (iR:d.params.defaults=[])
  (call:∀(w:World) (s₀ s₁:Shared) (mg mb:Str->Option Value) (fa:Addr) (o:Obj) (pm cd doc:Value) (a:Addr) (vs:List Value) (ns: ~~~0),
   Ground q loose [] XP w s₀ mg mb s₁.heap->YP w s₁.heap->
   s₁.heap.get? fa=!o->o.data=.func (docDef d.name d.params d.body d.scope pm cd doc)->s₁.heap.CodeRec cd d.name->mg d.name=!(.ref fa)->
   s₁.heap.get? a=some { cls:=.type "list",data:=.seq vs.toArray}->IntsAre vs ns->ns.length<=n->s₁.gens = ([].toArray)->
   codeAny (model l.prog w) callerA (.call (.ref fa) #[[.ref a],[]]) (λr s'=>r=.ok (.ret (.bool true))/\OldK s₁.heap s'.heap/\s'.os=s₁.os/\AllBare s'.gens) s₁) :
  WalkO q loose XP YP l.row.toRowW d [] (λf vs=>PySem.call f vs):=by
 intro w s₀ s₁ mg mb G Y fa o pm cd doc dV kV ho hd bM hD hmg hg args vals as hpre hlay hrd hwl hlo;obtain rfl:dV=.none:=Dflts.none hD iR;obtain rfl:kV=.none:=Dflts.noKw hD;obtain⟨a,vs,ns,rfl,rfl,hobj,hints,aM⟩:=zI hn hpre hwl;refine enter_call (B8 (call w s₀ s₁ mg mb fa o pm cd doc a vs ns G Y ho (fd_plain hd) bM hmg hobj hints aM hg) λr s' hq=>?_)
 obtain⟨rfl,h2,h3,h4⟩:=hq;exact#[.inl #[.bool true,.bool true,[],rfl,λ_=>rfl,.bool true,zJ l _,λ_=>#[List.Pairwise.nil,λ_ hm=>(nomatch hm)]],h2,h3,h4]
end Att
namespace L2
theorem pG:∀{vs:List Value}{ns: ~~~0},IntsAre vs ns->Vals (ns.map V.int) vs:=by
 intro vs ns h
 induction h with
 |nil=>exact .nil
 |cons n t h ih=>exact .cons #[t,rfl] ih
abbrev KOf{K:Frag}{h:Heap}(_:K.In h):Frag:=K
abbrev v8:zF:=λ_ _ _ _ _ _=>False
abbrev E0:XK:=λ_ _ _=>False
theorem Ow:Passes v8 X E0:=λ_ _ _ _ _ _ _ h=>h.elim
structure JH(K:Frag)(x qual:Str)(st:Stmt)(f:Addr)(fd:FuncData):Prop where
 ex:∃(oc:Value) (od:Option Addr) (kV doc pm:Value) (an:Option Addr) (bz ct:Value) (osl:Array (Option Value)),
  fd=PySem.W.fnOf x qual (gi st) (bq st) (aE st) .none kV doc pm an bz ct/\K.lookup f=!#[oc,od,.func fd,osl]/\PySem.W.codeIn K bz qual=true
 kp:PySem.W.keepIn K (.ref f)=true
section
variable{P:Program}{w:World}{K:Frag}{mg:Str->Option Value}{base:Heap}
theorem QL{x qual:Str}{st:Stmt}{f:Addr}{oc:Value}{od an:Option Addr}{osl:Array (Option Value)}{kV doc pm bz ct:Value}(l:K.lookup f=!#[oc,od,.func (PySem.W.fnOf x qual (gi st) (bq st) (aE st) .none kV doc pm an bz ct),osl])
  (c:PySem.W.codeIn K bz qual=true) (k:PySem.W.keepIn K (.ref f)=true):JH K x qual st f (PySem.W.fnOf x qual (gi st) (bq st) (aE st) .none kV doc pm an bz ct):=#[#[oc,od,kV,doc,pm,an,bz,ct,osl,rfl,l,c],k]
end
theorem qQ{A B:Prop}(h:B):if false=true then A else B:=by exact h
theorem qR{A B:Prop}(h:A):if true=true then A else B:=by exact h
noncomputable def Cx.block(X:Cx)(N:List Str)(scope:Scope)(cl:List (Str×Addr))(C:Addr)(s₀:Shared)(H₀:Hp)(fp:List Addr):Cx:=
 { X with N:=N,s₀:=s₀,H₀:=H₀,env:=compEnvC scope cl C X.env,outer:=X.stack,ex:=fp,fn:=λx=>scope.names.lookup x==some .local,pn:=[],xe:=λ_ _=>False}
structure Bk where
 cl:List (Str×Addr)
 C:Addr
 s₀:Shared
 H₀:Hp
 fp:List Addr
abbrev Cx.blk (X:Cx) (N:List Str) (scope:Scope) (b:Bk):Cx:=X.block N scope b.cl b.C b.s₀ b.H₀ b.fp
structure bN(sc scope:Scope):Prop where
 kind:scope.kind=.function
 qT:∀y∈scope.names,y.2≠.cell
 uniq:∀y∈scope.names,y.2=.local->scope.names.lookup y.1=some .local
 XJ:∀y∈scope.names,y.2=.free->scope.names.lookup y.1=some .free
 free:∀y∈scope.names,y.2=.free->sc.names.lookup y.1=some .cell\/sc.names.lookup y.1=some .free
theorem mem_of_lookup{α:Type}{x:Str}{v:α}:∀{l:List (Str×α)},l.lookup x=!v->(x,v)∈l
 | [],h=>by simp at h
 | (n,k)::r,h=>by
  cases hx:x==n with
  |true=>
   simp only[At,hx]at h;symm;have e:x=n:=by simpa using hx
   subst e;exact bP
  |false=>simp only[At,hx]at h;exact a8 _ (mem_of_lookup h)
theorem fL{env:Env}{x:Str}:∀{names:List (Str×NameKind)},
  (names.map λ(n,k)=>if (k==NameKind.free&&env.scope.kind==.function&&env.kindOf n==some .cell)then (n,NameKind.cell)else (n,k)).lookup x
   = (names.lookup x).map λk=>if (k==NameKind.free&&env.scope.kind==.function&&env.kindOf x==some .cell)then NameKind.cell else k
 | []=>rfl
 | (n,k)::r=>by
  have ih:=@fL env x r;show List.lookup x ((if (k==NameKind.free&&env.scope.kind==.function&&env.kindOf n==some .cell)=true then (n,NameKind.cell)else (n,k))::_)=_
  cases hx:x==n with
  |true=>
   have e:x=n:=by simpa using hx
   subst e;by_cases hc:(k==NameKind.free&&env.scope.kind==.function&&env.kindOf x==some .cell)=true
   . rw[tJ hc];simp only[At,hx,EK,tJ hc]
   . rw[sK hc];simp only[At,hx,EK,sK hc]
  |false=>
   by_cases hc:(k==NameKind.free&&env.scope.kind==.function&&env.kindOf n==some .cell)=true
   . rw[tJ hc];simp only[At,hx];exact ih
   . rw[sK hc];simp only[At,hx];exact ih
theorem lW(h:∀y∈scope.names,y.2=.free->∃c,env.cells.lookup y.1=!c) :
  ∃cl,closureFor scope env=pure cl/\(∀x c,cl.lookup x=!c->env.cells.lookup x=!c/\(x,NameKind.free)∈scope.names)/\∀y∈scope.names,y.2=.free->∃c,cl.lookup y.1=!c:=by
 have key:∀(names:List (Str×NameKind)) (acc:List (Str×Addr)),(∀y∈names,y.2=.free->∃c,env.cells.lookup y.1=!c)->
   ∃cl,(forIn names acc λx (cs:List (Str×Addr))=>(match x with | (name,kind)=>if (kind==.free)=true then (do let c <- cellOf env name;pure (ForInStep.yield ((name,c)::cs)))else pure (ForInStep.yield cs):Sem (ForInStep (List (Str×Addr)))))=pure cl/\
    (∀x c,cl.lookup x=!c->acc.lookup x=!c\/(env.cells.lookup x=!c/\(x,NameKind.free)∈names))/\(∀y∈names,y.2=.free->∃c,cl.lookup y.1=!c)/\∀x c,acc.lookup x=!c->∃c',cl.lookup x=!c':=by
  intro names
  induction names with
  |nil=>intro acc _;exact#[acc,rfl,λx c e=>.inl e,(λy hy=>nomatch hy),λx c e=>#[c,e]]
  |cons y r ih=>
   intro acc hf;obtain⟨n,k⟩:=y;rw[List.forIn_cons];by_cases hk:(k==NameKind.free)=true
   .
    obtain⟨c,hc⟩:=hf (n,k) bP (by simpa using hk)
    have hc':=hc;obtain⟨cl,e,h1,h2,h3⟩:=ih ((n,c)::acc) λy hy=>hf y (a8 _ hy)
    refine#[cl,?_,λx c' q=>?_,λy hy hyf=>?_,λx c' q=>?_]
    .
     have ec:cellOf env n=pure c:=by unfold cellOf;rw[hc']
     show ((if (k==NameKind.free)=true then (do let c <- cellOf env n;pure (ForInStep.yield ((n,c)::acc)))else pure (ForInStep.yield acc)) >>= _)=_
     rw[tJ hk,ec];exact e
    .
     rcases h1 x c' q with z |⟨z1,z2⟩
     .
      cases hx:x==n with
      |true=>
       simp only[At,hx]at z;cases z;have e:x=n:=by simpa using hx
       subst e;have ek:k=NameKind.free:=by simpa using hk
       subst ek;exact .inr #[hc',bP]
      |false=>simp only[At,hx]at z;exact .inl z
     . exact .inr #[z1,a8 _ z2]
    .
     rcases dA.mp hy with rfl |hy
     . exact h3 n c ⋯
     . exact h2 y hy hyf
    .
     cases hx:x==n with
     |true=>
      have e:x=n:=by simpa using hx
      subst e;exact h3 x c ⋯
     |false=>exact h3 x c' (by simp only[At,hx];exact q)
   .
    obtain⟨cl,e,h1,h2,h3⟩:=ih acc λy hy=>hf y (a8 _ hy)
    refine#[cl,?_,λx c' q=>?_,λy hy hyf=>?_,h3]
    .
     show ((if (k==NameKind.free)=true then (do let c <- cellOf env n;pure (ForInStep.yield ((n,c)::acc)))else pure (ForInStep.yield acc)) >>= _)=_
     rw[sK hk];exact e
    .
     rcases h1 x c' q with z |⟨z1,z2⟩
     . exact .inl z
     . exact .inr #[z1,a8 _ z2]
    .
     rcases dA.mp hy with rfl |hy
     . exact absurd hyf (by simpa using hk)
     . exact h2 y hy hyf
 obtain⟨cl,e,h1,h2,_⟩:=key scope.names [] h;refine#[cl,?_,λx c q=>?_,h2]
 . exact (congrArg (λm=>m >>= λcs=>pure cs) e:_)
 .
  rcases h1 x c q with z |z
  . simp at z
  . exact z
def tL(X:Cx)(ifs:List Expr)(t:TT):Prop:=
 ∀(aj: ~~~1) (s:Shared) (σ:St) (H:Hp) (Q:Bool->Hp->Prop),Inv X aj σ H s->t σ H Q->
  wpAny (~~~2) X.A (forIn ifs true λc r=>if r=true then do let ok <- isTrue c X.env (eval c X.env);pure (ForInStep.yield ok)else pure (ForInStep.yield r)) (TP X aj σ Q) X.xe s
def XM:TT:=λ_ H Q=>Q true H
theorem Dj:tL X [] XM:=λ_ _ _ H _ I h=>wpAny_tests_nil #[H,I,h]
theorem Dk(h:PT X c t):tL X [c] t:=λaj s σ H Q I hw=>wpAny_tests_one (h aj s σ H Q I hw)
noncomputable def v9(e target iter:Expr)(ifs:List Expr)(d:Nat)(it acc:Value)(env:Env)(em:Sem Unit):Sem Fin:=do
 standAt iter.pos
 match <- pyNext it with
 |none=>pure (.done .next)
 |some v=>
  letOwnedTupleGo target it v
  assign target env v
  let mut ok:=true
  for c in ifs do
   if ok then ok <- isTrue c env (eval c env)
  if ok then em
  again (.compLoop e d it acc env)
def Cu(ce:Expr):Prop:=∀(prog:Program) (w:World) (A:Around) (d:Nat) (it acc:Value) (env:Env),A.under (.compLoop ce d it acc env)=A/\(model prog w).den (.compLoop ce d it acc env)=(compTurn ce d it acc env).onRaise (λx=>do noteFrame x env;theTreesLotGoes x)
theorem qU(hu:Cu ce)(ht:compTurn ce d it acc env=v9 ce target iter ifs d it acc env em)(I:Nat->Shared->Prop)
  (turn:∀n s,I n s->wpAny (model prog w) A (pyNext it) (λr s₁=>match r with
   |none=>R (.ok .next) s₁
   |some v=>wpAny (model prog w) A (letOwnedTupleGo target it v) (λ_ s₁'=>wpAny (model prog w) A (assign target env v) (λ_ s₂=>
     wpAny (model prog w) A (forIn ifs true λc r=>if r=true then do let ok <- isTrue c env (eval c env);pure (ForInStep.yield ok)else pure (ForInStep.yield r)) (λok s₃=>
      if ok=true then wpAny (model prog w) A em (λ_ s₅=>∃m,m<n/\I m s₅) (λ_ _=>False) s₃
      else ∃m,m<n/\I m s₃) (λ_ _=>False) s₂) (λ_ _=>False) s₁') (λ_ _=>False) s₁) (λ_ _=>False) s)
  (n:Nat) (h:I n s) :
  codeAny (model prog w) A (.compLoop ce d it acc env) R s:=by
 refine codeAny_loop rfl I (λn s hI=>?_) n h
 rw[(hu prog w A d it acc env).1,(hu prog w A d it acc env).2];refine wpAny_noted ?_;rw[ht];refine aS (wpAny_standAt (aS (qS (turn n s hI) (λr s₁ h₁=>?_) λ_ _ h'=>h'.elim)))
 cases r with
 |none=>exact dL h₁
 |some v=>
  refine aS (qS h₁ (λ_ s₁' h₁'=>?_) λ_ _ h'=>h'.elim)
  refine aS (qS h₁' (λ_ s₂ h₂=>aS (qS h₂ (λok s₃ h₃=>?_) λ_ _ h'=>h'.elim)) λ_ _ h'=>h'.elim)
  cases ok with
  |false=>exact dL #[rfl,h₃]
  |true=>exact aS (qS h₃ (λ_ s₅ h₅=>dL #[rfl,h₅]) λ_ _ h'=>h'.elim)
abbrev TU:=St->Hp->(St->Hp->Prop)->Prop
def PU(X:Cx)(m:Sem Unit)(t:TU):Prop:=
 ∀(aj: ~~~1) (s:Shared) (σ:St) (H:Hp) (Q:St->Hp->Prop),Inv X aj σ H s->t σ H Q->wpAny (~~~2) X.A m (λ_ s'=>∃σ' H',Inv X aj σ' H' s'/\Q σ' H') (λ_ _=>False) s
def JK(D:Addr)(te:TE):TU:=λσ H Q=>te σ H λv H5=>∃ys,H5 D=!(.lst ys)/\ys.length<sizeLine/\Q σ (upd H5 D (.lst (ys++[v])))
theorem Dl(he:PE X lO te)(hx:X.xe=λ_ _=>False):PU X (do let _ <- call (.builtin "list.append") [.ref D,<- eval lO X.env]) (JK D te):=by
 intro aj s σ H Q I h;have he:=he aj s σ H _ I h;rw[hx]at he;refine aS (qS he (?_) λ_ _ z=>z)
 rintro y s8 ⟨v,H8,I8,r8,ys,hD8,hz8,q8⟩;have ma:=pF aj s8 σ H8 (.ref D) [v] (.ref D) [y] (λ_ H9=>Q σ H9) I8 rfl (.cons r8 .nil) #[_,ys,v,rfl,rfl,hD8,hz8,q8]
 rw[hx]at ma;exact aS (qS ma (by rintro _ s9 ⟨_,H9,I9,_,q9⟩;exact dL #[σ,H9,I9,q9]) λ_ _ z=>z)
noncomputable def σC(k:Nat)(D:Addr)(σ:St):St:=σ++(List.replicate k none++[!(.ref D)])
def BkIn(X:Cx)(σ:St)(b:Bk):Prop:=∃aj,Inv X aj σ b.H₀ b.s₀/\∀a∈b.fp,jc X aj b.H₀ a
def JL(u0:HO)(X:Cx)(k:Nat)(g:Bk->TG)(tt:Bk->TT)(te:Addr->Bk->TU)(J:It)(D:Addr)(σ:St)(H1:Hp)(Q:VK):Prop:=
 ∃W:Nat->Nat->St->Hp->Prop,(∃m,W 0 m (σC k D σ) (upd H1 D u0))/\∀i m σ' H',W i m σ' H'->
  (J.stop i H'/\Q (.ref D) H')\/(J.go i H'/\∃Nn:St->Hp->Prop,(∀V7 V8,Nn V7 V8->∃m',m'<m/\W (i+1) m' V7 V8)/\∀x H2,J.Xj i H' x H2->∀bk:Bk,BkIn X σ bk->g bk x σ' H2 λσ2 H3=>tt bk σ2 H3 λb H4=>
   if b=true then te D bk σ2 H4 Nn else Nn σ2 H4)
noncomputable def Dm(u0:HO)(X:Cx)(k:Nat)(wi:TI)(g:Bk->TG)(tt:Bk->TT)(te:Addr->Bk->TU):TE:=λσ H Q=>wi σ H λJ H1=>∀D,H1 D=none->JL u0 X k g tt te J D σ H1 Q
abbrev Dn:=Dm (.lst [])
structure Ck(X:Cx)(ce tg iter:Expr)(ifs:List Expr)(rest:List Comprehension)(new:Sem Value)(u0:HO)(em:Value->Env->Sem Unit):Prop where
 cls:clausesOf ce=#[tg,iter,ifs,0]::rest
 und:Cu ce
 turn:∀it D env,compTurn ce 0 it (.ref D) env=v9 ce tg iter ifs 0 it (.ref D) env (em (.ref D) env)
 new:∃o0:Obj,o0.isFreed=false/\(∀{A:Around}{E Q:Value->Shared->Prop}{s:Shared},Q (.ref s⁻¹) { s with heap:=s.heap.push o0}->wpAny (~~~2) A new Q E s)/\
  ∀(H:Hp) (h:Heap) (a:Addr),h.get? a=!o0->(a==sysModules)=false->bR X.prog X.w H h a u0
 start:∀{A:Around}{R:Result->Shared->Prop}{s:Shared}{it acc:Value}{env:Env},codeAny (~~~2) A (.compLoop ce 0 it acc env) R s->
  wpAny (~~~2) A (pyIter it) (λit' s'=>codeAny (~~~2) A (.compLoop ce 0 it' acc env) R s') (notedBy (~~~2) A env λx s'=>R (.error x) s') s->codeAny (~~~2) A (.compStart ce 0 it acc env) R s
theorem xU{X:Cx}{lO tg iter:Expr}{ifs:List Expr}{rest:List Comprehension}{scope:Scope}{pos:Pos}{em:Value->Env->Sem Unit}(h:∀it acc env,compTurn (.ListComp lO (#[tg,iter,ifs,0]::rest) scope pos) 0 it acc env=v9 (.ListComp lO (#[tg,iter,ifs,0]::rest) scope pos) tg iter ifs 0 it acc env (em acc env)) :
  Ck X (.ListComp lO (#[tg,iter,ifs,0]::rest) scope pos) tg iter ifs rest (newList []) (.lst []) em where
 cls:=rfl
 und:=λ_ _ _ _ _ _ _=>#[rfl,rfl]
 turn:=λit D env=>h it (.ref D) env
 new:=#[_,rfl,λh=>wT h,λ_ _ _ e _=>#[sR _,[],_,.nil,e]]
 start:=codeAny_compStart_list
structure Names(N N':List Str)(scope:Scope)(k:Nat):Prop where
 len:N'.length=N.length+(k+1)
 last:∀x,N'[N.length+k]?=!x->scope.names.lookup x=none
 old:∀i x,N'[i]?=!x->i<N.length->scope.names.lookup x=none\/(N[i]?=!x/\scope.names.lookup x≠some .local)
theorem cN:(relabel scope env).names.lookup x=(scope.names.lookup x).map λk=>if (k==NameKind.free&&env.scope.kind==.function&&env.kindOf x==some .cell)then NameKind.cell else k:=fL
section
variable{X:Cx}
theorem lX(B:bN X.env.scope scope)(h:(compEnvC scope cl C X.env).kindOf x=some .cell\/(compEnvC scope cl C X.env).kindOf x=some .free) :
  (x,NameKind.free)∈scope.names:=by
 have e:(compEnvC scope cl C X.env).kindOf x=(scope.names.lookup x).map λk=>if (k==NameKind.free&&X.env.scope.kind==.function&&X.env.kindOf x==some .cell)then NameKind.cell else k:=cN
 rw[e]at h;cases q:scope.names.lookup x with
 |none=>rw[q]at h;rcases h with h |h <;> symm
 |some k=>
  have hm:=mem_of_lookup q;cases k with
  |free=>exact hm
  |cell=>exact absurd rfl (B.qT _ hm)
  |_=>rw[q]at h;rcases h with h |h <;> (simp at h)
theorem Dp(B:bN X.env.scope scope)(I: ~~~7)(hC:s⁻¹<=C)
  (hf:∀b∈fp,jc X aj H b) (hfs:∀b∈fp,b<s⁻¹)
  (hcl:∀x c,cl.lookup x=!c->X.env.cells.lookup x=!c/\(x,NameKind.free)∈scope.names) (JM:∀y∈scope.names,y.2=.free->∃c,cl.lookup y.1=!c):(X.block N' scope cl C s H fp).Ok where
 mod:=I.ok.mod
 kind:=B.kind
 glob:=I.ok.glob
 blt:=I.ok.blt
 above:=hC
 inj:=λx y c h1 h2=>I.ok.inj x y c (hcl x c h1).1 (hcl y c h2).1
 has:=λx h=>JM _ (lX B h) rfl
 Qa:=λx c h1 h2=>by
  have e:scope.names.lookup x=some .local:=by have:(scope.names.lookup x==!NameKind.local)=true:=h1;simpa using this
  have h3:=(hcl x c h2).2;have q:=B.XJ _ h3 rfl;rw[e]at q;cases q
 hd:=I.ok.hd
 frames:=I.ok.frames
 stk:=.inl rfl
 V4:=λb hb=>#[i6 (i4 (hfs b hb) hC),λx c e=>(hf b hb).2.2.2.2.1 x c (hcl x c e).1]
 bs:=I.bs
 CG:=oI I.ok.CG I.sz
 sX:=λb o e hb=>by
  obtain⟨_,_,_,h3,_⟩:=hf b hb;rcases h3 with h3 |h3
  . exact I.ok.sX b o e h3
  . exact absurd (i4 (fI e) (oI I.ok.CG h3)) (yA _)
 vU:=λb hb hm=>by
  rcases dA.mp (I.vV b hm)with e |e
  . exact (hf b hb).2.1 e
  . exact (hf b hb).2.2.1 e
 iX:=I.stack
 Jo:=I.qB
theorem pH{aj: ~~~1}{σ:St}{H:Hp}{s:Shared}{N':List Str}{k:Nat}{wi:TI}{g:Bk->TG}{tt:Bk->TT}{tu:Addr->Bk->TU}{ce:Expr}{rest:List Comprehension}{new:Sem Value}{u0:HO}{cp:Pos}{em:Value->Env->Sem Unit}{use:Option (Value->Sem Unit)}{Q:Value->Shared->Prop}{Q0:VK}
  (B:bN X.env.scope scope) (hc:X.calm=true) (hN:Names X.N N' scope k) (hi:PI X tg iter wi) (ck:Ck X ce tg iter ifs rest new u0 em)
  (hin:∀(b:Bk) (D:Addr),PG (X.blk N' scope b) tg (g b)/\tL (X.blk N' scope b) ifs (tt b)/\PU (X.blk N' scope b) (em (.ref D) (X.blk N' scope b).env) (tu D b))
  (hs:∀x,foldedSetIterable iter X.env x=pure x) (I: ~~~7) (h:Dm u0 X k wi g tt tu σ H Q0)
  (fin:∀s' H' D C m,Inv X aj σ H' s'->jc X aj H' C->s'.heap.Ns C m->Q0 (.ref D) H'->compPost (~~~2) X.A X.xe use Q (.ref D) C (.ok .next) s') :
  wpAny (~~~2) X.A (comprehension ce scope X.env cp new false (eval iter X.env) use) Q X.xe s:=by
 obtain⟨cl,hclos,hcl,JM⟩:=lW λy hy hf=>I.ok.has y.1 (B.free y hy hf)
 refine wpAny_comprehension_free ck.cls hs hclos B.kind B.uniq (bA (hi aj s σ H _ I h) λxv s₁ h₁=>bA h₁ λitv s₂ h₂=>?_)
 obtain⟨it,fp,tn,J,H2,rfl,I2,T,aL,f2,hW⟩:=h₂;obtain⟨o0,fr0,new0,ok0⟩:=ck.new;refine new0 (wpAny_newFunctionEnv B.qT (by intro y hy;simp at hy) (λh₁ XQ QM=>?_) B.kind)
 generalize hH2:s₂.heap.push o0=P2 at XQ QM ⊢
 have hC:P2.objs.size=s₂⁻¹+1:=by rw[<- hH2,oQ]
 have hDC:s₂⁻¹≠P2.objs.size:=by rw[hC];exact i6 (t9 _)
 have QS:s₂⁻¹<=P2.objs.size:=by rw[hC];exact BI _
 have old:∀b o,s₂.heap.get? b=!o->h₁.get? b=!o:=λb o e=>QM.extBut b o (i6 (by rw[hC];exact AD (fI e))) (a7 _ (hH2▸a7 _ e))
 have hD0:=I2.hok.fresh (eA _);have hC0:=I2.hok.fresh QS;have nsys:(s₂⁻¹==sysModules)=false:=by
  have h1:=(I2.ok.mod.glob.keeps I2.bk).lt;refine Bool.eq_false_iff.mpr λq=>?_
  have q:=eq_of_beq q;rw[q]at h1;exact absurd h1 ⋯
 have fps:∀b∈fp,b<s₂⁻¹:=λb hb=>by
  obtain⟨o,e,_⟩:=T.obj _ _ aL b hb;exact fI e
 have ok':=Dp (N':=N') B I2 QS f2 fps hcl JM;obtain⟨W,⟨m0,w0⟩,turn⟩:=hW s₂⁻¹ hD0;have fsub:∀b∈fp,b∉frs X.stack:=λb hb=>ok'.vU b hb
 obtain⟨hg,ht,he⟩:=hin #[cl,P2.objs.size,s₂,H2,fp] s₂⁻¹;have I0:Inv (X.block N' scope cl P2.objs.size s₂ H2 fp) [] (σC k s₂⁻¹ σ) (upd H2 s₂⁻¹ u0) { s₂ with heap:=h₁,toks:=s₂.toks+([]:List (Str×Value)).length}:=by
  refine#[ok',rfl,I2.bare,Un.laid old (eA _) hD0,#[_,XQ,λi x v e1 e2 e3=>?_],λx c e=>?_,?_,λx c e=>?_,λp hp=>?_,I2.hok.laid old (eA _) ?_,?_]
  .
   have XR:(compEnvC scope cl P2.objs.size X.env).kindOf x=some .local\/(compEnvC scope cl P2.objs.size X.env).kindOf x=some .cell\/(compEnvC scope cl P2.objs.size X.env).kindOf x=some .free:=e3;have ek:(compEnvC scope cl P2.objs.size X.env).kindOf x=(scope.names.lookup x).map λk=>if (k==NameKind.free&&X.env.scope.kind==.function&&X.env.kindOf x==some .cell)then NameKind.cell else k:=cN
   have W6:i<σ.length:=by
    rcases AX i σ.length with z |z
    . exact z
    .
     exfalso;unfold σC at e2;rw[eD z]at e2;rcases AX (i - σ.length) k with z2 |z2
     .
      rw[fN (by rw[tP];exact z2)]at e2
      have:=pE e2;rw[BC]at this;exact absurd this.2 ⋯
     .
      rw[eD (by rw[tP];exact z2),tP]at e2
      have z3:i - σ.length - k=0:=by
       rcases Nat.eq_zero_or_pos (i - σ.length - k)with q |q
       . exact q
       . rw[AM (Nat.succ_le_of_lt q)]at e2;cases e2
      have z4:i=X.N.length+k:=by rw[<- I2.len];lia
      have hn:=hN.last x (by rw[<- z4];exact e1)
      rw[ek,hn]at XR;rcases XR with q |q |q <;> cases q
   have e2':σ[i]?=!(!v):=by unfold σC at e2;rw[fN W6]at e2;exact e2
   have hiN:i<X.N.length:=by rw[<- I2.len];exact W6
   rcases hN.old i x e1 hiN with z |⟨z,z2⟩
   . rw[ek,z]at XR;rcases XR with q |q |q <;> cases q
   .
    have hfree:(compEnvC scope cl P2.objs.size X.env).kindOf x=some .cell\/(compEnvC scope cl P2.objs.size X.env).kindOf x=some .free:=by
     rcases XR with q |q
     .
      exfalso;rw[ek]at q;cases hq:scope.names.lookup x with
      |none=>rw[hq]at q;cases q
      |some kk=>
       rw[hq]at q;cases kk with
       | «local»=>exact z2 hq
       |free=>simp only[EK]at q;split at q <;> cases q
       |_=>simp at q
     . exact q
    have hm:=lX B hfree;obtain⟨c,hc1⟩:=JM _ hm rfl;have XS:=hc1;have hc2:=(hcl x c XS).1;obtain⟨m2,hn2,hl2⟩:=I2.loc;have hvis:sW X.env.scope x:=(B.free _ hm rfl).elim (λa=>.inr (.inl a)) λa=>.inr (.inr a)
    obtain⟨u,ru,lk⟩:=hl2 i x v z e2' hvis;refine#[u,ru,.inr #[hfree,c,XS,?_]];rcases lk with ⟨q1,_⟩ |⟨_,c',q1,q2⟩
    .
     exfalso;have JN:X.env.scope.names.lookup x=some .local:=q1;rcases B.free _ hm rfl with y |y
     . have y':=y;rw[JN]at y';cases y'
     . have y':=y;rw[JN]at y';cases y'
    . rw[hc2]at q1;cases q1;obtain⟨o,ho,hd⟩:=q2;exact#[o,old _ _ ho,hd]
  . obtain⟨v,o,ho,hd⟩:=I2.cell x c (hcl x c e).1;exact#[v,o,old _ _ ho,hd]
  . show upd H2 s₂⁻¹ u0 P2.objs.size=none;rw[az (wP hDC)];exact hC0
  . have q:=I2.cG x c (hcl x c e).1;obtain⟨v,z⟩:=I2.cell x c (hcl x c e).1;rw[az (i6 z.lt)];exact q
  . exact absurd (show p∈([]: ~~~1)from hp) ⋯
  . exact ok0 _ _ _ (QM.extBut _ _ hDC (a7 _ (hH2▸dC _ fr0))) nsys
  . show (σC k s₂⁻¹ σ).length=N'.length;unfold σC;rw[eQ,eQ,tP,hN.len,I2.len];rfl
 have stat:∀{H':Hp},(∀b∈fp,H' b=none)->∀b∈fp,jc (X.block N' scope cl P2.objs.size s₂ H2 fp) [] H' b:=λhn b hb=>
  #[hn b hb,(ok'.V4 b hb).1,fsub b hb,.inl hb,λx c e=>(ok'.V4 b hb).2 x c e,λp hp=>absurd (show p∈([]: ~~~1)from hp) ⋯]
 have loop:∀s₃:Shared,s₃={ s₂ with heap:=h₁,toks:=s₂.toks+([]:List (Str×Value)).length}->
   codeAny (~~~2) X.A (.compLoop ce 0 (.ref it) (.ref s₂⁻¹) (compEnvC scope cl P2.objs.size X.env))
    (compPost (~~~2) X.A X.xe use Q (.ref s₂⁻¹) P2.objs.size) s₃:=by
  rintro s₃ rfl;refine qU ck.und (ck.turn _ _ _) (λn s'=>∃i σ' H',Inv (X.block N' scope cl P2.objs.size s₂ H2 fp) [] σ' H' s'/\tn i s'.heap/\(∀b∈fp,H' b=none)/\W i n σ' H') ?_ m0
   #[0,_,_,I0,T.keep _ _ _ aL λb hb o e=>old b o e,λb hb=>?_,w0]
  .
   rintro n s3 ⟨i,σ3,H3,I3,fy,Xn,w3⟩;rcases turn i n σ3 H3 w3 with ⟨stop,qn⟩ |⟨go,Nn,hNn,step⟩
   .
    refine bA (T.done (X.block N' scope cl P2.objs.size s₂ H2 fp) rfl rfl rfl hc i [] s3 σ3 H3 (λ_ _=>False) I3 (stat Xn) fy stop) λr s4 #[hr,I4]=>?_
    subst hr;obtain⟨m,hm,_⟩:=id I4.loc;have I5:=I2.call' I4.os I4.base I4.hok I4.bare λb hb=>#[(f2 b hb).2.2.2.1,(f2 b hb).2.1,(f2 b hb).2.2.2.2.1,(f2 b hb).2.2.2.2.2]
    exact fin s4 H3 _ _ m I5 (I2.qH QS I4.free) hm qn
   .
    refine bA (T.item (X.block N' scope cl P2.objs.size s₂ H2 fp) rfl rfl rfl hc i [] s3 σ3 H3 (λ_ _=>False) I3 (stat Xn) fy go) λr s4 #[u,hr,h4]=>?_
    subst hr;refine bA h4 ?_;rintro _ s5 ⟨x,H5,I5,r5,y5,xO,fr5⟩;have I5':=I5.pinned (stat fr5) (T.obj _ _ xO);have again:∀{σ7:St}{H7:Hp}{s7:Shared},Inv (X.block N' scope cl P2.objs.size s₂ H2 fp) ([]++lU fp s5.heap) σ7 H7 s7->Nn σ7 H7->∃m,m<n/\∃i σ' H',Inv (X.block N' scope cl P2.objs.size s₂ H2 fp) [] σ' H' s7/\tn i s7.heap/\(∀b∈fp,H' b=none)/\W i m σ' H':=λ{σ7 H7 s7} I7 n7=>by
     obtain⟨m',hm,w7⟩:=hNn σ7 H7 n7;refine#[m',hm,i+1,σ7,H7,I7.jd,T.keep _ _ _ xO λb hb o e=>(I7.pin (b,o) (hV _ (hV _ (eL hb e)))).1,λb hb=>?_,w7]
     obtain⟨o,e,d⟩:=T.obj _ _ xO b hb;exact (I7.pin (b,o) (hV _ (hV _ (eL hb e)))).2.1
    refine bA (hg _ s5 σ3 H5 x u _ I5' r5 (step x H5 y5 #[cl,P2.objs.size,s₂,H2,fp] #[aj,I2,f2])) ?_;rintro _ s6 ⟨σ6,H6,I6,q6⟩;refine bA (ht _ s6 σ6 H6 _ I6 q6) ?_;rintro b s7 ⟨H7,I7,q7⟩;cases b with
    |false=>exact again I7 q7
    |true=>exact qS (he _ s7 σ6 H7 _ I7 q7) (by rintro _ s9 ⟨σ9,H9,I9,q9⟩;exact again I9 q9) λ_ _ z=>z
  . show upd H2 s₂⁻¹ u0 b=none;rw[az (i6 (fps b hb))];exact (f2 b hb).1
 refine ck.start (loop _ rfl) (T.self _ 0 _ _ _ ?_ (loop _ rfl));exact T.keep _ _ _ aL λb hb o e=>old b o e
theorem JQ{N':List Str}{k:Nat}{wi:TI}{g:Bk->TG}{tt:Bk->TT}{te:Bk->TE}(B:bN X.env.scope scope)(hc:X.calm=true)(hN:Names X.N N' scope k)(hi:PI X tg iter wi)
  (hin:∀b:Bk,PG (X.blk N' scope b) tg (g b)/\tL (X.blk N' scope b) ifs (tt b)/\PE (X.blk N' scope b) lO (te b))
  (hs:∀x,foldedSetIterable iter X.env x=pure x:=by intro _;rfl):PE X (.ListComp lO [#[tg,iter,ifs,0]] scope pos) (Dn X k wi g tt λD b=>JK D (te b)):=by
 intro aj s σ H Q I h;refine pH B hc hN hi (xU λ_ _ _=>rfl) (λb D=>#[(hin b).1,(hin b).2.1,Dl (hin b).2.2 rfl]) hs I h λs' H' D C m I' f' hn q=>?_
 refine#[m,hn,λh' sb=>#[.ref D,H',?_,rfl,q]]
 obtain⟨f0,f1,f2,f3,f4,f5⟩:=f';exact I'.turned (λb o hb e=>(sb.2 b hb).trans e) f0 f1 f3 f4 f5
theorem JR{N':List Str}{k:Nat}{wi:TI}{g:Bk->TG}{tt:Bk->TT}{te:Bk->TE}{i:Nat}{y:Str}{py fZ:Pos}(B:bN X.env.scope scope)(hc:X.calm=true)(hN:Names X.N N' scope k)(hi:PI X tg iter wi)
  (hin:∀b:Bk,PG (X.blk N' scope b) tg (g b)/\tL (X.blk N' scope b) ifs (tt b)/\PE (X.blk N' scope b) lO (te b))
  (XT:X.N.Nodup) (hy:X.N[i]?=!y) (hl:X.env.scope.names.lookup y=some .local)
  (hsw:swapsWith (.ListComp lO [#[tg,iter,ifs,0]] scope pos) (!(.Name y py)) fZ.line X.env=pure true)
  (hs:∀x,foldedSetIterable iter X.env x=pure x:=by intro _;rfl):PS X (.Assign [.Name y py] (.ListComp lO [#[tg,iter,ifs,0]] scope pos) fZ) (Ql (Dn X k wi g tt λD b=>JK D (te b)) (CQ i)):=by
 intro aj s σ H D0 I h;rw[exec_Assign_Name_used _ _ _ _ hsw];refine aS (wpAny_standAt (aS ?_));refine aS (qS (pH B hc hN hi (xU λ_ _ _=>rfl) (λb D=>#[(hin b).1,(hin b).2.1,Dl (hin b).2.2 rfl]) hs I h λs' H' D C m I' f' hn q=>?_) (λ_ s' hq=>dL (dL hq)) λ_ _ e=>e)
 refine wpAny_assign_Name (oX I' XT hy (.inl hl) (v:=.ref D) rfl (λs2 I2 hsb=>?_) (.inr hl))
 obtain⟨f0,f1,f2,f3,f4,f5⟩:=f';obtain⟨a,sb,ha⟩:=hsb;have nC:C≠a:=by
  rcases ha with e |e
  . rw[e];exact f1
  . exact wP (f4 _ _ e)
 refine#[m,hn.sameBut sb nC,λh' sb'=>#[_,H',?_,q]]
 exact I2.turned (λb o hb e=>(sb'.2 b hb).trans e) f0 f1 f3 f4 f5
end
noncomputable abbrev kI(m:List (Int×Int)):List (Key×V):=m.map λp=>((Sum.inl p.1:Key),V.int p.2)
abbrev dI(m:List (Int×Int)):HO:=.dK (kI m)
noncomputable def lC(n:Int):List (Int×Int)->Option Int
 | []=>none
 |p::m=>if p.1=n then some p.2 else lC n m
section
variable{X:Cx}{aj: ~~~1}{σ:St}{H:Hp}{s:Shared}{a:Addr}{m:List (Int×Int)}
abbrev XX (X:Cx):=gj X.prog X.w
theorem Dq{n:Int}{vs:List (Key×Value)}:∀{m:List (Int×Int)},KV (kI m) vs->lP ((lC n m).map V.int) (valueAt vs (.inl n)):=by
 intro m
 induction m generalizing vs with
 |nil=>intro h;symm;trivial
 |cons p m ih=>
  intro h;cases h with
  |@cons _ q _ vs h r=>
   obtain⟨k,u⟩:=q;obtain⟨e,r1⟩:=h;dsimp only at e r1;subst e;have:=ih r;unfold valueAt at this ⊢
   rw[List.find?_cons];unfold lC;by_cases hk:p.1=n
   .
    rw[tJ hk,w9 (by rw[hk])]
    exact r1
   .
    rw[sK hk,u7 (by intro e;injection e with e;exact hk e)]
    exact this
theorem QT{n v:Int}{u:Value}{vs:List (Key×Value)}(r:KV (kI m) vs)(hn:lC n m=none)(ru:RelV (.int v) u):KV (kI (m++[(n,v)])) (stored vs (.inl n) u):=by
 have h0:=lP.none_of (by have:=Dq (n:=n) r;rw[hn]at this;exact this)
 have h1:(vs.any λkv=>decide (kv.1=(Sum.inl n:Key)))=false:=by unfold valueAt at h0;rw[Option.map_eq_none_iff,List.find?_eq_none]at h0;rw[List.any_eq_false];exact h0
 unfold stored;rw[h1];rw[sK BB];have e:kI (m++[(n,v)])=kI m++[(Sum.inl n,V.int v)]:=by unfold kI;rw[AW];rfl
 rw[e];exact Paired.snoc r #[rfl,ru]
theorem Inv.pI(I: ~~~7)(h:Rd H a (dI m)):∃vs,KV (kI m) vs/\s.heap.DictOf (XX X) a vs/\m.length<=sizeLine/\(a==sysModules)=false/\vs.length=m.length:=by obtain⟨z,y,vs,r,d⟩:=(show bR X.prog X.w H s.heap a (dI m)from h.ok I.hok);rw[dE]at z;exact#[vs,r,d,z,y,by rw[<- Paired.length r,dE]]
theorem lE{n:Int}{u:Value}(r:RelV (.int n) u):(XX X).is (.inl n) u=true:=by obtain⟨t,rfl⟩:=r;exact sV _ _ _ _
def rIxI:R2:=λx y H Q=>∃p n m v,x=.ref p/\y=.int n/\Rd H p (dI m)/\lC n m=!v/\Q (.int v) H
theorem Ox:XC X rIxI:=by
 intro value slice aj s σ H x y v u Q I rx ry h hs;obtain⟨p,n,m,z,rfl,rfl,hp,he,q⟩:=h;cases rx;obtain⟨vs,r,d,_⟩:=I.pI hp;obtain⟨w,w1,w2⟩:=lP.some_of (by have:=Dq (n:=n) r;rw[he]at this;exact this)
 exact subscriptTail_builtinR d.typeIs slot_dict_getitem.lookup (wpAny_getItem_of (lE ry) d.mapOf w1 #[rfl,.int z,H,I.tok _,w2,q]) hs
theorem zK:kD X (compareOp .NotIn) (λx y H Q=>∃n p m,x=.int n/\y=.ref p/\Rd H p (dI m)/\Q (.bl ((not ((lC n m).isSome)))) H):=by
 intro aj s σ H x y v u Q I rx ry h;obtain⟨n,p,m,rfl,rfl,hp,q⟩:=h;cases ry;obtain⟨vs,r,d,_,y,_⟩:=I.pI hp;refine wpAny_notIn_of (lE rx) y d.mapOf #[.bl ((not ((lC n m).isSome))),H,I.tok _,?_,q];have e:(lC n m).isSome=(valueAt vs (.inl n)).isSome:=by
  have:=Dq (n:=n) r;cases h:lC n m with
  |none=>rw[h]at this;rw[lP.none_of this];rfl
  |some v=>rw[h]at this;obtain⟨w,w1,_⟩:=lP.some_of this;rw[w1];rfl
 rw[e];rfl
theorem zL{us:List Value}:∀{m:List (Int×Int)}{vs:List (Key×Value)},KV (kI m) vs->us.length=m.length->(∀(j:Nat) (v:Value),us[j]?=!v->∃k x,vs[j]?=!(k,x)/\(XX X).is k v=true)->Vals (m.map λp=>V.int p.1) us:=by
 induction us with
 |nil=>
  intro m vs _ hl _;cases m with
  |nil=>exact .nil
  |cons _ _=>cases hl
 |cons u us ih=>
  intro m vs r hl h;cases m with
  |nil=>cases hl
  |cons p m=>
   cases r with
   |@cons _ q _ vs h0 r=>
    obtain⟨k,x,e1,e2⟩:=h 0 u rfl;cases (show some q=!(k,x)from e1)
    obtain⟨e3,_⟩:=h0;dsimp only at e3;subst e3;refine .cons ?_ (ih r (C4 hl) λj v e=>h (j+1) v e)
    have e2:oW (Sum.inl p.1) u=true:=e2;rcases aR e2 with ⟨i,t,q1,q2⟩ |⟨i,t,q1,q2⟩
    . injection q1 with q1;exact#[t,by rw[q2,q1]]
    . cases q1
theorem wc(hc:X.calm=true):bV X (.type "list") (λxs H Q=>∃p m,xs=[.ref p]/\Rd H p (dI m)/\∀l,H l=none->Q (.ref l) (upd H l (.lst (m.map λp=>.int p.1)))):=by
 intro aj s σ H xs us Q I r h;obtain⟨p,m,rfl,hp,q⟩:=h;obtain⟨u,rfl,rx⟩:=vals1 r;cases rx;obtain⟨vs,r,d,hz,y,hl⟩:=I.pI hp;obtain⟨ep,d⟩:=d.dictAt;refine PySem.W.kdl_call (PySem.W.kdl_dict y) (I.ok.hd hc) d (by rw[hl];exact hz) λh' tk acc' c' kp e it=>?_
 have v:=zL (X:=X) (us:=acc'.toList) r (by rw[fR,it.1,hl]) λj v e=>it.2 j v (by rw[<- tS];exact e)
 exact#[.ref s⁻¹,_,I.laid kp (eA _) (show bR X.prog X.w _ h' _ (.lst (m.map λp=>.int p.1))from#[by rw[dE];exact hz,acc'.toList,c',v,e]),rfl,q _ (I.hok.fresh (eA _))]
theorem JT{y x:Expr}{val:Expr}{pos pos':Pos}{td tx tv:TE}(hd:PE X y td)(hx:PE X x tx)(hv:PE X val tv)(hs:swapsWith val (!(.Subscript y x pos')) pos.line X.env=pure false) :
  PS X (.Assign [.Subscript y x pos'] val pos) (λD σ H=>tv σ H λv H1=>td σ H1 λb H2=>tx σ H2 λk H3=>∃p n m w,b=.ref p/\k=.int n/\v=.int w/\H3 p=!(dI m)/\lC n m=none/\m.length<sizeLine/\D.nx σ (upd H3 p (dI (m++[(n,w)])))):=by
 intro aj s σ H D I h;refine wpAny_Assign_Subscript (bA (hv aj s σ H _ I h) λr s1 #[v,H1,I1,rv,q1]=>bA (hd aj s1 σ H1 _ I1 q1) λu s2 #[b,H2,I2,rx,q2]=>bA (hx aj s2 σ H2 _ I2 q2) λiv s3 #[k,H3,I3,ry,p,n,m,w,e1,e2,e3,hp,hn,hz,q3]=>?_) hs
 subst e1 e2 e3;obtain rfl:u=Value.ref p:=rx;obtain⟨vs,r',d,_,y,hl⟩:=I3.pI (.inl hp);refine wpAny_setItem_pairs (hsz:=by rw[hl];exact AU hz) (lE ry) d λh' d' sb=>#[σ,_,?_,q3]
 obtain⟨o,_,_,ho,_⟩:=id d';exact I3.write (by rw[hp];trivial) (.inl rfl) (λb u hb z=>(sb.2 b hb).trans z) #[o,ho] #[by rw[dE,eQ];exact hz,y,_,QT r' hn rv,d']
theorem JV{x v:Expr}{pos:Pos}{tx tv:TE}(hx:PE X x tx)(hv:PE X v tv):PE X (.Dict [!x] [v] pos) (λσ H Q=>∀p,H p=none->tx σ (upd H p (dI [])) λk H1=>tv σ H1 λw H2=>∃n v,k=.int n/\w=.int v/\H2 p=!(dI [])/\Q (.ref p) (upd H2 p (dI [(n,v)]))):=by
 intro aj s σ H Q I q;have hn:=I.hok.fresh (eA s⁻¹);have hy:(s⁻¹==sysModules)=false:=by
  have h1:=(I.ok.mod.glob.keeps I.bk).lt;refine Bool.eq_false_iff.mpr λq=>?_
  have q:=eq_of_beq q;rw[q]at h1;exact absurd h1 ⋯
 have I1:=I.laid (a:=s⁻¹) (o:=dI []) (h':=s.heap.push { cls:=.type "dict",data:=.dict ([].toArray)}) (t':=s.toks) (λ_ _ q=>a7 _ q) (eA _) #[sR _,hy,[],.nil,Heap.DictOf.new _]
 refine wpAny_Dict_walk (knd:=XX X) rfl rfl ⋯ (by show 1<=15;decide) (pairTrees_cons_walk (bA (hx aj _ σ _ _ I1 (q _ hn)) λu s1 #[k,H1,I2,rk,q1]=>bA (hv aj s1 σ H1 _ I2 q1) λr s2 #[w,H2,I3,rw',n,v,e1,e2,hp,q2]=>pairTrees_nil_walk #[[(.inl n,r)],#[?_,rfl,trivial],?_,λh' d' sb=>?_]))
 . subst e1;exact lE rk
 . obtain⟨vs,r,d,_⟩:=I3.pI (m:=[]) (.inl hp);cases r;exact d
 . subst e1 e2;obtain⟨o,_,_,ho,_⟩:=id d';refine#[.ref s⁻¹,_,I3.write (o:=dI [(n,v)]) (by rw[hp];trivial) (.inl rfl) (λb u hb z=>(sb.2 b hb).trans z) #[o,ho] #[by show 1<=sizeLine;rw[t7];decide,hy,_,.cons #[rfl,rw'] .nil,d'],rfl,q2]
theorem JW{y:Expr}{ty:TE}(hy:PE X y ty):PE X y (λσ H Q=>ty σ H λv H1=>∃p m,v=.ref p/\H1 p=!(dI m)/\∀o,Q v (upd H1 p (.fB o (dI m)))):=by intro aj s σ H Q I h;refine bA (hy aj s σ H _ I h) ?_;rintro u s1 ⟨v,H1,I1,rv,p,m,e,hp,q⟩;have k:=I1.hok p _ hp;obtain⟨_,_,_,_,o,_,_,ho,_⟩:=id k;refine#[v,_,I1.write (h':=s1.heap) (o:=.fB o (dI m)) (by rw[hp];trivial) (.inl rfl) (λ_ _ _ z=>z) #[o,ho] #[ho,k],rv,q o]
theorem QV{i:Nat}:∀{m:List (Int×Int)}{vs:List (Key×Value)}{q:Key×Value},KV (kI m) vs->vs[i]?=!q->∃p,m[i]?=!p/\q.1=.inl p.1:=by
 induction i with
 |zero=>
  intro m vs q r e;cases m with
  |nil=>cases r;cases e
  |cons p m=>cases r with |cons h r=>cases (show some _=!q from e);exact#[p,rfl,h.1.symm]
 |succ i ih=>
  intro m vs q r e;cases m with
  |nil=>cases r;cases e
  |cons p m=>cases r with |cons h r=>exact ih r e
end
def Itd(a:Addr)(o:Obj)(m:List (Int×Int)):It:=
 #[λi H=>H a=!(.fB o (dI m))/\i<m.length,λi H x H'=>H'=H/\∃p,m[i]?=!p/\x=.int p.1,λi H=>H a=!(.fB o (dI m))/\m.length<=i]
theorem zM{P:Program}{w:World}{K:Frag}{tg:Expr}(m:List (Int×Int))(a it:Addr)(o:Obj)(ep:Nat)(vs:List (Key×Value))(ne:a≠it)(r0:KV (kI m) vs)(hl:vs.length=m.length)(ho:∀h:Heap,h.get? a=!o->h.DictAt (gj P w) a vs ep) :
  Turn P w K tg (Itd a o m) [it] it (λi h=>h.IsKeyIter it a i vs.length ep) where
 mem:=by simp
 obj:=λi h st b hb=>by
  have e:b=it:=by simpa using hb
  subst e;obtain⟨o,e,c,d⟩:=st;exact#[o,e,λv z=>by rw[d]at z;cases z]
 keep:=λi h h' st k=>st.at λo e=>k it ⋯ o e
 item:=by
  rintro X rfl rfl rfl hc i aj s σ H E I hf st ⟨hg,hi⟩;obtain⟨f0,f1,f2,f3,f4,f5⟩:=hf it ⋯;have hi':i<vs.length:=by rw[hl];exact hi
  refine wpAny_pyNext_dict_item st (ho _ (I.hok a _ hg).1) (k:=vs[i].1) (v:=vs[i].2) (by simp[hi']) λkey h' hk st' sb=>?_
  have I1:=I.turned (t':=s.toks) (λb o hb e=>(sb.2 b hb).trans e) f0 f1 f3 f4 f5
  obtain⟨o',e,c,d⟩:=id st';obtain⟨p,hm,e1⟩:=QV r0 (show vs[i]?=some vs[i]by simp[hi'])
  refine#[key,rfl,tD e c d ⋯ #[.int p.1,H,I1,?_,#[rfl,p,hm,rfl],st',λb hb=>(hf b hb).1]]
  rw[e1]at hk;have hk:oW (Sum.inl p.1) key=true:=hk;rcases aR hk with ⟨j,t,q1,q2⟩ |⟨j,t,q1,q2⟩
  . injection q1 with q1;exact#[t,by rw[q2,q1]]
  . cases q1
 done:=by rintro X rfl rfl rfl hc i aj s σ H E I hf st ⟨hg,hi⟩;obtain⟨f0,f1,f2,f3,f4,f5⟩:=hf it ⋯;exact wpAny_pyNext_dict_end (I.ok.hd hc) st (ho _ (I.hok a _ hg).1) (by rw[AT,hl];exact hi) λh' eb=>#[rfl,I.turned (λb o hb e=>eb b o hb e) f0 f1 f3 f4 f5]
 self:=λ_ _ _ _ _ st h=>wpAny_pyIter_keyiter st h
theorem JX{X:Cx}{tg l:Expr}{tl:TE}(hl:PE X l tl):PI X tg l (λσ H R=>tl σ H λx H1=>∃a o m,x=.ref a/\H1 a=!(.fB o (dI m))/\R (Itd a o m) H1):=by
 intro aj s σ H R I h;refine bA (hl aj s σ H _ I h) ?_;rintro v s1 ⟨x,H1,I1,r1,a,o,m,e,hp,q⟩;subst e;cases r1;obtain⟨vs,r,_,_,y,hl⟩:=I1.pI (.inr #[o,hp]);obtain⟨ho,_,_,vs',r',d⟩:=I1.hok a _ hp;obtain⟨o',es,ep,h1,h2,h3,h4,h5,h6⟩:=id d;cases h1.symm.trans ho;have hl':vs'.length=m.length:=by rw[<- Paired.length r',dE]
 have at':∀h:Heap,h.get? a=!o->h.DictAt (XX X) a vs' ep:=λh e=>#[o,es,e,h2,h3,h4,h5,h6]
 refine wpAny_pyIter_dict y (at' _ ho) #[s1⁻¹,[s1⁻¹],_,_,H1,rfl,I1.kept λb o e=>a7 _ e,zM m a _ o ep vs' (i6 (fI ho)) r' hl' at',#[_,dC _ rfl,rfl,rfl],λb hb=>?_,q]
 have e:b=s1⁻¹:=by simpa using hb
 subst e;exact I1.qH (eA _) (I1.hok.fresh (eA _))
end L2
namespace Ev
open L2
inductive D where
 |non |bl (b:Bool) |int (i:Int) |str (x:Str) |tup (l:List D) |lst (l:List D) |fix (l:List D) |emp (m:List (Int×Int)) |kF (C:Addr) |Dr (ks: ~~~5) (ds:List D)
 deriving Inhabited
inductive Slot where
 |no |dat (d:D) |own (l:List D)
 deriving Inhabited
inductive R where
 |dat (d:D) |new (l:List D) |var (i:Nat)
 deriving Inhabited
abbrev G:=List Slot
abbrev Sg:=L2.St
abbrev K0:Hp:=λ_=>none
def LstAt(M:List Addr)(H:Hp)(a:Addr)(xs:List V):Prop:=a∉M/\H a=!(.lst xs)
def kG(K:Frag)(M:List Addr)(H:Hp)(a:Addr)(xs:List V):Prop:=(a∉M/\∃o,H a=!(.fB o (.lst xs)))\/bD K K0 a xs
def TupAt(K:Frag)(M:List Addr)(H:Hp)(a:Addr)(xs:List V):Prop:=(a∉M/\Rd H a (.tup xs))\/(fG K K0 a xs/\∃o,K.lookup a=!o/\o.dict=none)
theorem rd0(h:Rd K0 a u):False:=by rcases h with h |⟨o,h⟩ <;> symm
theorem kG.sq{K:Frag}{M:List Addr}{H:Hp}{a:Addr}{xs:List V}(h:kG K M H a xs):bD K H a xs:=by
 rcases h with ⟨_,o,h⟩ |h |h
 . exact .inl (.inr #[o,h])
 . exact (rd0 h).elim
 . exact .inr h
theorem TupAt.sq{K:Frag}{M:List Addr}{H:Hp}{a:Addr}{xs:List V}(h:TupAt K M H a xs):fG K H a xs:=by
 rcases h with ⟨_,h⟩ |⟨h |h,_⟩
 . exact .inl h
 . exact (rd0 h).elim
 . exact .inr h
noncomputable abbrev wg(C a:Addr):HO:=.ext λh=>∃o,h.get? a=!o/\o.cls=.ref C/\PySem.W.notCls o=true/\o.dict=none
structure Iw(K:Frag)(C:Addr):Prop where
 gga:PySem.W.findIn K (.ref C) "__getattribute__"=!(!(.builtin "BaseException.__getattribute__"))
 gat:PySem.W.findIn K (.ref C) "__getattr__"=!none
 bas:PySem.W.mroIn K C (.type "BaseException")=!true
 dct:PySem.W.hasDictIn K C=true
 cls:PySem.W.findIn K (.ref C) "__class__"=!(!(.builtin "object.__class__"))
 spc:PySem.W.specialIn K (.builtin "object.__class__") "__get__"=!(!(.builtin "getset_descriptor.__get__"))
 tks:PySem.W.takesIn K (.builtin "object.__class__")=!true
 mro:PySem.W.mroIn K C (.type "object")=!true
 kit:∀n∈["int", "bool", "str", "tuple", "list", "dict"],PySem.W.kitOne K (.ref C) (.type n)=!false
noncomputable abbrev dicO(ks: ~~~5)(vs:List V):HO:=.dT ((ks.map (List.map Sum.inl)).zip vs)
def QW:HO->Prop
 |.lst _ |.dT _ |.set _ |.dK _=>True
 |_=>False
mutual
inductive Rep(K:Frag)(M:List Addr)(H:Hp):D->V->Prop
 |non:Rep K M H .non .non
 |bl (b:Bool):Rep K M H (.bl b) (.bl b)
 |int (i:Int):Rep K M H (.int i) (.int i)
 |str (x:Str):Rep K M H (.str x) (.str x)
 |tup {l:List D}{a:Addr}{xs:List V}:TupAt K M H a xs->aG K M H l xs->Rep K M H (.tup l) (.ref a)
 |lst {l:List D}{a:Addr}{xs:List V}:LstAt M H a xs->aG K M H l xs->Rep K M H (.lst l) (.ref a)
 |fix {l:List D}{a:Addr}{xs:List V}:kG K M H a xs->aG K M H l xs->Rep K M H (.fix l) (.ref a)
 |emp {m:List (Int×Int)}{o:Obj}{a:Addr}:a∉M->H a=!(.fB o (dI m))->Rep K M H (.emp m) (.ref a)
 |kF:Iw K C->a∉M->H a=!(wg C a)->Rep K M H (.kF C) (.ref a)
 |Dr:a∉M->H a=!(dicO ks vs)->ks.length=vs.length->aG K M H ds vs->Rep K M H (.Dr ks ds) (.ref a)
inductive aG(K:Frag)(M:List Addr)(H:Hp):List D->List V->Prop
 |nil:aG K M H [] []
 |cons {d:D}{ds:List D}{x:V}{xs:List V}:Rep K M H d x->aG K M H ds xs->aG K M H (d::ds) (x::xs)
end
def ao(M:List Addr)(H:Hp)(M':List Addr)(H':Hp):Prop:=∀b o,H b=!o->b∉M->H' b=!o/\b∉M'
theorem ao.rd(h:ao M H M' H')(n:a∉M)(r:Rd H a u):a∉M'/\Rd H' a u:=by
 rcases r with r |⟨o,r⟩
 . exact#[(h _ _ r n).2,.inl (h _ _ r n).1]
 . exact#[(h _ _ r n).2,.inr #[o,(h _ _ r n).1]]
theorem Rep.stay{K:Frag}{M M':List Addr}{H H':Hp}(h:ao M H M' H'){d:D}{v:V}(r:Rep K M H d v):Rep K M' H' d v:=by
 refine Rep.rec .non .bl .int .str (λt _ q=>?_) (λt _ q=>?_) (λt _ q=>?_) (λn r=>.emp (h _ _ r n).2 (h _ _ r n).1) (λx n r=>.kF x (h _ _ r n).2 (h _ _ r n).1) (λn r l _ q=>.Dr (h _ _ r n).2 (h _ _ r n).1 l q) .nil (λ_ _ a b=>.cons a b) r
 .
  rcases t with t |t
  . exact .tup (.inl (h.rd t.1 t.2)) q
  . exact .tup (.inr t) q
 . exact .lst #[(h _ _ t.2 t.1).2,(h _ _ t.2 t.1).1] q
 .
  rcases t with ⟨n,o,r⟩ |t
  . exact .fix (.inl #[(h _ _ r n).2,o,(h _ _ r n).1]) q
  . exact .fix (.inr t) q
theorem aG.stay{K:Frag}{M M':List Addr}{H H':Hp}(h:ao M H M' H'):∀{ds:List D}{vs:List V},aG K M H ds vs->aG K M' H' ds vs:=by
 intro ds
 induction ds with
 |nil=>intro vs q;cases q;exact .nil
 |cons d ds ih=>intro vs q;cases q with |cons a b=>exact .cons (a.stay h) (ih b)
theorem ao.refl(M:List Addr)(H:Hp):ao M H M H:=λ_ _ e n=>#[e,n]
theorem ao.trans(a:ao M H M1 H1)(b:ao M1 H1 M2 H2):ao M H M2 H2:=λc o e n=>b c o (a c o e n).1 (a c o e n).2
theorem ao.less(h:∀m∈M',m∈M):ao M H M' H:=λ_ _ e n=>#[e,λz=>n (h _ z)]
theorem ao.laid(hp:H p=none):ao M H M (upd H p o):=λb u e n=>#[by rw[az (aH e hp)];exact e,n]
theorem ao.aW(hp:H p=none):ao M H (p::M) (upd H p o):=λb u e n=>
 #[by rw[az (aH e hp)];exact e,λz=>(dA.mp z).elim (λq=>aH e hp q) n]
theorem ao.write(hp:p∈M):ao M H M (upd H p o):=λb u e n=>#[by rw[az (λq=>n (by rw[q];exact hp))];exact e,n]
theorem aG.length{K:Frag}{M:List Addr}{H:Hp}{ds:List D}{vs:List V}(r:aG K M H ds vs):ds.length=vs.length:=by
 induction ds generalizing vs with
 |nil=>cases r;rfl
 |cons d ds ih=>cases r with |cons a b=>exact congrArg (· + 1) (ih b)
theorem aG.append{K:Frag}{M:List Addr}{H:Hp}{ds es:List D}{vs ws:List V}(r:aG K M H ds vs)(s:aG K M H es ws):aG K M H (ds++es) (vs++ws):=by
 induction ds generalizing vs with
 |nil=>cases r;exact s
 |cons d ds ih=>cases r with |cons a b=>exact .cons a (ih b)
theorem aG.get{K:Frag}{M:List Addr}{H:Hp}{ds:List D}{vs:List V}{i:Nat}{d:D}(r:aG K M H ds vs)(e:ds[i]?=!d):∃v,vs[i]?=!v/\Rep K M H d v:=by
 induction ds generalizing vs i with
 |nil=>exact nomatch (show none=!d from e)
 |cons d' ds ih=>cases r with |cons a b=>cases i with
  |zero=>cases (show some d'=!d from e);exact#[_,rfl,a]
  |succ i=>obtain⟨v,h⟩:=ih b e;exact#[v,h]
theorem aG.set{K:Frag}{M:List Addr}{H:Hp}{d:D}{v:V}(r:Rep K M H d v){ds:List D}{vs:List V}(i:Nat)(q:aG K M H ds vs):aG K M H (ds.set i d) (vs.set i v):=by
 induction ds generalizing vs i with
 |nil=>cases q;exact .nil
 |cons d' ds ih=>cases q with |cons a b=>cases i with
  |zero=>exact .cons r b
  |succ i=>exact .cons a (ih i b)
theorem aG.take{K:Frag}{M:List Addr}{H:Hp}{ds:List D}{vs:List V}(n:Nat)(q:aG K M H ds vs):aG K M H (ds.take n) (vs.take n):=by
 induction ds generalizing vs n with
 |nil=>cases q;rw[List.take_nil,List.take_nil];exact .nil
 |cons d' ds ih=>cases q with |cons a b=>cases n with
  |zero=>exact .nil
  |succ n=>exact .cons a (ih n b)
theorem aG.drop{K:Frag}{M:List Addr}{H:Hp}{ds:List D}{vs:List V}(n:Nat)(q:aG K M H ds vs):aG K M H (ds.drop n) (vs.drop n):=by
 induction ds generalizing vs n with
 |nil=>cases q;rw[List.drop_nil,List.drop_nil];exact .nil
 |cons d' ds ih=>cases q with |cons a b=>cases n with
  |zero=>exact .cons a b
  |succ n=>exact ih n b
theorem aG.reverse{K:Frag}{M:List Addr}{H:Hp}{ds:List D}{vs:List V}(q:aG K M H ds vs):aG K M H ds.reverse vs.reverse:=by
 induction ds generalizing vs with
 |nil=>cases q;exact .nil
 |cons d ds ih=>cases q with |cons a b=>rw[DO,DO];exact (ih b).append (.cons a .nil)
inductive Slots(K:Frag)(M:List Addr)(H:Hp):G->Sg->List Addr->Prop
 |nil:Slots K M H [] [] []
 |no:Slots K M H g σ As->Slots K M H (.no::g) (v::σ) As
 |dat {g:G}{σ:Sg}{As:List Addr}{v:V}{d:D}:Rep K M H d v->Slots K M H g σ As->Slots K M H (.dat d::g) (some v::σ) As
 |own {g:G}{σ:Sg}{As:List Addr}{a:Addr}{xs:List V}{ds:List D}:H a=!(.lst xs)->aG K M H ds xs->Slots K M H g σ As->Slots K M H (.own ds::g) (some (.ref a)::σ) (a::As)
theorem Slots.stay{K:Frag}{M M':List Addr}{H H':Hp}(h:ao M H M' H'){g:G}{σ:Sg}{As:List Addr}(k:∀a∈As,∀o,H a=!o->H' a=!o)(q:Slots K M H g σ As):Slots K M' H' g σ As:=by
 induction q with
 |nil=>exact .nil
 |no q ih=>exact .no (ih k)
 |dat r q ih=>exact .dat (r.stay h) (ih k)
 |own e r q ih=>exact .own (k _ bP _ e) (r.stay h) (ih λa ha=>k a (a8 _ ha))
def gS:List Str:=["law"]
def oH(n:Str):Str:=n ++ ".<locals>." ++ "<lambda>"
noncomputable def bO(K:Frag):List (Addr×Str):=K.filterMap λp=>match p.2.data with
 |.fields vs=>(match vs.toList with
  |_::.str n _::_=>if gS.contains n=true then (match vs.toList[11]? with
   |!(Value.ref q)=>if (K.lookup q).isNone=true then some (q,oH n)else none
   |_=>none)else none
  |_=>none)
 |_=>none
structure Z where
 K:Frag
 H0:Hp
 M0:List Addr
 lent:List (Nat×Addr)
 T:List (Addr×Str)
abbrev fC(q:Str)(c:Addr):HO:=.ext λh=>h.CodeRec (.ref c) q
def TabOk(H:Hp)(p:Addr×Str):Prop:=∃ps:Array Value,H p.1=!(.k9 ps)/\TriplesOk ps.toList/\∀pos cv,codeAmong pos ps.toList=!cv->∃c,cv=.ref c/\H c=!(fC p.2 c)
noncomputable abbrev Z.TA(z:Z):List Addr:=z.T.map (·.1)
theorem TabOk.keep(t:TabOk H p)(k:∀b o,H b=!o->¬ QW o->H' b=!o):TabOk H' p:=by obtain⟨ps,h1,h2,h3⟩:=t;exact#[ps,k _ _ h1 id,h2,λpos cv e=>let #[c,e1,e2]:=h3 pos cv e;#[c,e1,k _ _ e2 id]]
noncomputable abbrev Z.B(z:Z):List Addr:=z.lent.map (·.2)
noncomputable abbrev Z.bor(z:Z):List Nat:=z.lent.map (·.1)
structure S(z:Z)(g:G)(σ:Sg)(As M:List Addr)(H:Hp):Prop where
 sl:Slots z.K M H g σ As
 nd:As.Nodup
 sub:∀a∈As,a∈M
 own:∀(i:Nat) (a:Addr) (l:List D),g[i]?=!(.own l)->σ[i]?=!(!(.ref a))->(i∈z.bor/\a∈z.B)\/z.H0 a=none
 live:∀m∈M,(∃o,H m=!o/\QW o)\/m∈z.TA
 keep:∀b o,z.H0 b=!o->b∉z.B->b∉z.TA->H b=!o
 fH:∀m∈z.M0,m∈M
 m0:∀m∈z.M0,z.H0 m≠none
 bm:∀b∈z.B,b∈z.M0
 gU:∀p∈z.lent,σ[p.1]?=!(!(.ref p.2))/\∃l,g[p.1]?=!(.own l)
 tab:∀p∈z.T,TabOk H p
 tm:∀p∈z.T,p.1∈z.M0
 tt:z.T=bO z.K
section
variable{g:G}
theorem S.fresh(s:S z g σ As M H)(hp:H p=none):p∉M:=λhm=>by
 rcases s.live p hm with ⟨o,e,_⟩ |e
 . rw[hp]at e;cases e
 . obtain⟨q,hq,rfl⟩:=i9.mp e;obtain⟨ps,h1,_⟩:=s.tab q hq;rw[hp]at h1;cases h1
theorem S.Oz(s:S z g σ As M H)(hp:H p=!(.lst xs)):p∉z.TA:=λe=>by
 obtain⟨q,hq,rfl⟩:=i9.mp e;obtain⟨ps,h1,_⟩:=s.tab q hq;rw[hp]at h1;cases h1
theorem S.bW(s:S z g σ As M H)(hp:H p=none):z.H0 p=none:=by
 cases e:z.H0 p with
 |none=>rfl
 |some o=>
  by_cases hb:p∈z.B
  . exact absurd (s.fH _ (s.bm _ hb)) (s.fresh hp)
  .
   by_cases ht:p∈z.TA
   . obtain⟨q,hq,rfl⟩:=i9.mp ht;exact absurd (s.fH _ (s.tm q hq)) (s.fresh hp)
   . rw[s.keep p o e hb ht]at hp;cases hp
theorem S.laid(s:S z g σ As M H){p:Addr}{o:HO}(hp:H p=none):S z g σ As M (upd H p o) where
 sl:=s.sl.stay (ao.laid hp) λa _ u e=>by rw[az (aH e hp)];exact e
 nd:=s.nd
 sub:=s.sub
 own:=s.own
 live:=λm hm=>by
  rcases s.live m hm with ⟨o,e,gr⟩ |e
  . exact .inl #[o,by rw[az (aH e hp)];exact e,gr]
  . exact .inr e
 keep:=λb u e hb ht=>by rw[az (aH (s.keep b u e hb ht) hp)];exact s.keep b u e hb ht
 fH:=s.fH
 m0:=s.m0
 bm:=s.bm
 gU:=s.gU
 tab:=λp h=>(s.tab p h).keep λb u e _=>by rw[az (aH e hp)];exact e
 tm:=s.tm
 tt:=s.tt
theorem S.OD(s:S z g σ As M H){p:Addr}{u0:HO}(gu:QW u0)(hp:H p=none):S z g σ As (p::M) (upd H p u0) where
 sl:=s.sl.stay (ao.aW hp) λa _ u e=>by rw[az (aH e hp)];exact e
 nd:=s.nd
 sub:=λa ha=>a8 _ (s.sub a ha)
 own:=s.own
 live:=λm hm=>by
  rcases dA.mp hm with rfl |hm
  . exact .inl #[_,aC,gu]
  .
   rcases s.live m hm with ⟨o,e,gr⟩ |e
   . exact .inl #[o,by rw[az (aH e hp)];exact e,gr]
   . exact .inr e
 keep:=λb u e hb ht=>by rw[az (aH (s.keep b u e hb ht) hp)];exact s.keep b u e hb ht
 fH:=λm hm=>a8 _ (s.fH m hm)
 m0:=s.m0
 bm:=s.bm
 gU:=s.gU
 tab:=λp h=>(s.tab p h).keep λb u e _=>by rw[az (aH e hp)];exact e
 tm:=s.tm
 tt:=s.tt
theorem S.aW(s:S z g σ As M H)(hp:H p=none):S z g σ As (p::M) (upd H p (.lst xs)):=s.OD trivial hp
theorem S.QX(s:S z g σ As M H){a:Addr}{u0 u1:HO}(hm:a∈M)(hA:a∉As)(h0:z.H0 a=none)(h:H a=!u0)(g0:QW u0)(g1:QW u1):S z g σ As M (upd H a u1) where
 sl:=s.sl.stay (ao.write hm) λb hb u e=>by rw[az (show b≠a from λq=>hA (by rw[<- q];exact hb))];exact e
 nd:=s.nd
 sub:=s.sub
 own:=s.own
 live:=λm hm=>by
  by_cases e:m=a
  . subst e;exact .inl #[_,aC,g1]
  .
   rcases s.live m hm with ⟨o,q,gr⟩ |q
   . exact .inl #[o,by rw[az e];exact q,gr]
   . exact .inr q
 keep:=λb o e hb ht=>by rw[az (λq=>by rw[q,h0]at e;cases e)];exact s.keep b o e hb ht
 fH:=s.fH
 m0:=s.m0
 bm:=s.bm
 gU:=s.gU
 tab:=λp hp=>(s.tab p hp).keep λb o e n=>by rw[az (λq=>by rw[q,h]at e;cases e;exact n g0)];exact e
 tm:=s.tm
 tt:=s.tt
theorem S.drop(s:S z g σ As M H)(h0:z.H0 p=none)(hA:p∉As):S z g σ As (M.filter λm=>decide (m≠p)) H where
 sl:=s.sl.stay (ao.less λm hm=>(mI.mp hm).1) λ_ _ _ e=>e
 nd:=s.nd
 sub:=λa ha=>mI.mpr #[s.sub a ha,by have:a≠p:=λe=>hA (e▸ha);simpa using this]
 own:=s.own
 live:=λm hm=>s.live m (mI.mp hm).1
 keep:=s.keep
 fH:=λm hm=>mI.mpr #[s.fH m hm,by have:m≠p:=λe=>s.m0 m hm (e▸h0);simpa using this]
 m0:=s.m0
 bm:=s.bm
 gU:=s.gU
 tab:=s.tab
 tm:=s.tm
 tt:=s.tt
end
def cH(z:Z)(g:G)(σ:Sg)(As M:List Addr)(H:Hp):R->V->Prop
 |.dat d,v=>Rep z.K M H d v
 |.new l,v=>∃a xs,v=.ref a/\a∈M/\a∉As/\z.H0 a=none/\H a=!(.lst xs)/\aG z.K M H l xs
 |.var i,v=>∃l,g[i]?=!(.own l)/\σ[i]?=!(!v)
inductive Pk(K:Frag)(M:List Addr)(H:Hp):D->V->Prop
 |of:Rep K M H d v->Pk K M H d v
 |lst {l:List D}{a:Addr}{xs:List V}:H a=!(.lst xs)->aG K M H l xs->Pk K M H (.lst l) (.ref a)
theorem Pk.list{K:Frag}{M:List Addr}{H:Hp}{l:List D}{v:V}(h:Pk K M H (.lst l) v):∃a xs,v=.ref a/\H a=!(.lst xs)/\aG K M H l xs:=by
 cases h with
 |of r=>cases r with |lst h1 h2=>exact⟨_,_,rfl,h1.2,h2⟩
 |lst h1 h2=>exact#[_,_,rfl,h1,h2]
theorem Slots.at{K:Frag}{M:List Addr}{H:Hp}{g:G}{σ:Sg}{As:List Addr}{i:Nat}{l:List D}(q:Slots K M H g σ As)(e:g[i]?=!(.own l)):∃a xs,σ[i]?=!(!(.ref a))/\a∈As/\H a=!(.lst xs)/\aG K M H l xs:=by
 induction q generalizing i with
 |nil=>exact nomatch (show none=!(Slot.own l)from e)
 |no q ih=>cases i with
  |zero=>exact nomatch (show some Slot.no=!(Slot.own l)from e)
  |succ i=>exact ih e
 |dat r q ih=>cases i with
  |zero=>exact nomatch (show some (Slot.dat _)=!(Slot.own l)from e)
  |succ i=>exact ih e
 |own h r q ih=>cases i with
  |zero=>cases (show some (Slot.own _)=!(Slot.own l)from e);exact#[_,_,rfl,bP,h,r]
  |succ i=>obtain⟨a,xs,h1,h2,h3⟩:=ih e;exact#[a,xs,h1,a8 _ h2,h3]
theorem Slots.tM{K:Frag}{M:List Addr}{H:Hp}{g:G}{σ:Sg}{As:List Addr}{i:Nat}{d:D}(q:Slots K M H g σ As)(e:g[i]?=!(.dat d)):∃v,σ[i]?=!(!v)/\Rep K M H d v:=by
 induction q generalizing i with
 |nil=>exact nomatch (show none=!(Slot.dat d)from e)
 |no q ih=>cases i with
  |zero=>exact nomatch (show some Slot.no=!(Slot.dat d)from e)
  |succ i=>exact ih e
 |dat r q ih=>cases i with
  |zero=>cases (show some (Slot.dat _)=!(Slot.dat d)from e);exact#[_,rfl,r]
  |succ i=>exact ih e
 |own h r q ih=>cases i with
  |zero=>exact nomatch (show some (Slot.own _)=!(Slot.dat d)from e)
  |succ i=>exact ih e
theorem Slots.length{K:Frag}{M:List Addr}{H:Hp}{g:G}{σ:Sg}{As:List Addr}(q:Slots K M H g σ As):g.length=σ.length:=by
 induction q with
 |nil=>rfl
 |no q ih=>exact congrArg (· + 1) ih
 |dat r q ih=>exact congrArg (· + 1) ih
 |own h r q ih=>exact congrArg (· + 1) ih
theorem Slots.fM{K:Frag}{M:List Addr}{H:Hp}{d:D}{v:V}(r:Rep K M H d v){g:G}{σ:Sg}{As:List Addr}(i:Nat)(q:Slots K M H g σ As):∃aB,Slots K M H (g.set i (.dat d)) (σ.set i (!v)) aB/\aB.Sublist As:=by
 induction q generalizing i with
 |nil=>exact#[[],.nil,.slnil]
 |no q ih=>cases i with
  |zero=>exact#[_,.dat r q,List.Sublist.refl _]
  |succ i=>obtain⟨aB,h1,h2⟩:=ih i;exact#[aB,.no h1,h2]
 |dat r' q ih=>cases i with
  |zero=>exact#[_,.dat r q,List.Sublist.refl _]
  |succ i=>obtain⟨aB,h1,h2⟩:=ih i;exact#[aB,.dat r' h1,h2]
 |own e r' q ih=>cases i with
  |zero=>exact#[_,.dat r q,List.sublist_cons_self _ _]
  |succ i=>obtain⟨aB,h1,h2⟩:=ih i;exact#[_::aB,.own e r' h1,h2.cons₂ _]
theorem Slots.freeze{K:Frag}{M M':List Addr}{H:Hp}(hM:∀m∈M',m∈M){g:G}{σ:Sg}{As:List Addr}{i:Nat}{l:List D}{a:Addr}(q:Slots K M H g σ As)(e:g[i]?=!(.own l))(e2:σ[i]?=!(!(.ref a)))(na:a∉M')(nd:As.Nodup) :
  ∃aB,Slots K M' H (g.set i (.dat (.lst l))) σ aB/\aB.Sublist As/\a∉aB:=by
 induction q generalizing i with
 |nil=>exact nomatch (show none=!(Slot.own l)from e)
 |no q ih=>cases i with
  |zero=>exact nomatch (show some Slot.no=!(Slot.own l)from e)
  |succ i=>obtain⟨aB,h1,h2,h3⟩:=ih e e2 nd;exact#[aB,.no h1,h2,h3]
 |dat r q ih=>cases i with
  |zero=>exact nomatch (show some (Slot.dat _)=!(Slot.own l)from e)
  |succ i=>obtain⟨aB,h1,h2,h3⟩:=ih e e2 nd;exact#[aB,.dat (r.stay (ao.less hM)) h1,h2,h3]
 |@own g σ As b xs ds h r q ih=>cases i with
  |zero=>
   cases (show some (Slot.own _)=!(Slot.own l)from e)
   cases (show some (!(V.ref b))=!(!(V.ref a))from e2)
   exact#[_,.dat (.lst #[na,h] (r.stay (ao.less hM))) (q.stay (ao.less hM) λ_ _ _ e=>e),List.sublist_cons_self _ _,(lL.mp nd).1]
  |succ i=>
   obtain⟨aB,h1,h2,h3⟩:=ih e e2 (lL.mp nd).2;refine#[b::aB,.own h (r.stay (ao.less hM)) h1,h2.cons₂ _,λhm=>?_]
   rcases dA.mp hm with z |z
   .
    obtain⟨c,xs,z1,z2,_⟩:=q.at e;cases (show some (!(V.ref c))=!(!(V.ref a))from z1.symm.trans e2)
    exact (lL.mp nd).1 (by rw[<- z];exact z2)
   . exact h3 z
theorem Slots.change{K:Frag}{M:List Addr}{H H':Hp}{l':List D}{a:Addr}{xs':List V}(st:ao M H M H')(ha:H' a=!(.lst xs'))(r':aG K M H' l' xs'){g:G}{σ:Sg}{As:List Addr}{i:Nat}{l:List D}(q:Slots K M H g σ As)(e:g[i]?=!(.own l))(e2:σ[i]?=!(!(.ref a)))(nd:As.Nodup)
  (k:∀b∈As,b≠a->∀o,H b=!o->H' b=!o):Slots K M H' (g.set i (.own l')) σ As:=by
 induction q generalizing i with
 |nil=>exact nomatch (show none=!(Slot.own l)from e)
 |no q ih=>cases i with
  |zero=>exact nomatch (show some Slot.no=!(Slot.own l)from e)
  |succ i=>exact .no (ih e e2 nd k)
 |dat r q ih=>cases i with
  |zero=>exact nomatch (show some (Slot.dat _)=!(Slot.own l)from e)
  |succ i=>exact .dat (r.stay st) (ih e e2 nd k)
 |@own g σ As b xs ds h r q ih=>cases i with
  |zero=>
   cases (show some (!(V.ref b))=!(!(V.ref a))from e2)
   exact .own ha r' (q.stay st λc hc o e=>k c (a8 _ hc) (λz=>(lL.mp nd).1 (by rw[<- z];exact hc)) o e)
  |succ i=>
   refine .own (k b bP (λz=>?_) _ h) (r.stay st) (ih e e2 (lL.mp nd).2 λc hc=>k c (a8 _ hc))
   obtain⟨c,xs,z1,z2,_⟩:=q.at e;cases (show some (!(V.ref c))=!(!(V.ref a))from z1.symm.trans e2)
   exact (lL.mp nd).1 (by rw[z];exact z2)
section
variable{g:G}
theorem dU(h:(g.set i (.dat d))[j]?=!(.own l)):g[j]?=!(.own l)/\j≠i:=by
 by_cases e:i=j
 .
  subst e;by_cases hi:i<g.length
  . rw[nE hi]at h;symm
  . rw[AT.mpr (by rw[BN];lia)]at h;symm
 . rw[gN e]at h;exact#[h,wP e]
theorem S.freeze(s:S z g σ As M H){i:Nat}{l:List D}(hg:g[i]?=!(.own l))(hb:i∉z.bor):∃aB M',S z (g.set i (.dat (.lst l))) σ aB M' H/\ao M H M' H:=by
 obtain⟨a,xs,e1,e2,e3,e4⟩:=s.sl.at hg;have h0:=(s.own i a l hg e1).elim (λq=>absurd q.1 hb) id
 have hM:∀m∈(M.filter λm=>decide (m≠a)),m∈M:=λm hm=>(mI.mp hm).1
 have na:a∉(M.filter λm=>decide (m≠a)):=λhm=>by
  have:=(mI.mp hm).2;simp at this
 obtain⟨aB,q1,q2,q3⟩:=s.sl.freeze hM hg e1 na s.nd;refine#[aB,_,#[q1,s.nd.sublist q2,λb hb=>mI.mpr #[s.sub b (q2.subset hb),?_],λj b l' h1 h2=>s.own j b l' (dU h1).1 h2,λm hm=>s.live m (hM m hm),s.keep,λm hm=>mI.mpr #[s.fH m hm,?_],s.m0,s.bm,λp hp=>#[(s.gU p hp).1,?_],s.tab,s.tm,s.tt],ao.less hM]
 rotate_left 2
 .
  have:i≠p.1:=λe=>hb (by rw[e];exact yB hp)
  rw[gN this];exact (s.gU p hp).2
 .
  have:b≠a:=λe=>q3 (e▸hb)
  simpa using this
 .
  have:m≠a:=λe=>s.m0 m hm (e▸h0)
  simpa using this
theorem S.write(s:S z g σ As M H){i:Nat}{l l':List D}{a:Addr}{xs':List V}(hg:g[i]?=!(.own l))(e1:σ[i]?=!(!(.ref a)))(r:aG z.K M H l' xs'):S z (g.set i (.own l')) σ As M (upd H a (.lst xs'))/\ao M H M (upd H a (.lst xs')):=by
 obtain⟨b,xs,e2,e3,e4,e5⟩:=s.sl.at hg;rw[e1]at e2;injection e2 with e2;injection e2 with e2;injection e2 with e2;subst e2;have st:ao M H M (upd H a (.lst xs')):=ao.write (s.sub a e3);refine#[#[s.sl.change st aC (r.stay st) hg e1 s.nd (λb _ ne o e=>by rw[az ne];exact e),s.nd,s.sub,λj b l2 h1 h2=>?_,λm hm=>?_,λb o e hb ht=>?_,s.fH,s.m0,s.bm,λp hp=>#[(s.gU p hp).1,?_],λp h=>(s.tab p h).keep λb u e nl=>?_,s.tm,s.tt],st]
 rotate_left 3
 .
  by_cases hj:i=p.1
  . rw[<- hj];exact#[l',nE (eJ.mp hg).1]
  . rw[gN hj];exact (s.gU p hp).2
 .
  have:b≠a:=λz2=>by subst z2;rw[e4]at e;cases e;exact nl trivial
  rw[az this];exact e
 .
  by_cases hj:i=j
  . subst hj;exact s.own i b l hg h2
  . rw[gN hj]at h1;exact s.own j b l2 h1 h2
 .
  by_cases hm2:m=a
  . subst hm2;exact .inl #[_,aC,trivial]
  .
   rcases s.live m hm with ⟨o,e,gr⟩ |e
   . exact .inl #[o,by rw[az hm2];exact e,gr]
   . exact .inr e
 .
  have q:=s.keep b o e hb ht;have:b≠a:=λz2=>by
   subst z2;rcases s.own i b l hg e1 with w |w
   . exact hb w.2
   . rw[w]at e;cases e
  rw[az this];exact q
theorem S.fM(s:S z g σ As M H)(hb:i∉z.bor)(r:Rep z.K M H d v):∃aB,S z (g.set i (.dat d)) (σ.set i (!v)) aB M H:=by
 obtain⟨aB,h1,h2⟩:=s.sl.fM r i;refine#[aB,h1,s.nd.sublist h2,λa ha=>s.sub a (h2.subset ha),λj b l h3 h4=>?_,s.live,s.keep,s.fH,s.m0,s.bm,λp hp=>?_,s.tab,s.tm,s.tt]
 rotate_left
 .
  have:i≠p.1:=λe=>hb (by rw[e];exact yB hp)
  rw[gN this,gN this];exact s.gU p hp
 obtain⟨h5,h6⟩:=dU h3;rw[gN (wP h6)]at h4;exact s.own j b l h5 h4
theorem Slots.qV{K:Frag}{a:Addr}{xs:List V}{l:List D}(h:H a=!(.lst xs))(r:aG K M H l xs){g:G}{σ:Sg}{As:List Addr}(i:Nat)(q:Slots K M H g σ As)(hi:i<g.length):∃aB,Slots K M H (g.set i (.own l)) (σ.set i (!(.ref a))) aB/\(∀b∈aB,b=a\/b∈As)/\(As.Nodup->a∉As->aB.Nodup):=by
 induction q generalizing i with
 |nil=>exact absurd hi (BQ _)
 |no q ih=>cases i with
  |zero=>exact#[_,.own h r q,λb hb=>dA.mp hb,λnd na=>lL.mpr #[na,nd]]
  |succ i=>obtain⟨aB,h1,h2,h3⟩:=ih i (B6 hi);exact#[aB,.no h1,h2,h3]
 |dat r' q ih=>cases i with
  |zero=>exact#[_,.own h r q,λb hb=>dA.mp hb,λnd na=>lL.mpr #[na,nd]]
  |succ i=>obtain⟨aB,h1,h2,h3⟩:=ih i (B6 hi);exact#[aB,.dat r' h1,h2,h3]
 |@own g σ As c ys ds e r' q ih=>cases i with
  |zero=>exact#[_,.own h r q,λb hb=>(dA.mp hb).imp id (a8 _),λnd na=>lL.mpr #[λz=>na (a8 _ z),(lL.mp nd).2]]
  |succ i=>obtain⟨aB,h1,h2,h3⟩:=ih i (B6 hi);exact#[c::aB,.own e r' h1,λb hb=>(dA.mp hb).elim (λz=>.inr (z▸bP)) λz=>(h2 b z).imp id (a8 _),λnd na=>lL.mpr #[λz=>(h2 c z).elim (λw=>na (w▸bP)) (lL.mp nd).1,h3 (lL.mp nd).2 λw=>na (a8 _ w)]]
theorem S.qV(s:S z g σ As M H){i:Nat}{l:List D}{a:Addr}{xs:List V}(hb:i∉z.bor)(hi:i<g.length)(hm:a∈M)(hA:a∉As)(h0:z.H0 a=none)(h:H a=!(.lst xs))(r:aG z.K M H l xs):∃aB,S z (g.set i (.own l)) (σ.set i (!(.ref a))) aB M H:=by
 obtain⟨aB,h1,h2,h3⟩:=s.sl.qV h r i hi;refine#[aB,h1,h3 s.nd hA,λb hb=>(h2 b hb).elim (λe=>e▸hm) (s.sub b),λj b l2 h4 h5=>?_,s.live,s.keep,s.fH,s.m0,s.bm,λp hp=>?_,s.tab,s.tm,s.tt]
 rotate_left
 .
  have:i≠p.1:=λe=>hb (by rw[e];exact yB hp)
  rw[gN this,gN this];exact s.gU p hp
 by_cases hj:i=j
 .
  subst hj;rw[nE (by rw[<- s.sl.length];exact hi)]at h5
  injection h5 with h5;injection h5 with h5;injection h5 with h5;subst h5;exact .inr h0
 . rw[gN hj]at h4 h5;exact s.own j b l2 h4 h5
end
abbrev Kn (z:Z) (g':G) (σ:Sg) (M:List Addr) (H:Hp) (r:R) (Q:VK):Prop:=
 ∀v H' aB M',S z g' σ aB M' H'->ao M H M' H'->cH z g' σ aB M' H' r v->Q v H'
def aA(X:Cx)(z:Z)(e:Expr)(g:G)(r:R)(g':G):Prop:=
 ∃t,PE X e t/\∀σ As M H Q,S z g σ As M H->Kn z g' σ M H r Q->t σ H Q
def cI(X:Cx)(z:Z)(e:Expr)(g:G)(b:Bool)(g':G):Prop:=
 ∃t,PT X e t/\∀σ As M H (Q:Bool->Hp->Prop),S z g σ As M H->(∀H' aB M',S z g' σ aB M' H'->ao M H M' H'->Q b H')->t σ H Q
def lq(X:Cx)(z:Z)(f:Value->Value->Sem Value)(d1 d2:D)(res:R):Prop:=
 ∃r:R2,kD X f r/\∀g σ As M H v1 v2 Q,S z g σ As M H->Pk z.K M H d1 v1->Pk z.K M H d2 v2->Kn z g σ M H res Q->r v1 v2 H Q
def V9(X:Cx)(z:Z)(d1 d2:D)(res:R):Prop:=
 ∃r:R2,XC X r/\∀g σ As M H v1 v2 Q,S z g σ As M H->Pk z.K M H d1 v1->Pk z.K M H d2 v2->Kn z g σ M H res Q->r v1 v2 H Q
def UnD(X:Cx)(z:Z)(f:Value->Sem Value)(d:D)(res:R):Prop:=
 ∃r:V->Hp->VK->Prop,UnR X f r/\∀g σ As M H v Q,S z g σ As M H->Pk z.K M H d v->Kn z g σ M H res Q->r v H Q
noncomputable def pk:R->G->Option D
 |.dat d,_=>!d
 |.new _,_=>none
 |.var i,g=>match g[i]? with |!(.own l)=>!(.lst l) |!(.dat (.lst l))=>!(.lst l) |_=>none
section
theorem S.pk(s:S z g2 σ As M2 H2)(st:ao M1 H1 M2 H2)(q:cH z g1 σ aN M1 H1 r v)(h:pk r g2=!d):Pk z.K M2 H2 d v:=by
 cases r with
 |dat d'=>have e:d'=d:=wS h;subst e;exact .of (Rep.stay st q)
 |new l=>symm
 |var i=>
  obtain⟨l,h1,h2⟩:=q;unfold Ev.pk at h;dsimp only at h;split at h
  . rename_i l' hg;have e:=wS h;subst e;obtain⟨a,xs,e1,e2,e3,e4⟩:=s.sl.at hg;rw[h2]at e1;injection e1 with e1;injection e1 with e1;subst e1;exact .lst e3 e4
  . rename_i l' hg;have e:=wS h;subst e;obtain⟨w,e1,e2⟩:=s.sl.tM hg;rw[h2]at e1;injection e1 with e1;injection e1 with e1;exact .of (e1▸e2)
  . symm
theorem QZ{i j}:aA X z (.Constant (.int i) j pos) g ‹i› g:=#[_,qE,λσ As M H Q s k=>k _ _ _ _ s (ao.refl _ _) (.int i)]
theorem XZ{i j}:aA X z (.Constant (.bool i) j pos) g (.dat (.bl i)) g:=#[_,W8,λσ As M H Q s k=>k _ _ _ _ s (ao.refl _ _) (.bl i)]
theorem Q5{j}:aA X z (.Constant .none j pos) g (.dat .non) g:=#[_,CJ,λσ As M H Q s k=>k _ _ _ _ s (ao.refl _ _) .non]
theorem Q6{x j}:aA X z (.Constant (.str x) j pos) g (.dat (.str x)) g:=#[_,CK,λσ As M H Q s k=>k _ _ _ _ s (ao.refl _ _) (.str x)]
theorem Q7{i:Nat}{x:Str}(hN:X.N[i]?=!x)(hv:sW X.env.scope x)(hd:(x==(~~~3))=false)(bM:(x==("__classdict__":Str))=false)(hg:g[i]?=!(.dat d)):aA X z (.Name x pos) g (.dat d) g:=
 #[_,fK hN hv hd bM,λσ As M H Q s k=>let #[v,e,r]:=s.sl.tM hg;#[v,e,k v H As M s (ao.refl _ _) r]]
theorem JZ(hN:X.N[i]?=!x)(hv:sW X.env.scope x)(hd:(x==(~~~3))=false)(bM:(x==("__classdict__":Str))=false)(hg:g[i]?=!(.own l)):aA X z (.Name x pos) g (.var i) g:=
 #[_,fK hN hv hd bM,λσ As M H Q s k=>let #[a,xs,e,r]:=s.sl.at hg;#[_,e,k _ H As M s (ao.refl _ _) #[l,hg,e]]]
theorem J0(hg:Gl X x)(hm:X.mg x=!u)(r:RelV v u)(hr:∀M H,Rep z.K M H d v)(hd:(x==(~~~3))=false):aA X z (.Name x pos) g (.dat d) g:=
 #[_,xK hg hm r hd,λσ As M H Q s k=>k _ H As M s (ao.refl _ _) (hr M H)]
theorem lY(h:aA X z e g (.new l) g'):aA X z e g (.dat (.lst l)) g':=by
 obtain⟨t,p,q⟩:=h;refine#[t,p,λσ As M H Q s k=>q σ As M H Q s λv H' aB M' s' st r=>?_]
 obtain⟨a,xs,rfl,hm,hA,h0,ha,rr⟩:=r;have hM:∀m∈(M'.filter λm=>decide (m≠a)),m∈M':=λm hm=>(mI.mp hm).1
 have na:a∉(M'.filter λm=>decide (m≠a)):=λhm=>by
  have:=(mI.mp hm).2;simp at this
 exact k _ H' aB _ (s'.drop h0 hA) (st.trans (ao.less hM)) (.lst #[na,ha] (rr.stay (ao.less hM)))
theorem zO(h:aA X z e g (.var i) g1)(hg:g1[i]?=!(.own l))(hb:i∉z.bor):aA X z e g (.dat (.lst l)) (g1.set i (.dat (.lst l))):=by
 obtain⟨t,p,q⟩:=h;refine#[t,p,λσ As M H Q s k=>q σ As M H Q s λv H' aB M' s' st r=>?_]
 obtain⟨l',h1,h2⟩:=r;obtain⟨bE,M2,s2,aL⟩:=s'.freeze hg hb;have hi:=(eJ.mp hg).1;obtain⟨v',e1,e2⟩:=s2.sl.tM (by rw[nE hi])
 rw[h2]at e1;injection e1 with e1;injection e1 with e1;subst e1;exact k _ H' bE M2 s2 (st.trans aL) e2
theorem Q8(h1:aA X z a g r1 g1)(h2:aA X z b g1 r2 g2)(p1:pk r1 g2=!d1)(p2:pk r2 g2=!d2)(ho:lq X z (binaryOp op) d1 d2 r):aA X z (.BinOp a op b pos) g r g2:=by
 obtain⟨t1,q1,k1⟩:=h1;obtain⟨t2,q2,k2⟩:=h2;obtain⟨rr,o,ko⟩:=ho;exact#[_,Oq o q1 q2,λσ As M H Q s k=>k1 σ As M H _ s λv1 H1 aN M1 s1 bS R1=>k2 σ aN M1 H1 _ s1 λv2 H2 bE M2 s2 aL R2=>
  ko g2 σ bE M2 H2 v1 v2 Q s2 (s2.pk aL R1 p1) (s2.pk (ao.refl _ _) R2 p2) λv H' aB M' s' st' R'=>k v H' aB M' s' (bS.trans (aL.trans st')) R']
theorem Q9(h1:aA X z a g r1 g1)(h2:aA X z b g1 r2 g2)(p1:pk r1 g2=!d1)(p2:pk r2 g2=!d2)(ho:lq X z (compareOp op) d1 d2 r)(hm:behindInMarks op b=false):aA X z (.Compare a [op] [b] pos) g r g2:=by
 obtain⟨t1,q1,k1⟩:=h1;obtain⟨t2,q2,k2⟩:=h2;obtain⟨rr,o,ko⟩:=ho;exact#[_,Jv o q1 q2 hm,λσ As M H Q s k=>k1 σ As M H _ s λv1 H1 aN M1 s1 bS R1=>k2 σ aN M1 H1 _ s1 λv2 H2 bE M2 s2 aL R2=>
  ko g2 σ bE M2 H2 v1 v2 Q s2 (s2.pk aL R1 p1) (s2.pk (ao.refl _ _) R2 p2) λv H' aB M' s' st' R'=>k v H' aB M' s' (bS.trans (aL.trans st')) R']
theorem X3(h1:aA X z a g r1 g1)(h2:aA X z b g1 r2 g2)(p1:pk r1 g2=!d1)(p2:pk r2 g2=!d2)(ho:V9 X z d1 d2 r)(hs:qM b):aA X z (.Subscript a b pos) g r g2:=by
 obtain⟨t1,q1,k1⟩:=h1;obtain⟨t2,q2,k2⟩:=h2;obtain⟨rr,o,ko⟩:=ho;exact#[_,Ov o q1 q2 hs,λσ As M H Q s k=>k1 σ As M H _ s λv1 H1 aN M1 s1 bS R1=>k2 σ aN M1 H1 _ s1 λv2 H2 bE M2 s2 aL R2=>
  ko g2 σ bE M2 H2 v1 v2 Q s2 (s2.pk aL R1 p1) (s2.pk (ao.refl _ _) R2 p2) λv H' aB M' s' st' R'=>k v H' aB M' s' (bS.trans (aL.trans st')) R']
theorem X4(h1:aA X z a g r1 g1)(p1:pk r1 g1=!d1)(ho:UnD X z (unaryOp op) d1 r):aA X z (.UnaryOp op a pos) g r g1:=by obtain⟨t1,q1,k1⟩:=h1;obtain⟨rr,o,ko⟩:=ho;exact#[_,Ot o q1,λσ As M H Q s k=>k1 σ As M H _ s λv1 H1 aN M1 s1 bS R1=>ko g1 σ aN M1 H1 v1 Q s1 (s1.pk (ao.refl _ _) R1 p1) λv H' aB M' s' st' R'=>k v H' aB M' s' (bS.trans st') R']
theorem dW(q:cH z g σ As M H (.dat (.bl c)) v):v=.bl c:=by have q':=q;cases q';rfl
theorem Ra(h1:aA X z a g r1 g1)(h2:aA X z b g1 r2 g2)(p1:pk r1 g2=!d1)(p2:pk r2 g2=!d2)(ho:lq X z (compareOp op) d1 d2 (.dat (.bl c)))(hm:behindInMarks op b=false):cI X z (.Compare a [op] [b] pos) g c g2:=by
 obtain⟨t1,q1,k1⟩:=h1;obtain⟨t2,q2,k2⟩:=h2;obtain⟨rr,o,ko⟩:=ho;exact#[_,xP o q1 q2 hm,λσ As M H Q s k=>k1 σ As M H _ s λv1 H1 aN M1 s1 bS R1=>k2 σ aN M1 H1 _ s1 λv2 H2 bE M2 s2 aL R2=>
  ko g2 σ bE M2 H2 v1 v2 _ s2 (s2.pk aL R1 p1) (s2.pk (ao.refl _ _) R2 p2) λv H' aB M' s' st' R'=>#[c,dW R',k H' aB M' s' (bS.trans (aL.trans st'))]]
theorem Rb(h:cI X z a g c g'):cI X z (.UnaryOp .Not a pos) g ((not c)) g':=by obtain⟨t,q,k⟩:=h;exact#[_,CN q,λσ As M H Q s kk=>k σ As M H _ s λH' aB M' s' st=>kk H' aB M' s' st]
def lu(X:Cx)(z:Z)(e:Expr)(g:G)(b:Bool)(g':G):Prop:=
 ∃t,PW X e t/\∀σ As M H (Q:Bool->Hp->Prop),S z g σ As M H->(∀H' aB M',S z g' σ aB M' H'->ao M H M' H'->Q b H')->t σ H Q
theorem lu.tr(h:lu X z e g c g'):cI X z e g c g':=let #[t,q,k]:=h;#[t,q.pt,k]
theorem J1(h:cI X z a g c g'):lu X z (.BoolOp .And [a] pos) g c g':=let #[t,q,k]:=h;#[t,pw_and1 q,k]
theorem Rc(h:cI X z a g c g'):lu X z (.BoolOp .Or [a] pos) g c g':=let #[t,q,k]:=h;#[t,pw_or1 q,k]
def tNo:TT:=λ_ _ _=>False
theorem pw_never:PW X e tNo:=λ_ _ _ _ _ _ _ h=>h.elim
theorem jg:PE X e (λ_ _ _=>False):=λ_ _ _ _ _ _ h=>h.elim
theorem J2{rest:List Expr}(h:cI X z a g false g1):lu X z (.BoolOp .And (a::b::rest) pos) g false g1:=by obtain⟨t,q,k⟩:=h;exact#[_,pw_and q pw_never,λσ As M H Q s kk=>k σ As M H _ s λH' aB M' s' st=>qQ (kk H' aB M' s' st)]
theorem J3{rest:List Expr}{c:Bool}(h:cI X z a g true g1)(h2:lu X z (.BoolOp .And (b::rest) pos) g1 c g2):lu X z (.BoolOp .And (a::b::rest) pos) g c g2:=by obtain⟨t,q,k⟩:=h;obtain⟨t2,q2,k2⟩:=h2;exact#[_,pw_and q q2,λσ As M H Q s kk=>k σ As M H _ s λH' aB M' s' st=>qR (k2 σ aB M' H' Q s' λH2 bE M2 s2 aL=>kk H2 bE M2 s2 (st.trans aL))]
theorem Rf{rest:List Expr}(h:cI X z a g true g1):lu X z (.BoolOp .Or (a::b::rest) pos) g true g1:=by obtain⟨t,q,k⟩:=h;exact#[_,pw_or q pw_never,λσ As M H Q s kk=>k σ As M H _ s λH' aB M' s' st=>qR (kk H' aB M' s' st)]
theorem Rg{rest:List Expr}{c:Bool}(h:cI X z a g false g1)(h2:lu X z (.BoolOp .Or (b::rest) pos) g1 c g2):lu X z (.BoolOp .Or (a::b::rest) pos) g c g2:=by obtain⟨t,q,k⟩:=h;obtain⟨t2,q2,k2⟩:=h2;exact#[_,pw_or q q2,λσ As M H Q s kk=>k σ As M H _ s λH' aB M' s' st=>qQ (k2 σ aB M' H' Q s' λH2 bE M2 s2 aL=>kk H2 bE M2 s2 (st.trans aL))]
theorem Ds(h:aA X z a g r g'):aA X z (.BoolOp op [a] pos) g r g':=let #[t,q,k]:=h;#[t,Qe q,k]
theorem J4{rest:List Expr}(h:aA X z a g (.dat (.bl false)) g1):aA X z (.BoolOp .And (a::b::rest) pos) g (.dat (.bl false)) g1:=by obtain⟨t,q,k⟩:=h;exact#[_,CP q jg,λσ As M H Q s kk=>k σ As M H _ s λv H' aB M' s' st R=>#[false,dW R,qQ (kk _ H' aB M' s' st (.bl false))]]
theorem J5{rest:List Expr}(h:aA X z a g (.dat (.bl true)) g1)(h2:aA X z (.BoolOp .And (b::rest) pos) g1 r g2):aA X z (.BoolOp .And (a::b::rest) pos) g r g2:=by obtain⟨t,q,k⟩:=h;obtain⟨t2,q2,k2⟩:=h2;exact#[_,CP q q2,λσ As M H Q s kk=>k σ As M H _ s λv H' aB M' s' st R=>#[true,dW R,qR (k2 σ aB M' H' Q s' λv2 H2 bE M2 s2 aL=>kk v2 H2 bE M2 s2 (st.trans aL))]]
theorem Rh{rest:List Expr}(h:aA X z a g (.dat (.bl true)) g1):aA X z (.BoolOp .Or (a::b::rest) pos) g (.dat (.bl true)) g1:=by obtain⟨t,q,k⟩:=h;exact#[_,Oo q jg,λσ As M H Q s kk=>k σ As M H _ s λv H' aB M' s' st R=>#[true,dW R,qR (kk _ H' aB M' s' st (.bl true))]]
theorem Ri{rest:List Expr}(h:aA X z a g (.dat (.bl false)) g1)(h2:aA X z (.BoolOp .Or (b::rest) pos) g1 r g2):aA X z (.BoolOp .Or (a::b::rest) pos) g r g2:=by obtain⟨t,q,k⟩:=h;obtain⟨t2,q2,k2⟩:=h2;exact#[_,Oo q q2,λσ As M H Q s kk=>k σ As M H _ s λv H' aB M' s' st R=>#[false,dW R,qQ (k2 σ aB M' H' Q s' λv2 H2 bE M2 s2 aL=>kk v2 H2 bE M2 s2 (st.trans aL))]]
theorem Rj(h:aA X z a g (.dat (.bl c)) g1):aA X z (.UnaryOp .Not a pos) g (.dat (.bl ((not c)))) g1:=by obtain⟨t,q,k⟩:=h;exact#[_,Qf q,λσ As M H Q s kk=>k σ As M H _ s λv H' aB M' s' st R=>#[c,dW R,kk _ H' aB M' s' st (.bl _)]]
theorem Rk(h:cI X z c g true g1)(h2:aA X z a g1 r g2):aA X z (.IfExp c a b pos) g r g2:=by obtain⟨t,q,k⟩:=h;obtain⟨t2,q2,k2⟩:=h2;exact#[_,sY q q2 jg,λσ As M H Q s kk=>k σ As M H _ s λH' aB M' s' st=>qR (k2 σ aB M' H' Q s' λv2 H2 bE M2 s2 aL=>kk v2 H2 bE M2 s2 (st.trans aL))]
theorem Rm(h:cI X z c g false g1)(h2:aA X z b g1 r g2):aA X z (.IfExp c a b pos) g r g2:=by obtain⟨t,q,k⟩:=h;obtain⟨t2,q2,k2⟩:=h2;exact#[_,sY q jg q2,λσ As M H Q s kk=>k σ As M H _ s λH' aB M' s' st=>qQ (k2 σ aB M' H' Q s' λv2 H2 bE M2 s2 aL=>kk v2 H2 bE M2 s2 (st.trans aL))]
inductive iz(z:Z)(σ:Sg)(M:List Addr)(H:Hp):List R->List V->Prop
 |nil:iz z σ M H [] []
 |dat {d:D}{v:V}{rs:List R}{vs:List V}:Rep z.K M H d v->iz z σ M H rs vs->iz z σ M H (.dat d::rs) (v::vs)
 |var {i:Nat}{v:V}{rs:List R}{vs:List V}:σ[i]?=!(!v)->iz z σ M H rs vs->iz z σ M H (.var i::rs) (v::vs)
def cu(X:Cx)(z:Z)(es:List Expr)(g:G)(rs:List R)(g':G):Prop:=
 ∃t,PA X es t/\∀σ As M H (Q:List V->Hp->Prop),S z g σ As M H->(∀vs H' aB M',S z g' σ aB M' H'->ao M H M' H'->iz z σ M' H' rs vs->Q vs H')->t σ H Q
theorem dM:cu X z [] g [] g:=#[_,eS,λσ As M H Q s k=>k [] H As M s (ao.refl _ _) .nil]
theorem dg(h:aA X z e g (.dat d) g1)(h2:cu X z es g1 rs g2)(hs:starEach (e::es) X.env=(false,eval e X.env)::starEach es X.env):cu X z (e::es) g (.dat d::rs) g2:=by obtain⟨t,q,k⟩:=h;obtain⟨t2,q2,k2⟩:=h2;exact#[_,bB q q2 hs,λσ As M H Q s kk=>k σ As M H _ s λv H' aB M' s' st R=>k2 σ aB M' H' _ s' λvs H2 bE M2 s2 aL R2=>kk _ H2 bE M2 s2 (st.trans aL) (.dat (Rep.stay aL R) R2)]
theorem Dt(h:aA X z e g (.var i) g1)(h2:cu X z es g1 rs g2)(hs:starEach (e::es) X.env=(false,eval e X.env)::starEach es X.env):cu X z (e::es) g (.var i::rs) g2:=by obtain⟨t,q,k⟩:=h;obtain⟨t2,q2,k2⟩:=h2;exact#[_,bB q q2 hs,λσ As M H Q s kk=>k σ As M H _ s (by rintro v H' aB M' s' st ⟨_,_,R⟩;exact k2 σ aB M' H' _ s' λvs H2 bE M2 s2 aL R2=>kk _ H2 bE M2 s2 (st.trans aL) (.var R R2))]
inductive Ro(K:Frag)(M:List Addr)(H:Hp):List D->List V->Prop
 |nil:Ro K M H [] []
 |cons {d:D}{v:V}{ds:List D}{vs:List V}:Pk K M H d v->Ro K M H ds vs->Ro K M H (d::ds) (v::vs)
def qW:List R->G->Option (List D)
 | [],_=>![]
 |r::rs,g=>match pk r g,qW rs g with
  |!d,!ds=>!(d::ds)
  |_,_=>none
theorem S.qW(s:S z g σ As M H)(q:iz z σ M H rs vs)(e:qW rs g=!ds):Ro z.K M H ds vs:=by
 induction q generalizing ds with
 |nil=>cases e;exact .nil
 |@dat d v rs vs r q ih=>
  unfold Ev.qW at e;cases e2:Ev.qW rs g with
  |none=>rw[e2]at e;cases e
  |some ds=>rw[e2]at e;cases e;exact .cons (.of r) (ih e2)
 |@var i v rs vs r q ih=>
  unfold Ev.qW at e;cases e1:Ev.pk (.var i) g with
  |none=>rw[e1]at e;cases e
  |some d=>
   cases e2:Ev.qW rs g with
   |none=>rw[e1,e2]at e;cases e
   |some ds=>
    rw[e1,e2]at e;cases e;unfold Ev.pk at e1;dsimp only at e1;split at e1
    . rename_i l hg;cases e1;obtain⟨a,xs,h1,h2,h3,h4⟩:=s.sl.at hg;rw[r]at h1;injection h1 with h1;injection h1 with h1;subst h1;exact .cons (.lst h3 h4) (ih e2)
    . rename_i l hg;cases e1;obtain⟨w,h1,h2⟩:=s.sl.tM hg;rw[r]at h1;injection h1 with h1;injection h1 with h1;exact .cons (.of (h1▸h2)) (ih e2)
    . cases e1
noncomputable def tN:List R->Option (List D)
 | []=>![]
 |.dat d::rs=>match tN rs with |some ds=>!(d::ds) |none=>none
 |_::_=>none
theorem xV(q:iz z σ M H rs vs)(e:tN rs=!ds):aG z.K M H ds vs:=by
 induction q generalizing ds with
 |nil=>cases e;exact .nil
 |@dat d v rs vs r q ih=>
  unfold tN at e;cases e2:tN rs with
  |none=>rw[e2]at e;cases e
  |some ds=>rw[e2]at e;cases e;exact .cons r (ih e2)
 |var _ _ _=>cases e
theorem jh(h:n<=16777216):n<=sizeLine:=by rw[t7];exact h
theorem Rp{x1}(h:cu X z es g rs g')(hd:tN rs=!ds)(hl:ds.length<=16777216):aA X z (.Tuple es x1 pos) g (.dat (.tup ds)) g':=by
 obtain⟨t,q,k⟩:=h;refine#[_,Dd q,λσ As M H Q s kk=>k σ As M H _ s λvs H' aB M' s' st R=>?_]
 have rr:=xV R hd;refine#[by rw[<- rr.length];exact jh hl,λp hp=>kk _ _ aB M' (s'.laid hp) (st.trans (ao.laid hp)) (.tup (.inl #[s'.fresh hp,.inl aC]) (rr.stay (ao.laid hp)))]
theorem Rq(h:cu X z es g rs g')(hd:tN rs=!ds)(hl:ds.length<=16777216):aA X z (.List es pos) g (.new ds) g':=by
 obtain⟨t,q,k⟩:=h;refine#[_,QB q,λσ As M H Q s kk=>k σ As M H _ s λvs H' aB M' s' st R=>?_]
 have rr:=xV R hd;refine#[by rw[<- rr.length];exact jh hl,λp hp=>kk _ _ aB (p::M') (s'.aW hp) (st.trans (ao.aW hp)) #[p,vs,rfl,bP,λhA=>s'.fresh hp (s'.sub p hA),s'.bW hp,aC,rr.stay (ao.aW hp)]]
def CallD(X:Cx)(z:Z)(f:Value)(ds:List D)(res:R):Prop:=
 ∃r,bV X f r/\∀g σ As M H vs Q,S z g σ As M H->Ro z.K M H ds vs->Kn z g σ M H res Q->r vs H Q
theorem tQ{x:Str}{id:String}{p:Pos}{es:List Expr}{rs:List R}{ds:List D}(h:cu X z (e::es) g rs g')(hp:qW rs g'=!ds)(hc:CallD X z (.builtin id) ds r)(hg:Gl X x)(hm:X.mg x=none)(hv:bootBuiltins x=!(.builtin id))(hn:x≠ "__name__")(iU:(x==(~~~3))=false)
  (he:starEach (e::es) X.env=(false,eval e X.env)::starEach es X.env) (gI:(backTo pos (starEach es X.env)).any (·.1)=false):aA X z (.Call (.Name x p) (e::es) [] pos) g r g':=by
 obtain⟨t,q,k⟩:=h;obtain⟨rr,c,kc⟩:=hc;exact#[_,jf c hg hm hv q hn iU he gI,λσ As M H Q s kk=>k σ As M H _ s λvs H' aB M' s' st R=>kc g' σ aB M' H' vs Q s' (s'.qW R hp) λv H2 bE M2 s2 aL R2=>kk v H2 bE M2 s2 (st.trans aL) R2]
theorem zP(h:cu X z (e::es) g rs g')(hp:qW rs g'=!ds)(hc:CallD X z (.type T) ds r)(hg:Gl X x)(hm:X.mg x=none)(hv:bootBuiltins x=!(.type T))(hn:x≠ "__name__")(iU:(x==(~~~3))=false)
  (he:starEach (e::es) X.env=(false,eval e X.env)::starEach es X.env) (gI:(backTo pos (starEach es X.env)).any (·.1)=false):aA X z (.Call (.Name x p) (e::es) [] pos) g r g':=by
 obtain⟨t,q,k⟩:=h;obtain⟨rr,c,kc⟩:=hc;exact#[_,pD c hg hm hv q hn iU he gI,λσ As M H Q s kk=>k σ As M H _ s λvs H' aB M' s' st R=>kc g' σ aB M' H' vs Q s' (s'.qW R hp) λv H2 bE M2 s2 aL R2=>kk v H2 bE M2 s2 (st.trans aL) R2]
end
mutual
noncomputable def cz:D->D->Bool
 |.non,.non=>true
 |.bl a,.bl b=>a==b
 |.bl a,.int j=>(if a then 1 else 0)==j
 |.int i,.bl b=>i==(if b then 1 else 0)
 |.int i,.int j=>i==j
 |.str x,.str y=>x==y
 |.tup l,.tup m=>cT l m
 |.lst l,.lst m=>cT l m
 |.lst l,.fix m=>cT l m
 |.fix l,.lst m=>cT l m
 |.fix l,.fix m=>cT l m
 |_,_=>false
noncomputable def cT:List D->List D->Bool
 | [],[]=>true
 |a::l,b::m=>cz a b&&cT l m
 |_,_=>false
end
mutual
noncomputable def dep:D->Nat
 |.tup l=>deps l+1
 |.lst l=>deps l+1
 |.fix l=>deps l+1
 |_=>0
noncomputable def deps:List D->Nat
 | []=>0
 |d::l=>max (dep d) (deps l)
end
mutual
noncomputable def iA:D->Bool
 |.tup l=>iB l
 |.lst l=>iB l
 |.fix l=>iB l
 |.emp _=>false
 |.kF _=>false
 |.Dr ..=>false
 |_=>true
noncomputable def iB:List D->Bool
 | []=>true
 |d::l=>iA d&&iB l
end
mutual
inductive Dv(h:Heap):D->Value->Prop
 |non:Dv h .non .none
 |bl (b:Bool):Dv h (.bl b) (.bool b)
 |int (i:Int) (t:Tok):Dv h (.int i) (.int i t)
 |str (x:Str) (t:Tok):Dv h (.str x) (.str x t)
 |tup {l:List D}{a:Addr}{us:List Value}:IsTup h a us.toArray->kJ h l us->Dv h (.tup l) (.ref a)
 |lst {l:List D}{a:Addr}{us:List Value}:h.IsList a us.toArray->kJ h l us->Dv h (.lst l) (.ref a)
 |fix {l:List D}{a:Addr}{us:List Value}:h.IsList a us.toArray->kJ h l us->Dv h (.fix l) (.ref a)
inductive kJ(h:Heap):List D->List Value->Prop
 |nil:kJ h [] []
 |cons {d:D}{ds:List D}{u:Value}{us:List Value}:Dv h d u->kJ h ds us->kJ h (d::ds) (u::us)
end
section
theorem Rep.dv2(I: ~~~7)(q:Rep X.K M H d v):∀u,RelV v u->iA d=true->Dv s.heap d u:=by
 refine Rep.rec (motive_2:=λds vs _=>∀us,Vals vs us->iB ds=true->kJ s.heap ds us) ?_ ?_ ?_ ?_ ?_ ?_ ?_ ?_ ?_ ?_ ?_ ?_ q
 . intro u r _;cases r;exact .non
 . intro b u r _;cases r;exact .bl b
 . intro i u r _;obtain⟨t,rfl⟩:=r;exact .int i t
 . intro x u r _;obtain⟨t,rfl⟩:=r;exact .str x t
 . intro l a xs h _ ih u r p;cases r;obtain⟨its,rv,ht,hz⟩:=I.tuple h.sq;exact .tup ht (ih _ rv p)
 . intro l a xs h _ ih u r p;cases r;obtain⟨its,rv,ht,hz⟩:=I.list (bD.of h.2);exact .lst ht.isList (ih _ rv p)
 . intro l a xs h _ ih u r p;cases r;obtain⟨its,rv,ht,hz⟩:=I.list h.sq;exact .fix ht.isList (ih _ rv p)
 . intro m o a _ _ u _ p;exact Bool.noConfusion (show false=true from p)
 . intro C a _ _ _ u _ p;exact Bool.noConfusion (show false=true from p)
 . intro ks ds a vs _ _ _ _ _ u _ p;exact Bool.noConfusion (show false=true from p)
 . intro us r _;cases r;exact .nil
 .
  intro d ds x xs _ _ i1 i2 us r p;cases r with
  |cons r1 r2=>have p:(iA d&&iB ds)=true:=p;rw[gL]at p;exact .cons (i1 _ r1 p.1) (i2 _ r2 p.2)
theorem Rep.dv(I: ~~~7)(q:Rep X.K M H d v)(r:RelV v u)(p:iA d=true):Dv s.heap d u:=q.dv2 I u r p
theorem aG.dv(I: ~~~7)(q:aG X.K M H ds vs)(r:Vals vs us)(p:iB ds=true):kJ s.heap ds us:=by
 induction ds generalizing vs us with
 |nil=>cases q;cases r;exact .nil
 |cons d ds ih=>cases q with |cons q1 q2=>cases r with |cons r1 r2=>have p:(iA d&&iB ds)=true:=p;rw[gL]at p;exact .cons (q1.dv I r1 p.1) (ih q2 r2 p.2)
theorem Pk.dv(I: ~~~7)(h:Pk X.K M H d v)(r:RelV v u)(p:iA d=true):Dv s.heap d u:=by
 cases h with
 |of q=>exact q.dv I r p
 |lst h q=>cases r;obtain⟨its,rv,ht,hz⟩:=I.list (bD.of h);exact .lst ht.isList (aG.dv I q rv (by simpa [iA]using p))
end
theorem kJ.length(q:kJ h l us):l.length=us.length:=by
 induction l generalizing us with
 |nil=>cases q;rfl
 |cons d l ih=>cases q with |cons a b=>exact congrArg (· + 1) (ih b)
theorem pJ{h:Heap}{a:Addr}{us ws:List Value}(x:IsTup h a us.toArray)(y:IsTup h a ws.toArray):us=ws:=by obtain⟨o,e,_,n,d⟩:=x;obtain⟨o',e',_,n',d'⟩:=y;rw[e]at e';cases e';rw[d]at d';injection d' with d1 _;simpa using congrArg Array.toList d1
theorem bG{h:Heap}{a:Addr}{us ws:List Value}(x:h.IsList a us.toArray)(y:h.IsList a ws.toArray):us=ws:=by obtain⟨o,e,_,n,d⟩:=x;obtain⟨o',e',_,n',d'⟩:=y;rw[e]at e';cases e';rw[d]at d';injection d' with d1 _;simpa using congrArg Array.toList d1
theorem cJ(x:IsTup h a us)(y:h.IsList a ws):False:=by obtain⟨o,e,c,_⟩:=x;obtain⟨o',e',c',_⟩:=y;rw[e]at e';cases e';rw[c]at c';exact absurd c' ⋯
theorem Du{h:Heap}{d1:D}{u:Value}(q:Dv h d1 u):∀d2,Dv h d2 u->cz d1 d2=true:=by
 refine Dv.rec (motive_2:=λl us _=>∀m,kJ h m us->cT l m=true) ?_ ?_ ?_ ?_ ?_ ?_ ?_ ?_ ?_ q
 . intro d2 q;cases q;rfl
 . intro b d2 q;cases q;exact beq_self_eq_true b
 . intro i t d2 q;cases q;exact beq_self_eq_true i
 . intro x t d2 q;cases q;exact beq_self_eq_true x
 .
  intro l a us x _ ih d2 q;cases q with
  |tup y q'=>cases pJ x y;exact ih _ q'
  |lst y _=>exact (cJ x y).elim
  |fix y _=>exact (cJ x y).elim
 .
  intro l a us x _ ih d2 q;cases q with
  |tup y _=>exact (cJ y x).elim
  |lst y q'=>cases bG x y;exact ih _ q'
  |fix y q'=>cases bG x y;exact ih _ q'
 .
  intro l a us x _ ih d2 q;cases q with
  |tup y _=>exact (cJ y x).elim
  |lst y q'=>cases bG x y;exact ih _ q'
  |fix y q'=>cases bG x y;exact ih _ q'
 . intro m q;cases q;rfl
 .
  intro d ds u us _ _ i1 i2 m q;cases q with
  |@cons d' m _ _ b q'=>show (cz d d'&&cT ds m)=true;rw[i1 _ b,i2 _ q'];rfl
theorem J6(q:Dv h d1 u)(q':Dv h d2 u):cz d1 d2=true:=Du q d2 q'
def OJ(l m:List D)(j:Nat):Bool:=match l[j]?,m[j]? with |!a,!b=>cz a b |_,_=>false
theorem lZ(l m:List D)(h:l.length=m.length):(List.range l.length).all (OJ l m)=cT l m:=by
 induction l generalizing m with
 |nil=>cases m with
  |nil=>rfl
  |cons _ _=>symm
 |cons a l ih=>cases m with
  |nil=>symm
  |cons b m=>rw[nK,DJ,List.all_cons,List.all_map];have e:(OJ (a::l) (b::m) ∘ Nat.succ)=OJ l m:=rfl;rw[e,ih m (C4 h)];rfl
theorem mh(l m:List D)(h:l.length≠m.length):cT l m=false:=by
 induction l generalizing m with
 |nil=>cases m with
  |nil=>exact absurd rfl h
  |cons _ _=>rfl
 |cons a l ih=>cases m with
  |nil=>rfl
  |cons b m=>show (cz a b&&cT l m)=false;rw[ih m (λe=>h (congrArg (· + 1) e)),EQ]
theorem tR(l m:List D):((List.range (min l.length m.length)).all (OJ l m)&&l.length==m.length)=cT l m:=by
 by_cases h:l.length=m.length
 . rw[h,Nat.min_self,<- h,lZ l m h];simp
 .
  rw[mh l m h];have:(l.length==m.length)=false:=by simpa using h
  rw[this,EQ]
theorem mj{l:List D}{j:Nat}{d:D}(e:l[j]?=!d):dep d<=deps l:=by
 induction l generalizing j with
 |nil=>exact nomatch (show none=!d from e)
 |cons d' l ih=>cases j with
  |zero=>cases (show some d'=!d from e);exact Nat.le_max_left _ _
  |succ j=>exact oI (ih (show l[j]?=!d from e)) (Nat.le_max_right _ _)
theorem kJ.get{h:Heap}{l:List D}{us:List Value}{j:Nat}{u:Value}(q:kJ h l us)(e:us[j]?=!u):∃d,l[j]?=!d/\Dv h d u:=by
 induction l generalizing us j with
 |nil=>cases q;exact nomatch (show none=!u from e)
 |cons d' l ih=>cases q with |@cons _ _ u' us a b=>cases j with
  |zero=>cases (show some u'=!u from e);exact#[_,rfl,a]
  |succ j=>obtain⟨d,h⟩:=ih b e;exact#[d,h]
theorem in1_units(A:Around):A.in1.units=A.units+1:=rfl
section
theorem jj(hl:s.heap.IsList l us.toArray)(hb:s.heap.IsList b ws.toArray)(q:kJ s.heap ls us)(q':kJ s.heap ms ws)(hu:A.units<cLine)
  (he:∀(j:Nat) d1 d2 u1 u2,ls[j]?=!d1->Dv s.heap d1 u1->Dv s.heap d2 u2->SeqAt.EqAt A.in1 s u1 u2 (cz d1 d2)):SeqAt.RcAt A s (.ref l) (.ref b) (cT ls ms):=by
 have h1:=q.length;have h2:=q'.length;by_cases h:ls.length=ms.length
 .
  rw[<- lZ ls ms h];have e:us.toArray.size=ls.length:=by rw[eP,h1]
  rw[<- e];refine SeqAt.RcAt.lists hl hb (by rw[eP,eP];lia) hu λj g1 g2=>?_
  obtain⟨d1,e1,v1⟩:=q.get (j:=j) (u:=us[j]) (by simp[g1])
  obtain⟨d2,e2,v2⟩:=q'.get (j:=j) (u:=ws[j]) (by simp[g2])
  have:=he j d1 d2 us[j] ws[j] e1 v1 v2;simpa [OJ,e1,e2]using this
 . rw[mh ls ms h];refine SeqAt.RcAt.lists_lengths hl hb ?_ hu;rw[eP,eP];lia
theorem zQ(hl:IsTup s.heap l us.toArray)(hb:IsTup s.heap b ws.toArray)(q:kJ s.heap ls us)(q':kJ s.heap ms ws)(hu:A.units<cLine)
  (he:∀(j:Nat) d1 d2 u1 u2,ls[j]?=!d1->Dv s.heap d1 u1->Dv s.heap d2 u2->SeqAt.EqAt A.in1 s u1 u2 (cz d1 d2)):SeqAt.RcAt A s (.ref l) (.ref b) (cT ls ms):=by
 have h1:=q.length;have h2:=q'.length;have e:us.toArray.size=ls.length:=by rw[eP,h1]
 have e':ws.toArray.size=ms.length:=by rw[eP,h2]
 rw[<- tR,<- e,<- e'];refine SeqAt.RcAt.tuples hl hb hu λj g1 g2=>?_
 obtain⟨d1,e1,v1⟩:=q.get (j:=j) (u:=us[j]) (by simp[g1])
 obtain⟨d2,e2,v2⟩:=q'.get (j:=j) (u:=ws[j]) (by simp[g2])
 have:=he j d1 d2 us[j] ws[j] e1 v1 v2;simpa [OJ,e1,e2]using this
theorem fO(x:Dv s.heap d1 (.ref l))(y:Dv s.heap d2 (.ref b))(h:SeqAt.RcAt A s (.ref l) (.ref b) (cz d1 d2)):SeqAt.EqAt A s (.ref l) (.ref b) (cz d1 d2):=by
 by_cases e:l=b
 . subst e;rw[J6 x y];exact .same _
 . exact .of_refs e h
end
theorem Dw{s:Shared}:∀(n:Nat) {d1 d2:D}{u1 u2:Value}{A:Around},dep d1<=n->Dv s.heap d1 u1->Dv s.heap d2 u2->A.units+n<cLine->SeqAt.EqAt A s u1 u2 (cz d1 d2)/\SeqAt.RcAt A s u1 u2 (cz d1 d2):=by
 intro n
 induction n using Nat.strongRecOn with
 |ind n ih=>
  intro d1 d2 u1 u2 A hn x y hu;have bf:A.units<cLine:=by lia
  have el:∀{l:List D},deps l+1<=n->∀(j:Nat) d1 d2 u1 u2,l[j]?=!d1->Dv s.heap d1 u1->Dv s.heap d2 u2->SeqAt.EqAt A.in1 s u1 u2 (cz d1 d2):=λhl j d1 d2 u1 u2 e v1 v2=>
   (ih (n - 1) ⋯ (oI (mj e) ⋯) v1 v2 (by rw[in1_units];lia)).1
  cases x with
  |@tup l0 a0 us0 h q=>
   have hn':deps l0+1<=n:=hn;have x:=Dv.tup h q;cases y with
   |tup h' q'=>have r:=zQ h h' q q' bf (el hn');exact#[fO x (.tup h' q') r,r]
   |lst h' q'=>exact#[.tuple_list h h' bf,.tuple_list h h' bf]
   |fix h' q'=>exact#[.tuple_list h h' bf,.tuple_list h h' bf]
   |non=>exact#[.tuple_none h bf,.tuple_none h bf]
   |bl b=>exact#[.tuple_bool b h bf,.tuple_bool b h bf]
   |int b t=>exact#[.tuple_int b t h bf,.tuple_int b t h bf]
   |str b t=>exact#[.tuple_str b t h bf,.tuple_str b t h bf]
  |@lst l0 a0 us0 h q=>
   have hn':deps l0+1<=n:=hn;have x:=Dv.lst h q;cases y with
   |tup h' q'=>exact#[.list_tuple h h' bf,.list_tuple h h' bf]
   |lst h' q'=>have r:=jj h h' q q' bf (el hn');exact#[fO x (.lst h' q') r,r]
   |fix h' q'=>have r:=jj h h' q q' bf (el hn');exact#[fO x (.fix h' q') r,r]
   |non=>exact#[.list_none h bf,.list_none h bf]
   |bl b=>exact#[.list_bool b h bf,.list_bool b h bf]
   |int b t=>exact#[.list_int b t h bf,.list_int b t h bf]
   |str b t=>exact#[.list_str b t h bf,.list_str b t h bf]
  |@fix l0 a0 us0 h q=>
   have hn':deps l0+1<=n:=hn;have x:=Dv.fix h q;cases y with
   |tup h' q'=>exact#[.list_tuple h h' bf,.list_tuple h h' bf]
   |lst h' q'=>have r:=jj h h' q q' bf (el hn');exact#[fO x (.lst h' q') r,r]
   |fix h' q'=>have r:=jj h h' q q' bf (el hn');exact#[fO x (.fix h' q') r,r]
   |non=>exact#[.list_none h bf,.list_none h bf]
   |bl b=>exact#[.list_bool b h bf,.list_bool b h bf]
   |int b t=>exact#[.list_int b t h bf,.list_int b t h bf]
   |str b t=>exact#[.list_str b t h bf,.list_str b t h bf]
  |non=>
   cases y with
   |non=>exact#[.same _,.none_none]
   |bl c'=>exact#[.none_bool c',.none_bool c']
   |int c' t'=>exact#[.none_int c' t',.none_int c' t']
   |str c' t'=>exact#[.none_str c' t',.none_str c' t']
   |tup h' q'=>exact#[.none_tuple h' bf,.none_tuple h' bf]
   |lst h' q'=>exact#[.none_list h' bf,.none_list h' bf]
   |fix h' q'=>exact#[.none_list h' bf,.none_list h' bf]
  |bl c=>
   cases y with
   |non=>exact#[.bool_none c,.bool_none c]
   |bl c'=>exact#[.bool_bool c c',.bool_bool c c']
   |int c' t'=>exact#[.bool_int c c' t',.bool_int c c' t']
   |str c' t'=>exact#[.bool_str c c' t',.bool_str c c' t']
   |tup h' q'=>exact#[.bool_tuple c h' bf,.bool_tuple c h' bf]
   |lst h' q'=>exact#[.bool_list c h' bf,.bool_list c h' bf]
   |fix h' q'=>exact#[.bool_list c h' bf,.bool_list c h' bf]
  |int c t=>
   cases y with
   |non=>exact#[.int_none c t,.int_none c t]
   |bl c'=>exact#[.int_bool c t c',.int_bool c t c']
   |int c' t'=>exact#[.int_int c t c' t',.int_int c t c' t']
   |str c' t'=>exact#[.int_str c t c' t',.int_str c t c' t']
   |tup h' q'=>exact#[.int_tuple c t h' bf,.int_tuple c t h' bf]
   |lst h' q'=>exact#[.int_list c t h' bf,.int_list c t h' bf]
   |fix h' q'=>exact#[.int_list c t h' bf,.int_list c t h' bf]
  |str c t=>
   cases y with
   |non=>exact#[.str_none c t,.str_none c t]
   |bl c'=>exact#[.str_bool c t c',.str_bool c t c']
   |int c' t'=>exact#[.str_int c t c' t',.str_int c t c' t']
   |str c' t'=>exact#[.str_str c t c' t',.str_str c t c' t']
   |tup h' q'=>exact#[.str_tuple c t h' bf,.str_tuple c t h' bf]
   |lst h' q'=>exact#[.str_list c t h' bf,.str_list c t h' bf]
   |fix h' q'=>exact#[.str_list c t h' bf,.str_list c t h' bf]open L2
section
variable{K:Frag}
theorem Pk.int{i:Int}(h:Pk K M H (.int i) v):v=.int i:=by cases h with |of r=>cases r;rfl
theorem Pk.bl(h:Pk K M H (.bl i) v):v=.bl i:=by cases h with |of r=>cases r;rfl
theorem Pk.str(h:Pk K M H (.str i) v):v=.str i:=by cases h with |of r=>cases r;rfl
theorem Pk.non(h:Pk K M H .non v):v=.non:=by cases h with |of r=>cases r;rfl
theorem Pk.tup{l:List D}(h:Pk K M H (.tup l) v):∃a xs,v=.ref a/\TupAt K M H a xs/\aG K M H l xs:=by cases h with |of r=>cases r with |tup h1 h2=>exact⟨_,_,rfl,h1,h2⟩
theorem Pk.fix{l:List D}(h:Pk K M H (.fix l) v):∃a xs,v=.ref a/\kG K M H a xs/\aG K M H l xs:=by cases h with |of r=>cases r with |fix h1 h2=>exact⟨_,_,rfl,h1,h2⟩
end
section
theorem xX{f:Value->Value->Sem Value}{k:Int->Int->Int}{i j:Int}(h:kD X f (Ju λi j=>.int (k i j))):lq X z f (.int i) (.int j) (.dat (.int (k i j))):=
 #[_,h,λg σ As M H v1 v2 Q s p1 p2 kk=>#[i,j,p1.int,p2.int,kk _ H As M s (ao.refl _ _) (.int _)]]
theorem qX{f:Value->Value->Sem Value}{C:Int->Int->Prop}{k:Int->Int->Int}{i j:Int}(h:kD X f (rI C λi j=>.int (k i j)))(hc:C i j):lq X z f (.int i) (.int j) (.dat (.int (k i j))):=
 #[_,h,λg σ As M H v1 v2 Q s p1 p2 kk=>#[i,j,p1.int,p2.int,hc,kk _ H As M s (ao.refl _ _) (.int _)]]
theorem wj{f:Value->Value->Sem Value}{k:Int->Int->Bool}{i j:Int}(h:kD X f (Ju λi j=>.bl (k i j))):lq X z f (.int i) (.int j) (.dat (.bl (k i j))):=
 #[_,h,λg σ As M H v1 v2 Q s p1 p2 kk=>#[i,j,p1.int,p2.int,kk _ H As M s (ao.refl _ _) (.bl _)]]
def Rr(z:Z)(d1 d2:D)(b:Bool):R2:=λx y H Q=>(∃M,Pk z.K M H d1 x/\Pk z.K M H d2 y)/\Q (.bl b) H
theorem X5(hK:z.K=X.K)(p1:iA d1=true)(p2:iA d2=true)(hd:X.A.units+dep d1<cLine):lq X z (compareOp .Eq) d1 d2 (.dat (.bl (cz d1 d2))):=by
 refine#[Rr z d1 d2 (cz d1 d2),?_,λg σ As M H v1 v2 Q s q1 q2 kk=>#[#[M,q1,q2],kk _ H As M s (ao.refl _ _) (.bl _)]]
 intro aj s σ H x y v u Q I rx ry h;obtain⟨⟨M,q1,q2⟩,q⟩:=h;rw[hK]at q1 q2;exact (Dw (dep d1) (eA _) (q1.dv I rx p1) (q2.dv I ry p2) hd).2 X.prog X.w X.xe _ #[.bl _,H,I,rfl,q]
section
theorem jk(hl:s.heap.IsList l us.toArray)(hb:s.heap.IsList b ws.toArray)(q:kJ s.heap ls us)(q':kJ s.heap ms ws)(hu:A.units<cLine)
  (he:∀(j:Nat) d1 d2 u1 u2,ls[j]?=!d1->Dv s.heap d1 u1->Dv s.heap d2 u2->SeqAt.EqAt A.in1 s u1 u2 (cz d1 d2)):SeqAt.RcNeAt A s (.ref l) (.ref b) ((not (cT ls ms))):=by
 have h1:=q.length;have h2:=q'.length;by_cases h:ls.length=ms.length
 .
  rw[<- lZ ls ms h];have e:us.toArray.size=ls.length:=by rw[eP,h1]
  rw[<- e];refine SeqAt.RcNeAt.lists hl hb (by rw[eP,eP];lia) hu λj g1 g2=>?_
  obtain⟨d1,e1,v1⟩:=q.get (j:=j) (u:=us[j]) (by simp[g1])
  obtain⟨d2,e2,v2⟩:=q'.get (j:=j) (u:=ws[j]) (by simp[g2])
  have:=he j d1 d2 us[j] ws[j] e1 v1 v2;simpa [OJ,e1,e2]using this
 . rw[mh ls ms h];refine SeqAt.RcNeAt.lists_lengths hl hb ?_ hu;rw[eP,eP];lia
theorem zR(hl:IsTup s.heap l us.toArray)(hb:IsTup s.heap b ws.toArray)(q:kJ s.heap ls us)(q':kJ s.heap ms ws)(hu:A.units<cLine)
  (he:∀(j:Nat) d1 d2 u1 u2,ls[j]?=!d1->Dv s.heap d1 u1->Dv s.heap d2 u2->SeqAt.EqAt A.in1 s u1 u2 (cz d1 d2)):SeqAt.RcNeAt A s (.ref l) (.ref b) ((not (cT ls ms))):=by
 have h1:=q.length;have h2:=q'.length;have e:us.toArray.size=ls.length:=by rw[eP,h1]
 have e':ws.toArray.size=ms.length:=by rw[eP,h2]
 rw[<- tR,<- e,<- e'];refine SeqAt.RcNeAt.tuples hl hb hu λj g1 g2=>?_
 obtain⟨d1,e1,v1⟩:=q.get (j:=j) (u:=us[j]) (by simp[g1])
 obtain⟨d2,e2,v2⟩:=q'.get (j:=j) (u:=ws[j]) (by simp[g2])
 have:=he j d1 d2 us[j] ws[j] e1 v1 v2;simpa [OJ,e1,e2]using this
end
theorem X6(x:Dv s.heap d1 u1)(y:Dv s.heap d2 u2)(hu:A.units+dep d1<cLine):SeqAt.RcNeAt A s u1 u2 ((not (cz d1 d2))):=by
 have bf:A.units<cLine:=by lia
 have el:∀{l:List D},deps l+1<=dep d1->∀(j:Nat) d1 d2 u1 u2,l[j]?=!d1->Dv s.heap d1 u1->Dv s.heap d2 u2->SeqAt.EqAt A.in1 s u1 u2 (cz d1 d2):=λhl j e1 e2 u1 u2 e v1 v2=>
  (Dw (dep e1) (eA _) v1 v2 (by rw[in1_units];have:=mj e;lia)).1
 cases x with
 |tup h q=>
  cases y with
  |tup h' q'=>exact zR h h' q q' bf (el (by simp[dep]))
  |lst h' q'=>exact .tuple_list h h' bf
  |fix h' q'=>exact .tuple_list h h' bf
  |non=>exact .tuple_none h bf
  |bl b=>exact .tuple_bool b h bf
  |int b t=>exact .tuple_int b t h bf
  |str b t=>exact .tuple_str b t h bf
 |lst h q=>
  cases y with
  |tup h' q'=>exact .list_tuple h h' bf
  |lst h' q'=>exact jk h h' q q' bf (el (by simp[dep]))
  |fix h' q'=>exact jk h h' q q' bf (el (by simp[dep]))
  |non=>exact .list_none h bf
  |bl b=>exact .list_bool b h bf
  |int b t=>exact .list_int b t h bf
  |str b t=>exact .list_str b t h bf
 |fix h q=>
  cases y with
  |tup h' q'=>exact .list_tuple h h' bf
  |lst h' q'=>exact jk h h' q q' bf (el (by simp[dep]))
  |fix h' q'=>exact jk h h' q q' bf (el (by simp[dep]))
  |non=>exact .list_none h bf
  |bl b=>exact .list_bool b h bf
  |int b t=>exact .list_int b t h bf
  |str b t=>exact .list_str b t h bf
 |non=>
  cases y with
  |non=>exact .none_none
  |bl c'=>exact .none_bool c'
  |int c' t'=>exact .none_int c' t'
  |str c' t'=>exact .none_str c' t'
  |tup h' q'=>exact .none_tuple h' bf
  |lst h' q'=>exact .none_list h' bf
  |fix h' q'=>exact .none_list h' bf
 |bl c=>
  cases y with
  |non=>exact .bool_none c
  |bl c'=>exact .bool_bool c c'
  |int c' t'=>exact .bool_int c c' t'
  |str c' t'=>exact .bool_str c c' t'
  |tup h' q'=>exact .bool_tuple c h' bf
  |lst h' q'=>exact .bool_list c h' bf
  |fix h' q'=>exact .bool_list c h' bf
 |int c t=>
  cases y with
  |non=>exact .int_none c t
  |bl c'=>exact .int_bool c t c'
  |int c' t'=>exact .int_int c t c' t'
  |str c' t'=>exact .int_str c t c' t'
  |tup h' q'=>exact .int_tuple c t h' bf
  |lst h' q'=>exact .int_list c t h' bf
  |fix h' q'=>exact .int_list c t h' bf
 |str c t=>
  cases y with
  |non=>exact .str_none c t
  |bl c'=>exact .str_bool c t c'
  |int c' t'=>exact .str_int c t c' t'
  |str c' t'=>exact .str_str c t c' t'
  |tup h' q'=>exact .str_tuple c t h' bf
  |lst h' q'=>exact .str_list c t h' bf
  |fix h' q'=>exact .str_list c t h' bf
theorem X7(hK:z.K=X.K)(p1:iA d1=true)(p2:iA d2=true)(hd:X.A.units+dep d1<cLine):lq X z (compareOp .NotEq) d1 d2 (.dat (.bl ((not (cz d1 d2))))):=by
 refine#[Rr z d1 d2 ((not (cz d1 d2))),?_,λg σ As M H v1 v2 Q s q1 q2 kk=>#[#[M,q1,q2],kk _ H As M s (ao.refl _ _) (.bl _)]]
 intro aj s σ H x y v u Q I rx ry h;obtain⟨⟨M,q1,q2⟩,q⟩:=h;rw[hK]at q1 q2;exact X6 (q1.dv I rx p1) (q2.dv I ry p2) hd X.prog X.w X.xe _ #[.bl _,H,I,rfl,q]
theorem Dy(q:Dv h d u):∀d' x,Dv h d' u->cz d x=cz d' x:=by
 have two:∀{l l':List D} (x:D),(∀m,cT l m=cT l' m)->cz (.lst l) x=cz (.lst l') x/\cz (.fix l) x=cz (.lst l') x/\cz (.lst l) x=cz (.fix l') x/\cz (.fix l) x=cz (.fix l') x:=λx k=>by
  cases x with
  |lst m=>exact#[k m,k m,k m,k m]
  |fix m=>exact#[k m,k m,k m,k m]
  |_=>exact#[rfl,rfl,rfl,rfl]
 refine Dv.rec (motive_2:=λl us _=>∀l' m,kJ h l' us->cT l m=cT l' m) ?_ ?_ ?_ ?_ ?_ ?_ ?_ ?_ ?_ q
 . intro d' x q;cases q;rfl
 . intro b d' x q;cases q;rfl
 . intro i t d' x q;cases q;rfl
 . intro y t d' x q;cases q;rfl
 .
  intro l a us k _ ih d' x q;cases q with
  |tup y q'=>
   cases pJ k y;cases x with
   |tup m=>exact ih _ m q'
   |_=>rfl
  |lst y _=>exact (cJ k y).elim
  |fix y _=>exact (cJ k y).elim
 .
  intro l a us k _ ih d' x q;cases q with
  |tup y _=>exact (cJ y k).elim
  |lst y q'=>cases bG k y;exact (two x λm=>ih _ m q').1
  |fix y q'=>cases bG k y;exact (two x λm=>ih _ m q').2.2.1
 .
  intro l a us k _ ih d' x q;cases q with
  |tup y _=>exact (cJ y k).elim
  |lst y q'=>cases bG k y;exact (two x λm=>ih _ m q').2.1
  |fix y q'=>cases bG k y;exact (two x λm=>ih _ m q').2.2.2
 . intro l' m q;cases q;rfl
 .
  intro d ds u us _ _ i1 i2 l' m q;cases q with
  |@cons d' l' _ _ b q'=>cases m with
   |nil=>rfl
   |cons y m=>show (cz d y&&cT ds m)=(cz d' y&&cT l' m);rw[i1 _ y b,i2 _ m q']
theorem J7(x:D)(q:Dv h d u)(q':Dv h d' u):cz d x=cz d' x:=Dy q d' x q'
open Classical in
def inE(h:Heap)(x:D)(u:Value):Bool:=decide (∃d,Dv h d u/\cz d x=true)
open Classical in
theorem Dz(q:Dv h d u):inE h x u=cz d x:=by
 unfold inE;cases e:cz d x with
 |true=>exact w9 #[d,q,e]
 |false=>refine u7 ?_;rintro⟨d',q',e'⟩;rw[J7 x q' q,e]at e';cases e'
theorem J8(q:kJ h l us):us.any (inE h x)=l.any λd=>cz d x:=by
 induction l generalizing us with
 |nil=>cases q;rfl
 |cons d l ih=>cases q with |cons a b=>rw[List.any_cons,List.any_cons,Dz a,ih b]
def rInD(z:Z)(d1 d2:D)(b:Bool):R2:=Rr z d1 d2 b
theorem Rt{A:Around}{s:Shared}{x:D}{u:Value}{l:List D}{us:List Value}(q:kJ s.heap l us)(hx:Dv s.heap x u)(hu:A.units+deps l+1<cLine):∀y,y∈us.toArray->SeqAt.EqAt A.in1 s y u (inE s.heap x y):=by
 intro y hy;have hy':y∈us:=by simpa using hy
 obtain⟨j,hj⟩:=List.getElem?_of_mem hy';obtain⟨d,e,qd⟩:=q.get hj;rw[Dz qd];have:=mj e;exact (Dw (dep d) (eA _) qd hx (by rw[in1_units];lia)).1
noncomputable def bF:D->Option (List D)
 |.lst l=>!l
 |.tup l=>!l
 |.fix l=>!l
 |_=>none
theorem Ru{aj: ~~~1}{σ:Sg}{M:List Addr}{H:Hp}{s:Shared}{d:D}{l:List D}{v:V}{u:Value}(I:L2.Inv X aj σ H s)(p:Pk X.K M H d v)(r:RelV v u)(hs:bF d=!l)(p2:iB l=true) :
  ∃a its,u=.ref a/\kJ s.heap l its/\its.length<=sizeLine/\(d=.tup l/\IsTup s.heap a its.toArray\/(d=.lst l\/d=.fix l)/\s.heap.IsList a its.toArray):=by
 cases d with
 |tup m=>cases hs;obtain⟨a,xs,rfl,ha,rr⟩:=p.tup;cases r;obtain⟨its,rv,pl,hz⟩:=I.tuple ha.sq;exact#[a,its,rfl,rr.dv I rv p2,rv.length▸hz,.inl #[rfl,pl]]
 |lst m=>cases hs;obtain⟨a,xs,rfl,ha,rr⟩:=p.list;cases r;obtain⟨its,rv,pl,hz⟩:=I.list (bD.of ha);exact#[a,its,rfl,rr.dv I rv p2,rv.length▸hz,.inr #[.inl rfl,pl.isList]]
 |fix m=>cases hs;obtain⟨a,xs,rfl,ha,rr⟩:=p.fix;cases r;obtain⟨its,rv,pl,hz⟩:=I.list ha.sq;exact#[a,its,rfl,rr.dv I rv p2,rv.length▸hz,.inr #[.inr rfl,pl.isList]]
 |_=>cases hs
theorem X8(hK:z.K=X.K)(hs:bF d2=!l)(p1:iA d1=true)(p2:iB l=true)(hd:X.A.units+deps l+1<cLine):lq X z (compareOp .In) d1 d2 (.dat (.bl (l.any λd=>cz d d1))):=by
 refine#[rInD z d1 d2 (l.any λd=>cz d d1),?_,λg σ As M H v1 v2 Q s q1 q2 kk=>#[#[M,q1,q2],kk _ H As M s (ao.refl _ _) (.bl _)]]
 intro aj s σ H x y v u Q I rx ry h;obtain⟨⟨M,q1,q2⟩,q⟩:=h;rw[hK]at q1 q2;obtain⟨a,its,rfl,BZ,_,t⟩:=Ru I q2 ry hs p2;have el:=Rt BZ (q1.dv I rx p1) hd;rw[<- J8 BZ,<- List.any_toArray]at q;rcases t with ⟨_,pl⟩ |⟨_,pl⟩
 . exact SeqAt.in_tupleAt _ pl el #[.bl _,H,I,rfl,q]
 . exact SeqAt.in_listAt _ pl el #[.bl _,H,I,rfl,q]
theorem Rv(h:l.length+m.length<=16777216):lq X z (binaryOp .Add) (.lst l) (.lst m) (.new (l++m)):=by
 refine#[_,QJ,λg σ As M H v1 v2 Q s q1 q2 kk=>?_]
 obtain⟨a,xs,rfl,ha,ra⟩:=q1.list;obtain⟨b,ys,rfl,hb,rb⟩:=q2.list;refine#[a,b,xs,ys,rfl,rfl,ha,hb,by rw[<- ra.length,<- rb.length];exact jh h,λp hp=>?_]
 exact kk _ _ As (p::M) (s.aW hp) (ao.aW hp) #[p,_,rfl,bP,λhA=>s.fresh hp (s.sub p hA),s.bW hp,aC,(ra.append rb).stay (ao.aW hp)]
theorem Rw(h1 : -(2 ^ 63)<=k)(h2:k<2 ^ 63)(h:l.length * k.toNat<=16777216):lq X z (binaryOp .Mult) (.lst l) (.int k) (.new (List.replicate k.toNat l).flatten):=by
 refine#[_,QK,λg σ As M H v1 v2 Q s q1 q2 kk=>?_]
 obtain⟨a,xs,rfl,ha,ra⟩:=q1.list;have rr:∀n,aG z.K M H (List.replicate n l).flatten (List.replicate n xs).flatten:=λn=>by
  induction n with
  |zero=>simp;exact .nil
  |succ n ih=>rw[A5,A5];exact ra.append ih
 refine#[a,k,xs,rfl,q2.int,ha,h1,h2,by rw[<- ra.length];exact jh h,λp hp=>?_]
 exact kk _ _ As (p::M) (s.aW hp) (ao.aW hp) #[p,_,rfl,bP,λhA=>s.fresh hp (s.sub p hA),s.bW hp,aC,(rr _).stay (ao.aW hp)]
def Rx(K:Frag):R2:=λx y H Q=>∃a b xs ys,x=.ref a/\y=.ref b/\fG K H a xs/\fG K H b ys/\xs.length+ys.length<=sizeLine/\
 (xs=[]->Q (.ref b) H)/\(xs≠[]->ys=[]->Q (.ref a) H)/\(xs≠[]->ys≠[]->∀p,H p=none->Q (.ref p) (upd H p (.tup (xs++ys))))
theorem DG:kD X (binaryOp .Add) (Rx X.K):=by
 intro aj s σ H x y v u Q I rx ry h;obtain⟨a,b,xs,ys,rfl,rfl,ha,hb,hz,q0,q1,q2⟩:=h;by_cases hx:xs=[]
 .
  subst hx;cases rx;cases ry;obtain⟨its,r1,p1,_⟩:=I.tuple ha;obtain⟨ou,r2,p2,_⟩:=I.tuple hb;cases r1;obtain⟨⟨cls,dd,data,sl⟩,ho,hc,n,hd⟩:=id p1;obtain⟨⟨cls2,dd2,data2,sl2⟩,ho2,hc2,n2,hd2⟩:=id p2;subst hc hd hc2 hd2;exact concat_meets #[_,ho,rfl] #[_,ho2,rfl] noFill_tuple_add seq_tuple_add DH Db (C0 _ _)
   (tuple_addW0 a b ([].toArray) ou.toArray n n2 dd dd2 sl sl2 ⋯) #[ho,ho2,#[.ref b,H,I,rfl,q0 rfl]]
 . exact JC aj s σ H (.ref a) (.ref b) v u Q I rx ry #[a,b,xs,ys,rfl,rfl,ha,hb,hx,hz,q1 hx,q2 hx]
theorem J9(hK:z.K=X.K)(h:l.length+m.length<=16777216):lq X z (binaryOp .Add) (.tup l) (.tup m) (.dat (.tup (l++m))):=by
 refine#[_,DG,λg σ As M H v1 v2 Q s q1 q2 kk=>?_]
 obtain⟨a,xs,rfl,ha,ra⟩:=q1.tup;obtain⟨b,ys,rfl,hb,rb⟩:=q2.tup;have la:=ra.length;have lb:=rb.length;refine#[a,b,xs,ys,rfl,rfl,hK▸ha.sq,hK▸hb.sq,by rw[<- la,<- lb];exact jh h,λe=>?_,λe1 e2=>?_,λe1 e2 p hp=>?_]
 .
  subst e;cases l with
  |nil=>exact kk _ H As M s (ao.refl _ _) (.tup hb rb)
  |cons _ _=>simp at la
 .
  subst e2;cases m with
  |nil=>rw[pV]at kk;exact kk _ H As M s (ao.refl _ _) (.tup ha ra)
  |cons _ _=>simp at lb
 . exact kk _ _ As M (s.laid hp) (ao.laid hp) (.tup (.inl #[s.fresh hp,.inl aC]) ((ra.append rb).stay (ao.laid hp)))
theorem mz{K:Frag}{M:List Addr}{H:Hp}{l:List D}{xs:List V}{i:Int}{d:D}(r:aG K M H l xs)(h:iS l i=!d):∃v,iS xs i=!v/\Rep K M H d v:=by
 unfold iS at h ⊢
 rw[<- r.length];cases e:Ca l.length i with
 |none=>rw[e]at h;symm
 |some j=>rw[e]at h;have h':=h;obtain⟨v,h1,h2⟩:=r.get h';exact#[v,h1,h2]
theorem Ry{l:List D}{i:Int}{d:D}(hK:z.K=X.K)(h:iS l i=!d):V9 X z (.lst l) (.int i) (.dat d):=by
 refine#[_,xT,λg σ As M H v1 v2 Q s q1 q2 kk=>?_]
 obtain⟨a,xs,rfl,ha,ra⟩:=q1.list;obtain⟨v,e,r⟩:=mz ra h;exact#[a,xs,i,v,rfl,q2.int,bD.of ha,e,kk _ H As M s (ao.refl _ _) r]
theorem Rz{l:List D}{i:Int}{d:D}(hK:z.K=X.K)(h:iS l i=!d):V9 X z (.fix l) (.int i) (.dat d):=by
 refine#[_,xT,λg σ As M H v1 v2 Q s q1 q2 kk=>?_]
 obtain⟨a,xs,rfl,ha,ra⟩:=q1.fix;obtain⟨v,e,r⟩:=mz ra h;exact#[a,xs,i,v,rfl,q2.int,hK▸ha.sq,e,kk _ H As M s (ao.refl _ _) r]
theorem Ka{l:List D}{i:Int}{d:D}(hK:z.K=X.K)(h:iS l i=!d):V9 X z (.tup l) (.int i) (.dat d):=by
 refine#[_,QF,λg σ As M H v1 v2 Q s q1 q2 kk=>?_]
 obtain⟨a,xs,rfl,ha,ra⟩:=q1.tup;obtain⟨v,e,r⟩:=mz ra h;exact#[a,xs,i,v,rfl,q2.int,hK▸ha.sq,e,kk _ H As M s (ao.refl _ _) r]
noncomputable def bu:List D->Option (~~~0)
 | []=>![]
 |.int i::l=>match bu l with |some ns=>!(i::ns) |none=>none
 |_::_=>none
theorem bx{K:Frag}{M:List Addr}{H:Hp}{l:List D}{xs:List V}{ns: ~~~0}(q:aG K M H l xs)(e:bu l=!ns):xs=ns.map V.int:=by
 induction l generalizing xs ns with
 |nil=>cases q;cases e;rfl
 |cons d l ih=>cases q with |cons r q=>cases d with
  |int i=>
   have e:(match bu l with |some ns=>!(i::ns) |none=>none)=!ns:=e
   cases e2:bu l with
   |none=>rw[e2]at e;cases e
   |some ns=>rw[e2]at e;cases e;cases r;rw[List.map_cons,ih q e2]
  |_=>cases e
theorem RB:UnD X z (unaryOp .USub) (.int i) (.dat (.int (-i))):=#[_,CW,λg σ As M H v Q s p k=>#[i,p.int,k _ H As M s (ao.refl _ _) (.int _)]]
end
section
theorem Ro.one{K:Frag}{M:List Addr}{H:Hp}{d:D}{vs:List V}(h:Ro K M H [d] vs):∃v,vs=[v]/\Pk K M H d v:=by cases h with |cons p q=>cases q;exact#[_,rfl,p]
noncomputable def Yb:D->Option Nat
 |.lst l=>!l.length
 |.tup l=>!l.length
 |.fix l=>!l.length
 |_=>none
theorem RC{d:D}{n:Nat}(hK:z.K=X.K)(h:Yb d=!n):CallD X z (.builtin "len") [d] ‹n›:=by
 refine#[_,Dc,λg σ As M H vs Q s p k=>?_]
 obtain⟨v,rfl,pv⟩:=p.one;refine#[v,n,rfl,?_,k _ H As M s (ao.refl _ _) (.int _)];cases d with
 |lst l=>symm;obtain⟨a,xs,rfl,ha,r⟩:=pv.list;exact .inl #[xs,bD.of ha,r.length]
 |fix l=>symm;obtain⟨a,xs,rfl,ha,r⟩:=pv.fix;exact .inl #[xs,hK▸ha.sq,r.length]
 |tup l=>symm;obtain⟨a,xs,rfl,ha,r⟩:=pv.tup;exact .inr #[xs,hK▸ha.sq,r.length]
 |_=>symm
theorem Kc{d:D}{l:List D}(hK:z.K=X.K)(h:bF d=!l):CallD X z (.type "list") [d] (.new l):=by
 refine#[_,qP,λg σ As M H vs Q s p k=>?_]
 obtain⟨v,rfl,pv⟩:=p.one;have fin:∀xs,aG z.K M H l xs->∀p,H p=none->Q (.ref p) (upd H p (.lst xs)):=λxs r p hp=>
  k _ _ As (p::M) (s.aW hp) (ao.aW hp) #[p,xs,rfl,bP,λhA=>s.fresh hp (s.sub p hA),s.bW hp,aC,r.stay (ao.aW hp)]
 cases d with
 |lst m=>symm;obtain⟨a,xs,rfl,ha,r⟩:=pv.list;exact#[a,xs,rfl,.inl (bD.of ha),fin xs r]
 |fix m=>symm;obtain⟨a,xs,rfl,ha,r⟩:=pv.fix;exact#[a,xs,rfl,.inl (hK▸ha.sq),fin xs r]
 |tup m=>symm;obtain⟨a,xs,rfl,ha,r⟩:=pv.tup;exact#[a,xs,rfl,.inr (hK▸ha.sq),fin xs r]
 |_=>symm
theorem DK{d:D}{l:List D}(hK:z.K=X.K)(h:bF d=!l):CallD X z (.type "tuple") [d] (.dat (.tup l)):=by
 refine#[_,oG,λg σ As M H vs Q s p k=>?_]
 obtain⟨v,rfl,pv⟩:=p.one;have fin:∀xs,aG z.K M H l xs->∀p,H p=none->Q (.ref p) (upd H p (.tup xs)):=λxs r p hp=>
  k _ _ As M (s.laid hp) (ao.laid hp) (.tup (.inl #[s.fresh hp,.inl aC]) (r.stay (ao.laid hp)))
 cases d with
 |lst m=>symm;obtain⟨a,xs,rfl,ha,r⟩:=pv.list;exact#[a,xs,rfl,.inl #[bD.of ha,fin xs r]]
 |fix m=>symm;obtain⟨a,xs,rfl,ha,r⟩:=pv.fix;exact#[a,xs,rfl,.inl #[hK▸ha.sq,fin xs r]]
 |tup m=>symm;obtain⟨a,xs,rfl,ha,r⟩:=pv.tup;exact#[a,xs,rfl,.inr #[hK▸ha.sq,k _ H As M s (ao.refl _ _) (.tup ha r)]]
 |_=>symm
end
section
theorem mC(hc:X.calm=true):bV X (.builtin "all") (λxs H Q=>∃(p:Addr) (bs:List Bool),xs=[.ref p]/\bD X.K H p (bs.map V.bl)/\Q (.bl (bs.all id)) H):=by
 intro aj s σ H xs us Q I r h;obtain⟨p,bs,rfl,hp,q⟩:=h;obtain⟨u,rfl,rx⟩:=vals1 r;cases rx;obtain⟨its,rv,pl,hz⟩:=I.list hp;have hlt:p<s⁻¹:=by obtain⟨_,e,_⟩:=pl.isList;exact fI e
 have aM:its.length=bs.length:=by rw[<- rv.length,dE]
 have up:∀b o,s.heap.get? b=!o->(s.heap.push { cls:=.type "list_iterator",data:=.fields ([.ref p,.int 0 0].toArray)}).get? b=!o:=λb o e=>a7 _ e
 refine call_all_walk (AR pl.isList ?_);refine#[s⁻¹,_,_,_,_,_,λi=>bs.getD i true,rfl,EV (show X.A.in1.handled=none from I.ok.hd hc) s⁻¹ p (i6 hlt) its.toArray,#[#[_,dC _ rfl,rfl,rfl],pl.isList.push _],?_,λh' tk hk=>?_]
 .
  intro i v s' Q' E' hv hq;have hv':its[i]?=!v:=by simpa using hv
  have hi:i<bs.length:=by rw[<- aM];exact (eJ.mp hv').1
  obtain⟨w,e1,e2⟩:=rv.get (i:=i) (x:=V.bl bs[i]) (by simp[hi])
  rw[hv']at e1;cases e1;cases e2;refine t8 ?_;have:bs.getD i true=bs[i]:=by simp[hi]
  rw[<- this];exact hq
 .
  have I1:L2.Inv X aj σ H { s with heap:=h',toks:=tk}:=I.kept λb o e=>hk b o (λhm=>by
   have:b=s⁻¹:=by simpa using hm
   exact absurd (fI e) (by rw[this];exact yA _)) (up b o e)
  refine#[.bl (bs.all id),H,I1,?_,q];have e:(List.range its.toArray.size).all (λi=>bs.getD i true)=bs.all id:=by
   rw[eP,aM];rw[Do];simp only[mE,w8];constructor
   . intro h b hb;obtain⟨j,hj⟩:=List.getElem?_of_mem hb;have hj':=(eJ.mp hj).1;have:=h j hj';simpa [List.getD,hj]using this
   . intro h i hi;have:=h bs[i] (BA hi);simpa [List.getD,hi]using this
  rw[e];rfl
noncomputable def tT:List D->Option (List Bool)
 | []=>![]
 |.bl b::l=>match tT l with |some bs=>!(b::bs) |none=>none
 |_::_=>none
theorem DN{K:Frag}{M:List Addr}{H:Hp}{l:List D}{xs:List V}{ns:List Bool}(q:aG K M H l xs)(e:tT l=!ns):xs=ns.map V.bl:=by
 induction l generalizing xs ns with
 |nil=>cases q;cases e;rfl
 |cons d l ih=>cases q with |cons r q=>cases d with
  |bl i=>
   have e:(match tT l with |some ns=>!(i::ns) |none=>none)=!ns:=e
   cases e2:tT l with
   |none=>rw[e2]at e;cases e
   |some ns=>rw[e2]at e;cases e;cases r;rw[List.map_cons,ih q e2]
  |_=>cases e
theorem RD{l:List D}{bs:List Bool}(hc:X.calm=true)(h:tT l=!bs):CallD X z (.builtin "all") [.lst l] (.dat (.bl (bs.all id))):=by
 refine#[_,mC hc,λg σ As M H vs Q s p k=>?_]
 obtain⟨v,rfl,pv⟩:=p.one;obtain⟨a,xs,rfl,ha,r⟩:=pv.list;have e:=DN r h;subst e;exact#[a,bs,rfl,bD.of ha,k _ H As M s (ao.refl _ _) (.bl _)]
end
noncomputable def wk:D->String
 |.non=> "NoneType" |.bl _=> "bool" |.int _=> "int" |.str _=> "str" |.tup _=> "tuple" |.lst _=> "list" |.fix _=> "list" |.emp _=> "dict" |.kF _=> "" |.Dr ..=> "dict"
def Cb:D->Value
 |.kF C=>.ref C
 |d=>.type (wk d)
theorem zS{M:Model}{A:Around}{E:Value->Shared->Prop}{K:Frag}{x C:Addr}{ox:Obj}{nv:Value}{Q:Unit->Shared->Prop}{s:Shared}(X:K.In s.heap)(I:PySem.W.InstAt s.heap x ox C none)(hb:PySem.W.mroIn K C (.type "BaseException")=!true)(hq:Q () s) :
  wpAny M A (checkBuiltinCall "BaseException.__getattribute__" #[[.ref x,nv],[]]) Q E s:=by
 have kd:builtinKind "BaseException.__getattribute__"=some .slot:=by decide +kernel
 have sd:splitId "BaseException.__getattribute__"=!("BaseException", "__getattribute__"):=by decide +kernel
 obtain⟨hv,ge,dr,tk,o'⟩:=s;have l0:=I.type (M:=M);have l1:=PySem.W.looks_mroIn (M:=M) X hb;simp only[checkBuiltinCall];refine aS (aS (l0.at (l1.at ?_)))
 repeat (any_goals (first |assumption |wp_step))
theorem DP{prog:Program}{w:World}{A:Around}{E:Value->Shared->Prop}{K:Frag}{x C:Addr}{ox:Obj}{name:Str}{g a:Value}{Q:Option Value->Shared->Prop}{s:Shared}(X:K.In s.heap)(I:PySem.W.InstAt s.heap x ox C none)
  (hga:PySem.W.findIn K (.ref C) "__getattribute__"=!(!(.builtin "BaseException.__getattribute__"))) (hk:PySem.W.findIn K (.ref C) "__getattr__"=!none) (hb:PySem.W.mroIn K C (.type "BaseException")=!true) (hf:PySem.W.findObj K C none name=!(.bind g a))
  (h:wpAny (model prog w) A.in1 (call g [a,.ref x,.ref C]) (λv s'=>wpAny (model prog w) A (handedOut v) (λv s''=>Q (!v) s'') (λ_ _=>False) s') (λ_ _=>False) { s with toks:=s.toks+1}) :
  wpAny (model prog w) A (getAttr? (.ref x) name) Q E s:=by
 obtain⟨hv,ge,dr,tk,o'⟩:=s;have l0:=I.type (M:=model prog w);have l1:=PySem.W.looks_findIn (M:=model prog w) X hga;have l2:=PySem.W.looks_findIn (M:=model prog w) X hk;have l3:=PySem.W.looks_find (M:=model prog w) X I hf;have f3:=F.excAttr_ValueError.ga.bind (.ref x);refine aS (wpAny_mkText (aS (BD (sB (aS (l0.at (aS (l1.at ?_))))))));refine aS (l2.at (aS (BD (sB ?_))));show wpAny _ _ (boundAndCalled _ _ _) _ _ _;unfold boundAndCalled;refine aS (dL (DM (codeAny_call_builtin F.excAttr_ValueError.ga.plain F.entry_bexc_ga (zS X I hb ?_))));refine aS (dL (aS (dL (aS (l0.at (aS (l3.at ?_)))))));refine aS (sB (qS h (λv s' z=>dL ?_) λ_ _ z=>z.elim))
 exact qS z (λv s'' hv=>dL hv) (λ_ _ z=>z.elim)
theorem jN{K:Frag}{C:Addr}(k:Iw K C):∃c d cd sl,K.lookup C=!#[c,d,.cls cd,sl]/\PySem.W.clsIn K C=!cd:=by
 obtain⟨cd,hc,_⟩:=PySem.W.any_some k.dct;have hc':=hc;unfold PySem.W.clsIn at hc;split at hc
 . rename_i c d cd' sl ho;cases hc;exact#[c,d,cd,sl,ho,hc']
 . cases hc
theorem tU{K:Frag}{x C:Addr}(k:Iw K C):PySem.W.KitX K (.ref x) (.ref C) (λh=>∃ox,PySem.W.InstAt h x ox C none) where
 ty:=by rintro _ _ _ ⟨_,I⟩;exact I.type
 it:=λ_ _ X _=>by
  obtain⟨c,d,cd,sl,ho,_⟩:=jN k;intro A' Q' E' s' kp q;refine aS ?_;refine wpAny_loadPart (kp _ _ (X _ _ ho)) ?_;exact dL q
 ne:=λh tp dd its n sl X htp=>by
  obtain⟨c,d,cd,sl',ho,_⟩:=jN k;cases q:(Value.ref C==Value.ref tp)with
  |false=>rfl
  |true=>have e:=Value.ref.inj (C5.mp q);subst e;have y:=(X _ _ ho).symm.trans htp;cases y
 ca:=λ{prog w A E Q s} X #[ox,I] h=>by
  obtain⟨_,_,cd,_,_,hc⟩:=jN k;have hf:PySem.W.findObj K C none "__class__"=!(.bind (.builtin "getset_descriptor.__get__") (.builtin "object.__class__")):=by unfold PySem.W.findObj;rw[hc,k.cls];simp[k.spc,k.tks]
  refine DP X I k.gga k.gat k.bas hf (DM ?_);exact PySem.W.class_get X I k.mro (PySem.W.handed_on rfl h)
section
theorem DQ(I:L2.Inv X aj σ H s)(p:Pk X.K M H d v)(r:RelV v u)
  (e:PySem.W.kitOne X.K (Cb d) c=!b) (h:∀tk,Q (.bool b) { s with toks:=tk}):wpAny (~~~2) A (call (.builtin "isinstance") [u,c]) Q E s:=by
 cases d with
 |non=>have q:=p.non;subst q;cases r;exact AO PySem.W.kitx_none I.oA True.intro e (λz=>nomatch z) h
 |bl y=>have q:=p.bl;subst q;cases r;exact AO PySem.W.kitx_bool I.oA True.intro e (λz=>nomatch z) h
 |int i=>have q:=p.int;subst q;obtain⟨t,rfl⟩:=r;exact AO PySem.W.kitx_int I.oA True.intro e (λz=>nomatch z) h
 |str y=>have q:=p.str;subst q;obtain⟨t,rfl⟩:=r;exact AO PySem.W.kitx_str I.oA True.intro e (λz=>nomatch z) h
 |tup l=>obtain⟨a,xs,rfl,ha,_⟩:=p.tup;cases r;obtain⟨its,_,⟨o,h1,h2,_⟩,_⟩:=I.tuple ha.sq;exact AO PySem.W.kitx_tuple I.oA #[o,h1,h2] e (λz=>nomatch z) h
 |lst l=>obtain⟨a,xs,rfl,ha,_⟩:=p.list;cases r;obtain⟨its,_,pl,_⟩:=I.list (bD.of ha);obtain⟨o,h1,h2,_⟩:=pl.isList;exact AO DU I.oA #[o,h1,h2] e (λz=>nomatch z) h
 |fix l=>obtain⟨a,xs,rfl,ha,_⟩:=p.fix;cases r;obtain⟨its,_,pl,_⟩:=I.list ha.sq;obtain⟨o,h1,h2,_⟩:=pl.isList;exact AO DU I.oA #[o,h1,h2] e (λz=>nomatch z) h
 |emp m=>
  cases p with
  |of q=>
   cases q with
   |emp _ ha=>cases r;obtain⟨_,_,_,vs,_,o,es,ep,h1,h2,_⟩:=I.hok _ _ ha;exact AO DV I.oA #[o,h1,h2.1] e (λz=>nomatch z) h
 |kF C=>
  cases p with
  |of q=>
   cases q with
   |kF k _ ha=>cases r;obtain⟨⟨o,h1,h2,h3,h4⟩,_⟩:=I.hok _ _ ha;exact AO (tU k) I.oA #[o,h1,h2,h3,by rw[h4];trivial] e (λz=>nomatch z) h
 |Dr ks ds=>
  cases p with
  |of q=>
   cases q with
   |Dr _ ha _ _=>cases r;obtain⟨_,_,vs,_,o,es,ep,h1,h2,_⟩:=I.hok _ _ ha;exact AO DV I.oA #[o,h1,h2.1] e (λz=>nomatch z) h
theorem DR:bV X (.builtin "isinstance") (λxs H Q=>∃x n M d b,xs=[x,.ty n]/\Pk X.K M H d x/\PySem.W.kitOne X.K (Cb d) (.type n)=!b/\Q (.bl b) H):=by intro aj s σ H xs us Q I r h;obtain⟨x,n,M,d,b,rfl,p,e,q⟩:=h;obtain⟨u,w',rfl,r1,r2⟩:=vals2 r;cases r2;exact DQ I p r1 e λtk=>#[.bl b,H,I.tok tk,rfl,q]
theorem RJ(hK:z.K=X.K)(h:aA X z a g r1 g1)(hp:pk r1 g1=!d)(he:∀M H v,Pk X.K M H d v->PySem.W.kitOne X.K (Cb d) (.type n)=!b)
  (hg:Gl X "isinstance") (hm:X.mg "isinstance"=none) (hv:bootBuiltins "isinstance"=!(.builtin "isinstance")) (gT:Gl X T) (mT:X.mg T=none) (vT:bootBuiltins T=!(.type n)) (nT:T≠ "__name__") (dT:(T==(~~~3))=false)
  (hs:starEach [a,.Name T pT] X.env=(false,eval a X.env)::starEach [.Name T pT] X.env):aA X z (.Call (.Name "isinstance" p) [a,.Name T pT] [] pos) g (.dat (.bl b)) g1:=by
 obtain⟨t,q,k⟩:=h;have pT':PE X (.Name T pT) (tC (.ty n)):=qF gT mT vT rfl nT dT;refine#[_,jf DR hg hm hv (bB q (bB pT' eS) hs) ⋯ ⋯ hs,λσ As M H Q s kk=>k σ As M H _ s λv H' aB M' s' st R=>?_]
 have p:=hK▸s'.pk (ao.refl _ _) R hp;exact#[v,n,M',d,b,rfl,p,he _ _ _ p,kk _ H' aB M' s' st (.bl b)]
end
inductive Fl where
 |nx |rt (r:R) |bk |ct
def pK(z:Z)(M:List Addr)(H:Hp)(E:Ends)(g':G):Fl->Prop
 |.nx=>∀σ' aB M' H',S z g' σ' aB M' H'->ao M H M' H'->E.nx σ' H'
 |.bk=>∀σ' aB M' H',S z g' σ' aB M' H'->ao M H M' H'->E.bk σ' H'
 |.ct=>∀σ' aB M' H',S z g' σ' aB M' H'->ao M H M' H'->E.ct σ' H'
 |.rt r=>∀v σ' aB M' H',S z g' σ' aB M' H'->ao M H M' H'->cH z g' σ' aB M' H' r v->E.rt v H'
def fD(X:Cx)(z:Z)(st:Stmt)(g:G)(f:Fl)(g':G):Prop:=
 ∃t,PS X st t/\∀σ As M H E,S z g σ As M H->pK z M H E g' f->t E σ H
def eV(X:Cx)(z:Z)(ig:List Stmt)(g:G)(f:Fl)(g':G):Prop:=
 ∃t,sO X ig t/\∀σ As M H E,S z g σ As M H->pK z M H E g' f->t E σ H
section
variable{st:Stmt}
theorem pK.trans(st:ao M H M1 H1)(h:pK z M H E g' f):pK z M1 H1 E g' f:=by
 cases f with
 |nx=>exact λσ' aB M' H' s' st'=>h σ' aB M' H' s' (st.trans st')
 |bk=>exact λσ' aB M' H' s' st'=>h σ' aB M' H' s' (st.trans st')
 |ct=>exact λσ' aB M' H' s' st'=>h σ' aB M' H' s' (st.trans st')
 |rt r=>exact λv σ' aB M' H' s' st' R=>h v σ' aB M' H' s' (st.trans st') R
theorem RK:eV X z [] g .nx g:=#[_,xM,λσ As M H E s k=>k σ As M H s (ao.refl _ _)]
theorem Kd(h1:fD X z st g .nx g1)(h2:eV X z ig g1 f g2):eV X z (st::ig) g f g2:=by obtain⟨t1,q1,k1⟩:=h1;obtain⟨t2,q2,k2⟩:=h2;exact#[_,cZ q1 q2,λσ As M H E s k=>k1 σ As M H _ s λσ' aB M' H' s' st'=>k2 σ' aB M' H' E s' (k.trans st')]
theorem RL(h1:fD X z st g (.rt r) g1):eV X z (st::ig) g (.rt r) g1:=by obtain⟨t1,q1,k1⟩:=h1;exact#[_,cZ q1 bw,λσ As M H E s k=>k1 σ As M H _ s k]
theorem RM(h1:fD X z st g .bk g1):eV X z (st::ig) g .bk g1:=by obtain⟨t1,q1,k1⟩:=h1;exact#[_,cZ q1 bw,λσ As M H E s k=>k1 σ As M H _ s k]
theorem RN(h1:fD X z st g .ct g1):eV X z (st::ig) g .ct g1:=by obtain⟨t1,q1,k1⟩:=h1;exact#[_,cZ q1 bw,λσ As M H E s k=>k1 σ As M H _ s k]
theorem RP(h:aA X z e g r g1):fD X z (.Return (!e) pos) g (.rt r) g1:=by obtain⟨t,q,k⟩:=h;exact#[_,vW q,λσ As M H E s kk=>k σ As M H _ s λv H' aB M' s' st R=>kk v σ aB M' H' s' st R]
theorem Ke(h:aA X z e g r g1)(hs:swapsWith e none pos.line X.env=pure false):fD X z (.Expr e pos) g .nx g1:=by obtain⟨t,q,k⟩:=h;exact#[_,xN q hs,λσ As M H E s kk=>k σ As M H _ s λv H' aB M' s' st R=>kk σ aB M' H' s' st]
theorem O1(h:cI X z c g v g1)(h2:eV X z (if v then a else b) g1 f g2):fD X z (.If c a b pos) g f g2:=by
 obtain⟨t,q,k⟩:=h;obtain⟨t2,q2,k2⟩:=h2;cases v with
 |true=>exact#[_,oZ q q2 bw,λσ As M H E s kk=>k σ As M H _ s λH' aB M' s' st=>qR (k2 σ aB M' H' E s' (kk.trans st))]
 |false=>exact#[_,oZ q bw q2,λσ As M H E s kk=>k σ As M H _ s λH' aB M' s' st=>qQ (k2 σ aB M' H' E s' (kk.trans st))]
theorem Kf(hN:X.N.Nodup)(hi:X.N[i]?=!x)(hx:Loc X.env.scope x)(h:aA X z e g (.dat d) g1)(hs:swapsWith e (!(.Name x pos')) pos.line X.env=pure false)(hf:X.fn x=true\/X.env.scope.names.lookup x=some .local)(hb:i∉z.bor) :
  fD X z (.Assign [.Name x pos'] e pos) g .nx (g1.set i (.dat d)):=by
 obtain⟨t,q,k⟩:=h;refine#[_,lT hN hi hx q hs hf,λσ As M H E s kk=>k σ As M H _ s λv H' aB M' s' st R=>?_]
 obtain⟨bE,s2⟩:=s'.fM hb R;exact kk _ bE M' H' s2 st
theorem Kg(hN:X.N.Nodup)(hi:X.N[i]?=!x)(hx:Loc X.env.scope x)(h:aA X z e g (.new l) g1)(hl:i<g1.length)(hs:swapsWith e (!(.Name x pos')) pos.line X.env=pure false)(hf:X.fn x=true\/X.env.scope.names.lookup x=some .local)(hb:i∉z.bor) :
  fD X z (.Assign [.Name x pos'] e pos) g .nx (g1.set i (.own l)):=by
 obtain⟨t,q,k⟩:=h;refine#[_,lT hN hi hx q hs hf,λσ As M H E s kk=>k σ As M H _ s λv H' aB M' s' st R=>?_]
 obtain⟨a,xs,rfl,hm,hA,h0,ha,rr⟩:=R;obtain⟨bE,s2⟩:=s'.qV hb hl hm hA h0 ha rr;exact kk _ bE M' H' s2 st
end
def tAny(X:Cx)(ig:List Stmt):TS:=λE σ H=>∃t,sO X ig t/\t E σ H
theorem xY{X:Cx}{ig:List Stmt}:sO X ig (tAny X ig):=λaj s σ H E I h=>let #[t,q,k]:=h;q aj s σ H E I k
section
theorem drop_cons{α:Type}{l:List α}{n:Nat}{a:α}(h:l[n]?=!a):l.drop n=a::l.drop (n+1):=by obtain⟨h1,h2⟩:=eJ.mp h;rw[AI h1,h2]
end
noncomputable def iC(lo:Int)(n:Nat):List D:=(List.range n).map λ(k:Nat)=>D.int (lo+(k:Int))
section
theorem DS{lo:Int}{n k:Nat}(h:k<n):(iC lo n)[k]?=!(.int (lo+(k:Int))):=by unfold iC;rw[oC,List.getElem?_range h];rfl
theorem tV{lo:Int}{n:Nat}:(iC lo n).length=n:=by unfold iC;simp
theorem zT(h:cu X z [a] g [‹j›] g1)(hg:Gl X "range")(hm:X.mg "range"=none)(hs:starEach [a] X.env=[(false,eval a X.env)])(h1 : -(2 ^ 62)<=j)(h2:j<2 ^ 62) :
  ∃wi,PI X tg (.Call (.Name "range" p) [a] [] rp) wi/\∀σ As M H (Q:It->Hp->Prop),S z g σ As M H->(∀H' aB M',S z g1 σ aB M' H'->ao M H M' H'->Q (Qp 0 j.toNat) H')->wi σ H Q:=by
 obtain⟨t,q,k⟩:=h;refine#[_,o7 hg hm q hs,λσ As M H Q s kk=>k σ As M H _ s λvs H' aB M' s' st R=>?_]
 cases R with
 |dat r R=>cases R;cases r;exact#[j,rfl,h1,h2,kk H' aB M' s' st]
theorem zU(h:cu X z [a,b] g [‹c›,‹j›] g1)(hg:Gl X "range")(hm:X.mg "range"=none)(hs:starEach [a,b] X.env=[(false,eval a X.env),(false,eval b X.env)])(hs2:starEach [b] X.env=[(false,eval b X.env)])
  (h1 : -(2 ^ 62)<=c/\c<2 ^ 62/\-(2 ^ 62)<=j/\j<2 ^ 62) {tg:Expr} :
  ∃wi,PI X tg (.Call (.Name "range" p) [a,b] [] rp) wi/\∀σ As M H (Q:It->Hp->Prop),S z g σ As M H->(∀H' aB M',S z g1 σ aB M' H'->ao M H M' H'->Q (Qp c (j - c).toNat) H')->wi σ H Q:=by
 obtain⟨t,q,k⟩:=h;refine#[_,zD hg hm q hs hs2,λσ As M H Q s kk=>k σ As M H _ s λvs H' aB M' s' st R=>?_]
 cases R with
 |dat r R=>cases R with |dat r2 R=>cases R;cases r;cases r2;exact#[c,j,rfl,h1,kk H' aB M' s' st]
end
section
theorem zV(hN:X.N[i]?=!x)(hv:sW X.env.scope x)(hd:(x==(~~~3))=false)(bM:(x==("__classdict__":Str))=false)(hg:g[i]?=!(.own l0))(h:cu X z [e] g [.dat d] g1)(zW:g1[i]?=!(.own l))(hl:l.length<16777216)
  (hbase:attributeBase (.Name x pn) "append" X.env (eval (.Name x pn) X.env)=eval (.Name x pn) X.env)
  (hline:(dB.endLine==cM.line)=true) (hs:starEach [e] X.env=(false,eval e X.env)::starEach [] X.env):aA X z (.Call (.Attribute (.Name x pn) "append" dB) [e] [] cM) g (.dat .non) (g1.set i (.own (l++[d]))):=by
 obtain⟨t,q,k⟩:=h;refine#[_,Dh PySem.F.plainAttrs_list PySem.F.slot_list_append PySem.F.type_list_append pF (fK hN hv hd bM) q hbase (by rw[hs];rfl) hline hs rfl,λσ As M H Q s kk=>?_]
 obtain⟨a,xs,e1,e2,e3,e4⟩:=s.sl.at hg;refine#[.ref a,e1,.inl #[rfl,xs,bD.of e3],k σ As M H _ s λvs H' aB M' s' st R=>?_]
 obtain⟨b,ys,f1,f2,f3,f4⟩:=s'.sl.at zW;rw[e1]at f1;injection f1 with f1;injection f1 with f1;injection f1 with f1;subst f1;cases R with
 |dat r R=>
  cases R;refine#[a,ys,_,rfl,rfl,f3,by rw[<- f4.length];exact hl,?_]
  obtain⟨s2,aL⟩:=s'.write zW e1 (f4.append (.cons r .nil));exact kk _ _ aB M' s2 (st.trans aL) .non
end
section
theorem Kh(hN:X.N[i]?=!x)(hv:sW X.env.scope x)(hd:(x==(~~~3))=false)(bM:(x==("__classdict__":Str))=false)(h:aA X z e g (.dat d) g1)(zW:g1[i]?=!(.own l0))(h2:aA X z ix g1 ‹k› g2)(Kl:g2[i]?=!(.own l))(hj:Ca l.length k=!j)
  (ha:∀v,assign (.Subscript (.Name x pn) ix fZ) X.env v=(do
   let ov <- holding [v] (eval (.Name x pn) X.env)
   let iv <- holding [v,ov] (eval ix X.env)
   standAt fZ
   holding [v,ov,iv] (setItem ov iv v)
   release [v,ov,iv] []))
  (hs:swapsWithSole [.Subscript (.Name x pn) ix fZ] e pos.line X.env=pure false) (hw:swappedStores [.Subscript (.Name x pn) ix fZ] e X.env=pure none)
  (h1:(assignEach [.Subscript (.Name x pn) ix fZ] X.env).map (·.2)=[assign (.Subscript (.Name x pn) ix fZ) X.env]) :
  fD X z (.Assign [.Subscript (.Name x pn) ix fZ] e pos) g .nx (g2.set i (.own (l.set j d))):=by
 obtain⟨t,q,kk⟩:=h;obtain⟨t2,q2,k2⟩:=h2;refine#[_,Qm q (Qk (fK hN hv hd bM) q2 set_list ha) hs hw h1,λσ As M H E s kE=>kk σ As M H _ s λv H1 aN M1 s1 bS R1=>?_]
 obtain⟨a,xs,e1,e2,e3,e4⟩:=s1.sl.at zW;refine#[.ref a,e1,k2 σ aN M1 H1 _ s1 λw H2 bE M2 s2 aL R2=>?_]
 obtain⟨b,ys,f1,f2,f3,f4⟩:=s2.sl.at Kl;rw[e1]at f1;injection f1 with f1;injection f1 with f1;injection f1 with f1;subst f1;have R2':=R2;cases R2';refine#[a,ys,k,j,rfl,rfl,f3,by rw[<- f4.length];exact hj,?_]
 obtain⟨s3,fy⟩:=s2.write Kl e1 (aG.set (Rep.stay aL R1) j f4);exact kE σ bE M2 _ s3 (bS.trans (aL.trans fy))
end
noncomputable def cL:List R->G->Option G
 | [],_=>![]
 |.dat d::rs,g=>match cL rs g with |some gs=>!(.dat d::gs) |none=>none
 |.var i::rs,g=>match g[i]? with
  |!(.own l)=>match cL rs g with |some gs=>!(.own l::gs) |none=>none
  |_=>none
 |.new _::_,_=>none
noncomputable def vars:Nat->List R->List (Nat×Nat)
 |_,[]=>[]
 |j,.var i::rs=>(j,i)::vars (j+1) rs
 |j,.dat _::rs=>vars (j+1) rs
 |j,.new _::rs=>vars (j+1) rs
noncomputable def back:List (Nat×Nat)->G->G->Option G
 | [],_,g=>!g
 | (j,i)::ps,gc,g=>match gc[j]? with
  |!(.own l)=>back ps gc (g.set i (.own l))
  |_=>none
def bX(bor:List Nat)(g':G):R->Option R
 |.dat d=>!(.dat d)
 |.new l=>!(.new l)
 |.var j=>if j∈bor then none else match g'[j]? with |!(.own l)=>!(.new l) |_=>none
noncomputable def adr(σ:Sg)(i:Nat):Addr:=match σ[i]? with |!(!(.ref a))=>a |_=>0
theorem iD(h:σ[i]?=!(!(.ref a))):adr σ i=a:=by unfold adr;rw[h]
def bJ(σ:Sg)(ps:List (Nat×Nat)):List (Nat×Addr):=ps.map λp=>(p.1,adr σ p.2)
noncomputable def cO(n:Nat)(gs:G):G:=gs++List.replicate (n - gs.length) .no
theorem Slots.append{K:Frag}{M:List Addr}{H:Hp}{g1 g2:G}{σ1 σ2:Sg}{A1 A2:List Addr}(p:Slots K M H g1 σ1 A1)(q:Slots K M H g2 σ2 A2):Slots K M H (g1++g2) (σ1++σ2) (A1++A2):=by
 induction p with
 |nil=>exact q
 |no p ih=>exact .no ih
 |dat r p ih=>exact .dat r ih
 |own e r p ih=>exact .own e r ih
theorem Slots.nos{K:Frag}{M:List Addr}{H:Hp}:∀(n:Nat),Slots K M H (List.replicate n .no) (List.replicate n none) []
 | 0=>.nil
 |n+1=>by rw[A5];exact .no (Slots.nos n)
section
theorem Slots.xZ{K:Frag}{g:G}{σ:Sg}{As:List Addr}{i j:Nat}{a:Addr}{l l':List D}(q:Slots K M H g σ As)(nd:As.Nodup)(e1:g[i]?=!(.own l))(e2:g[j]?=!(.own l'))(e3:σ[i]?=!(!(.ref a)))(e4:σ[j]?=!(!(.ref a))):i=j:=by
 induction q generalizing i j with
 |nil=>exact nomatch (show none=!(Slot.own l)from e1)
 |no q ih=>cases i with
  |zero=>exact nomatch (show some Slot.no=!(Slot.own l)from e1)
  |succ i=>cases j with
   |zero=>exact nomatch (show some Slot.no=!(Slot.own l')from e2)
   |succ j=>exact congrArg (· + 1) (ih nd e1 e2 e3 e4)
 |dat r q ih=>cases i with
  |zero=>exact nomatch (show some (Slot.dat _)=!(Slot.own l)from e1)
  |succ i=>cases j with
   |zero=>exact nomatch (show some (Slot.dat _)=!(Slot.own l')from e2)
   |succ j=>exact congrArg (· + 1) (ih nd e1 e2 e3 e4)
 |@own g σ As b xs ds h r q ih=>
  have no:∀{i:Nat}{l:List D},g[i]?=!(.own l)->σ[i]?=!(!(.ref a))->b=a->False:=λ{i l} e1 e3 e=>by
   obtain⟨c,xs,h1,h2,_⟩:=q.at e1;cases (show some (!(V.ref c))=!(!(V.ref a))from h1.symm.trans e3)
   exact (lL.mp nd).1 (e▸h2)
  cases i with
  |zero=>cases j with
   |zero=>rfl
   |succ j=>cases (show some (!(V.ref b))=!(!(V.ref a))from e3);exact (no e2 e4 rfl).elim
  |succ i=>cases j with
   |zero=>cases (show some (!(V.ref b))=!(!(V.ref a))from e4);exact (no e1 e3 rfl).elim
   |succ j=>exact congrArg (· + 1) (ih (lL.mp nd).2 e1 e2 e3 e4)
theorem mF(s:S z g σ As M H)(j:Nat)(q:iz z σ M H rs vs)(e:cL rs g=!gs) :
  gs.length=vs.length/\Slots z.K M H gs (vs.map some) ((bJ σ (vars j rs)).map (·.2))/\
  (∀p∈bJ σ (vars j rs),∃n l,p.1=j+n/\gs[n]?=!(.own l)/\vs[n]?=!(.ref p.2))/\
  (∀n l a,gs[n]?=!(.own l)->vs[n]?=!(.ref a)->(j+n,a)∈bJ σ (vars j rs))/\
  (∀p∈vars j rs,∃l a,g[p.2]?=!(.own l)/\σ[p.2]?=!(!(.ref a))/\a∈As):=by
 induction q generalizing gs j with
 |nil=>cases e;exact#[rfl,.nil,(λp hp=>nomatch hp),(λn l a h=>by simp at h),(λp hp=>nomatch hp)]
 |@dat d v rs vs r q ih=>
  unfold cL at e;cases e2:cL rs g with
  |none=>rw[e2]at e;cases e
  |some gs=>
   rw[e2]at e;cases e;obtain⟨h1,h2,h3,h4,h5⟩:=ih (j+1) e2;refine#[by simp[h1],.dat r h2,λp hp=>?_,λn l a e1 e3=>?_,h5]
   . obtain⟨n,l,q1,q2,q3⟩:=h3 p hp;exact#[n+1,l,by lia,by simpa using q2,by simpa using q3]
   .
    cases n with
    |zero=>simp at e1
    |succ n=>
     have:=h4 n l a (by simpa using e1) (by simpa using e3)
     rw[show j+(n+1)=j+1+n by lia]
     exact this
 |@var i v rs vs r q ih=>
  unfold cL at e;split at e
  .
   rename_i l hg;cases e2:cL rs g with
   |none=>rw[e2]at e;cases e
   |some gs=>
    rw[e2]at e;cases e;obtain⟨h1,h2,h3,h4,h5⟩:=ih (j+1) e2;obtain⟨a,xs,f1,f2,f3,f4⟩:=s.sl.at hg;have ea:=iD f1;rw[r]at f1;injection f1 with f1;injection f1 with f1;subst f1;have el:bJ σ (vars j (.var i::rs))=(j,a)::bJ σ (vars (j+1) rs):=by show (j,adr σ i)::bJ σ (vars (j+1) rs)=_;rw[ea]
    rw[el];refine#[by simp[h1],.own f3 f4 h2,λp hp=>?_,λn l' b e1 e3=>?_,λp hp=>?_]
    .
     rcases dA.mp hp with rfl |hp
     . exact#[0,l,rfl,rfl,rfl]
     . obtain⟨n,l,q1,q2,q3⟩:=h3 p hp;exact#[n+1,l,by lia,by simpa using q2,by simpa using q3]
    .
     cases n with
     |zero=>
      have e4:a=b:=by simpa using e3
      subst e4;exact bP
     |succ n=>
      have:=h4 n l' b (by simpa using e1) (by simpa using e3)
      rw[show j+(n+1)=j+1+n by lia]
      exact a8 _ this
    .
     rcases dA.mp (show p∈(j,i)::vars (j+1) rs from hp)with rfl |hp
     . exact#[l,a,hg,r,f2]
     . exact h5 p hp
  . cases e
theorem pL{α β:Type}{f:α->β}:∀{l:List α},l.Nodup->(∀a∈l,∀b∈l,f a=f b->a=b)->(l.map f).Nodup
 | [],_,_=>AA
 |x::l,nd,h=>by
  refine lL.mpr #[λhm=>?_,pL (lL.mp nd).2 λa ha b hb=>h a (a8 _ ha) b (a8 _ hb)]
  obtain⟨y,hy,e⟩:=i9.mp hm;have:=h y (a8 _ hy) x bP e;exact (lL.mp nd).1 (this▸hy)
def pM(z:Z)(σ:Sg)(M:List Addr)(H:Hp)(rs:List R):Z:=#[z.K,H,M,bJ σ (vars 0 rs),z.T]
theorem jO:(pM z σ M H rs).bor=(vars 0 rs).map (·.1):=by show (bJ σ (vars 0 rs)).map (·.1)=_;unfold bJ;rw[List.map_map];rfl
theorem S.enter(s:S z g σ As M H){rs:List R}{vs:List V}{gs:G}{N:List Str}(r:iz z σ M H rs vs)(e:cL rs g=!gs)(nd:((vars 0 rs).map (·.2)).Nodup) :
  S (pM z σ M H rs) (cO N.length gs) (start N vs) ((bJ σ (vars 0 rs)).map (·.2)) M H:=by
 obtain⟨h1,h2,h3,h4,h5⟩:=mF s 0 r e;have eB:(bJ σ (vars 0 rs)).map (·.2)=((vars 0 rs).map (·.2)).map (adr σ):=by unfold bJ;rw[List.map_map,List.map_map];rfl
 have mem:∀b∈(bJ σ (vars 0 rs)).map (·.2),b∈As:=λb hb=>by
  obtain⟨i,hi,e⟩:=i9.mp hb;obtain⟨p,hp,e'⟩:=i9.mp hi;obtain⟨l,a,q1,q2,q3⟩:=h5 p hp;subst e';rw[iD q2]at e;subst e;exact q3
 have pre:∀{n:Nat}{o:Slot},gs[n]?=!o->(cO N.length gs)[n]?=!o:=λ{n o} q=>by
  unfold cO;rw[fN (eJ.mp q).1];exact q
 have ownB:∀(n:Nat) (l:List D),(cO N.length gs)[n]?=!(.own l)->gs[n]?=!(.own l):=λn l q=>by
  unfold cO at q;rcases AX n gs.length with h |h
  . rw[fN h]at q;exact q
  . rw[eD h]at q;have:=pE q;rw[BC]at this;exact absurd this.2 ⋯
 have st:∀{n:Nat}{v:V},vs[n]?=!v->(start N vs)[n]?=!(!v):=λ{n v} q=>by
  unfold L2.start;rw[fN (by rw[dE];exact (eJ.mp q).1),oC,q]
  rfl
 have st':∀{n:Nat}{v:V},(start N vs)[n]?=!(!v)->vs[n]?=!v:=λ{n v} q=>by
  unfold L2.start at q;rcases AX n vs.length with h |h
  .
   rw[fN (by rw[dE];exact h),oC]at q
   cases e:vs[n]? with
   |none=>rw[e]at q;cases q
   |some w=>rw[e]at q;injection q with q
  .
   rw[eD (by rw[dE];exact h)]at q
   have:=pE q;rw[BC]at this;exact absurd this.2 ⋯
 refine#[?_,?_,λa ha=>s.sub a (mem a ha),λn a l q1 q2=>.inl ?_,s.live,λb o e _ _=>e,λm hm=>hm,λm hm=>?_,λb hb=>s.sub b (mem b hb),λp hp=>?_,s.tab,λp hp=>s.fH _ (s.tm p hp),s.tt]
 .
  have q:=h2.append (Slots.nos (N.length - gs.length));rw[pV]at q;have e':start N vs=vs.map some++List.replicate (N.length - gs.length) none:=by unfold L2.start;rw[h1]
  rw[e'];exact q
 .
  rw[eB];refine pL nd λi hi j hj e=>?_
  obtain⟨p,hp,rfl⟩:=i9.mp hi;obtain⟨p',x8,rfl⟩:=i9.mp hj;obtain⟨l,a,q1,q2,q3⟩:=h5 p hp;obtain⟨l',a',JN,Wa,q3'⟩:=h5 p' x8;rw[iD q2,iD Wa]at e;subst e;exact s.sl.xZ s.nd q1 JN q2 Wa
 . have hm:=h4 n l a (ownB n l q1) (st' q2);rw[xI]at hm;exact#[yB hm,yB hm]
 . exact λe=>s.fresh e hm
 . obtain⟨n,l,q1,q2,q3⟩:=h3 p hp;rw[xI]at q1;rw[q1];exact#[st q3,l,pre q2]
theorem Slots.transfer{K:Frag}{M M2:List Addr}{H H':Hp}(st:ao M H M2 H'){g g2:G}{σ:Sg}{As:List Addr}(q:Slots K M H g σ As)(hl:g2.length=g.length)
  (h1:∀(i:Nat) (l:List D) (a:Addr),g[i]?=!(.own l)->σ[i]?=!(!(.ref a))->∃l' xs',g2[i]?=!(.own l')/\H' a=!(.lst xs')/\aG K M2 H' l' xs')
  (h2:∀(i:Nat) (o:Slot),g[i]?=!o->(∀l,o≠.own l)->g2[i]?=!o):Slots K M2 H' g2 σ As:=by
 induction q generalizing g2 with
 |nil=>cases g2 with
  |nil=>exact .nil
  |cons a b=>cases hl
 |no q ih=>cases g2 with
  |nil=>cases hl
  |cons a b=>
   cases (show some a=!Slot.no from h2 0 .no rfl (λl z=>nomatch z))
   exact .no (ih (C4 hl) (λi l a e1 e2=>h1 (i+1) l a e1 e2) λi o e1 e2=>h2 (i+1) o e1 e2)
 |@dat g σ As v d r q ih=>cases g2 with
  |nil=>cases hl
  |cons a b=>
   cases (show some a=!(Slot.dat d)from h2 0 (.dat d) rfl (λl z=>nomatch z))
   exact .dat (r.stay st) (ih (C4 hl) (λi l a e1 e2=>h1 (i+1) l a e1 e2) λi o e1 e2=>h2 (i+1) o e1 e2)
 |@own g σ As a0 xs ds e0 r q ih=>cases g2 with
  |nil=>cases hl
  |cons a b=>
   obtain⟨l',xs',e1,e2,e3⟩:=h1 0 _ a0 rfl rfl;cases (show some a=!(Slot.own l')from e1)
   exact .own e2 e3 (ih (C4 hl) (λi l a e1 e2=>h1 (i+1) l a e1 e2) λi o e1 e2=>h2 (i+1) o e1 e2)
theorem pN:∀{ps:List (Nat×Nat)}{g gO:G},back ps gc g=!gO->(ps.map (·.2)).Nodup->gO.length=g.length/\
  (∀i,i∉ps.map (·.2)->gO[i]?=g[i]?)/\∀p∈ps,p.2<g.length->∃l,gc[p.1]?=!(.own l)/\gO[p.2]?=!(.own l)
 | [],g,gO,e,_=>by cases e;exact#[rfl,λ_ _=>rfl,λp hp=>nomatch hp]
 | (j,i)::ps,g,gO,e,nd=>by
  unfold back at e;split at e
  .
   rename_i l hg;obtain⟨h1,h2,h3⟩:=pN e (lL.mp nd).2;refine#[by rw[h1,BN],λk hk=>?_,λp hp hlt=>?_]
   .
    have n1:k∉ps.map (·.2):=λz=>hk (a8 _ z)
    have n2:i≠k:=λz=>hk (z▸bP)
    rw[h2 k n1,gN n2]
   .
    rcases dA.mp hp with rfl |hp
    . refine#[l,hg,?_];have hlt':=hlt;rw[h2 i (lL.mp nd).1,nE hlt']
    . exact h3 p hp (by rw[BN];exact hlt)
  . cases e
theorem S.leave(s:S z g σ As M H){rs:List R}{vs:List V}{gs gc gO:G}{σc:Sg}{Ac Mc:List Addr}{Hc:Hp}{r r':R}{v:V}(rw':iz z σ M H rs vs)(e:cL rs g=!gs)(nd:((vars 0 rs).map (·.2)).Nodup)
  (sc:S (pM z σ M H rs) gc σc Ac Mc Hc) (st:ao M H Mc Hc) (q:cH (pM z σ M H rs) gc σc Ac Mc Hc r v) (hb:back (vars 0 rs) gc g=!gO) (hr:bX ((vars 0 rs).map (·.1)) gc r=!r') :
  ∃M2,S z gO σ As M2 Hc/\ao M H M2 Hc/\cH z gO σ As M2 Hc r' v:=by
 obtain⟨h1,h2,h3,h4,h5⟩:=mF s 0 rw' e;obtain⟨b1,b2,b3⟩:=pN hb nd;have hM:=sc.fH;have core:∀M2:List Addr,(∀m∈M,m∈M2)->(∀m∈M2,m∈Mc)->ao M H M2 Hc->S z gO σ As M2 Hc:=by
  intro M2 m1 m2 aL;refine#[s.sl.transfer aL b1 (λi l a e1 e2=>?_) (λi o e1 e2=>?_),s.nd,λa ha=>m1 a (s.sub a ha),λi a l e1 e2=>?_,λm hm=>sc.live m (m2 m hm),λb o e1 e2 et=>?_,λm hm=>m1 m (s.fH m hm),s.m0,s.bm,λp hp=>#[(s.gU p hp).1,?_],sc.tab,s.tm,s.tt]
  .
   by_cases hi:i∈(vars 0 rs).map (·.2)
   . obtain⟨p,hp,rfl⟩:=i9.mp hi;obtain⟨l',q1,q2⟩:=b3 p hp (eJ.mp e1).1;have hl:(p.1,adr σ p.2)∈bJ σ (vars 0 rs):=yB hp;obtain⟨c1,c2⟩:=sc.gU _ hl;obtain⟨a',xs,d1,d2,d3,d4⟩:=sc.sl.at q1;rw[c1]at d1;injection d1 with d1;injection d1 with d1;injection d1 with d1;rw[iD e2]at d1;subst d1;exact#[l',xs,q2,d3,aG.stay (ao.less m2) d4]
   .
    obtain⟨a',xs,d1,d2,d3,d4⟩:=s.sl.at e1;rw[e2]at d1;injection d1 with d1;injection d1 with d1;injection d1 with d1;subst d1;refine#[l,xs,by rw[b2 i hi];exact e1,sc.keep a _ d3 (λhB=>?_) (s.Oz d3),d4.stay aL]
    obtain⟨p,hp,ep⟩:=i9.mp (show a∈(bJ σ (vars 0 rs)).map (·.2)from hB);obtain⟨p',x8,rfl⟩:=i9.mp hp;obtain⟨l2,a2,q1,q2,q3⟩:=h5 p' x8;have oE:=ep;rw[iD q2]at oE;subst oE;have:=s.sl.xZ s.nd e1 q1 e2 q2;exact hi (this▸yB x8)
  .
   refine (b2 i λhi=>?_).trans e1
   obtain⟨p,hp,rfl⟩:=i9.mp hi;obtain⟨l2,a2,q1,q2,q3⟩:=h5 p hp;rw[e1]at q1;injection q1 with q1;exact e2 l2 q1
  .
   by_cases hi:i∈(vars 0 rs).map (·.2)
   . obtain⟨p,hp,rfl⟩:=i9.mp hi;obtain⟨l2,a2,q1,q2,q3⟩:=h5 p hp;exact s.own p.2 a l2 q1 e2
   . rw[b2 i hi]at e1;exact s.own i a l e1 e2
  .
   have e3:=s.keep b o e1 e2 et;refine sc.keep b o e3 (λhB=>?_) et
   obtain⟨p,hp,ep⟩:=i9.mp (show b∈(bJ σ (vars 0 rs)).map (·.2)from hB);obtain⟨p',x8,rfl⟩:=i9.mp hp;obtain⟨l2,a2,q1,q2,q3⟩:=h5 p' x8;have oE:=ep;rw[iD q2]at oE;subst oE;rcases s.own p'.2 a2 l2 q1 q2 with w |w
   . exact e2 w.2
   . rw[w]at e1;cases e1
  .
   by_cases hi:p.1∈(vars 0 rs).map (·.2)
   . obtain⟨p',x8,e'⟩:=i9.mp hi;have e'':=e';obtain⟨l2,a2,q1,q2,q3⟩:=h5 p' x8;obtain⟨l',JN,Wa⟩:=b3 p' x8 (eJ.mp q1).1;exact#[l',by rw[<- e''];exact Wa]
   . rw[b2 p.1 hi];exact (s.gU p hp).2
 have new:∀(a:Addr) (xs:List V) (l:List D),v=.ref a->a∈Mc->H a=none->Hc a=!(.lst xs)->aG z.K Mc Hc l xs->∃M2,S z gO σ As M2 Hc/\ao M H M2 Hc/\cH z gO σ As M2 Hc (.new l) v:=by
  intro a xs l ev hm h0 hx rr;have m2:∀m∈a::M,m∈Mc:=λm hm'=>(dA.mp hm').elim (λe=>e▸hm) (hM m)
  have aL:=st.trans (ao.less m2);refine#[a::M,core _ (λm hm'=>a8 _ hm') m2 aL,aL,a,xs,ev,bP,λhA=>?_,s.bW h0,hx,rr.stay (ao.less m2)]
  exact s.fresh h0 (s.sub a hA)
 cases r with
 |dat d=>cases hr;have aL:=st.trans (ao.less hM);exact#[M,core M (λm h=>h) hM aL,aL,Rep.stay (ao.less hM) q]
 |new l=>cases hr;obtain⟨a,xs,rfl,c1,c2,c3,c4,c5⟩:=q;exact new a xs l rfl c1 c3 c4 c5
 |var j=>
  obtain⟨l,q1,q2⟩:=q;have hr:(if j∈(vars 0 rs).map (·.1)then none else match gc[j]? with |!(.own l)=>!(R.new l) |_=>none)=!r':=hr
  split at hr
  . cases hr
  .
   rename_i hj;rw[q1]at hr;cases hr;obtain⟨a,xs,d1,d2,d3,d4⟩:=sc.sl.at q1;rw[q2]at d1;injection d1 with d1;injection d1 with d1;subst d1;refine new a xs l rfl (sc.sub a d2) ?_ d3 d4;rcases sc.own j a l q1 q2 with w |w
   . have w':=w.1;rw[jO]at w';exact absurd w' hj
   . exact w
end
theorem iz.length(q:iz z σ M H rs vs):vs.length=rs.length:=by
 induction q with
 |nil=>rfl
 |dat r q ih=>exact congrArg (· + 1) ih
 |var r q ih=>exact congrArg (· + 1) ih
def O2(K:Frag)(N:List Str)(np:Nat)(run:List Nat->G->R->G->Prop):Sp:=λvs H Q _=>
 vs.length=np/\∃(z:Z) (g g':G) (As M:List Addr) (r:R),z.K=K/\S z g (start N vs) As M H/\run z.bor g r g'/\
  ∀v σ' aB M' H',S z g' σ' aB M' H'->ao M H M' H'->cH z g' σ' aB M' H' r v->Q v H'
section
variable{run:List Nat->G->R->G->Prop}
theorem x9(F:iu X.prog X.w X.K X.mg X.base v8 k f fd ps (O2 X.K N ps.length run))(hK:z.K=X.K)(hr:bK k X.A)(hg:Gl X x)(hm:X.mg x=!(.ref f))(hk:PySem.W.keepIn X.K (.ref f)=true)(hb:Binds X.K fd ps [])
  (ha:cu X z (e::es) g rs g1) (aM:rs.length=ps.length) (hl:cL rs g1=!gs) (nd:((vars 0 rs).map (·.2)).Nodup) (hrun:run ((vars 0 rs).map (·.1)) (cO N.length gs) r gc) (DT:back (vars 0 rs) gc g1=!gO) (ho:bX ((vars 0 rs).map (·.1)) gc r=!r')
  (iU:(x==(~~~3))=false) (he:starEach (e::es) X.env=(false,eval e X.env)::starEach es X.env) (gI:(backTo pos (starEach es X.env)).any (·.1)=false) :
  aA X z (.Call (.Name x p) (e::es) [] pos) g r' gO:=by
 obtain⟨t,q,kk⟩:=ha;refine#[_,xQ F hr hg hm hk hb .nil Ow q iU he gI,λσ As M H Q s kq=>kk σ As M H _ s λvs H1 aN M1 s1 bS R1=>?_]
 have hv:=R1.length;have ee:=s1.enter (N:=N) R1 hl nd;refine#[by rw[pV,hv];exact aM,pM z σ M1 H1 rs,cO N.length gs,gc,_,M1,r,hK,by rw[pV];exact ee,by rw[jO];exact hrun,λv σ' aB M' H' s' st' R'=>?_]
 obtain⟨M2,s2,aL,R2⟩:=s1.leave R1 hl nd s' st' R' DT ho;exact kq v H' aN M2 s2 (bS.trans aL) R2
theorem DW{P:Program}{w:World}{K:Frag}{mg:Str->Option Value}{base:Heap}{qual:Str}{st:Stmt}(F:JH K x qual st f fd)(Sc:bI N ps (aE st))
  (h:∀(bz:Value) (A:Around) (outer:List Env) (s:Shared) (H:Hp) (E:XK),PySem.W.codeIn K bz qual=true->bK k (A.deeper (envOfC qual (aE st) s⁻¹ f bz))->
   ∀(z:Z) (g:G) (r:R) (g':G),z.K=K->run z.bor g r g'->∃fl,eV (eU v8 P w K mg base N qual (aE st) f bz A outer s H E).qG z (bq st) g fl g'/\(fl=.rt r\/(fl=.nx/\r=.dat .non))) :
  iu P w K mg base v8 (k+1) f fd ps (O2 K N ps.length run):=by
 obtain⟨oc,od,kV,doc,pm,an,bz,ct,osl,rfl,lk,bM⟩:=F.ex;refine Ou lk bM Sc (λvs H Q E q=>q.1) ?_
 rintro A outer s H vs Q E hr ⟨_,z,g,g',As,M,r,hK,hs,hrun,hQ⟩;obtain⟨fl,⟨t,q,kk⟩,hfl⟩:=h bz A outer s H E bM hr z g r g' hK hrun;refine#[t,q.qG,kk _ As M H _ hs ?_];rcases hfl with rfl |⟨rfl,rfl⟩
 . exact λv σ' aB M' H' s' st' R'=>hQ v σ' aB M' H' s' st' R'
 . exact λσ' aB M' H' s' st'=>hQ .non σ' aB M' H' s' st' .non
end
inductive Tg where
 |nm (i:Nat) |tp (is:List Nat)
noncomputable def jP:List Nat->List D->G->G
 |i::is,d::ds,g=>jP is ds (g.set i (.dat d))
 | [],_,g=>g
 |_::_,[],g=>g
noncomputable def Tg.ix:Tg->List Nat
 |.nm i=>[i]
 |.tp is=>is
def Tg.set:Tg->D->G->Option G
 |.nm i,d,g=>!(g.set i (.dat d))
 |.tp is,.tup ds,g=>if ds.length=is.length then some (jP is ds g)else none
 |.tp is,.lst ds,g=>if ds.length=is.length then some (jP is ds g)else none
 |.tp _,_,_=>none
def yc(is:List Nat)(σ σ':Sg):Prop:=σ'.length=σ.length/\∀j,j∉is->σ'[j]?=σ[j]?
theorem yc.refl(is:List Nat)(σ:Sg):yc is σ σ:=#[rfl,λ_ _=>rfl]
theorem yc.trans{is:List Nat}{σ σ1 σ2:Sg}(a:yc is σ σ1)(b:yc is σ1 σ2):yc is σ σ2:=#[b.1.trans a.1,λj h=>(b.2 j h).trans (a.2 j h)]
theorem yc.mono(h:∀i∈is,i∈js)(a:yc is σ σ'):yc js σ σ':=#[a.1,λj hj=>a.2 j λz=>hj (h j z)]
def tW(X:Cx)(z:Z)(tg:Expr)(T:Tg):Prop:=∃t,PG X tg t/\∀d g g',T.set d g=!g'->∀v σ As M H (Q:Sg->Hp->Prop),S z g σ As M H->Rep z.K M H d v->(∀σ' aB,S z g' σ' aB M H->yc T.ix σ σ'->Q σ' H)->t v σ H Q
structure wm(X:Cx)(x:Str)(i:Nat):Prop where
 nd:X.N.Nodup
 ix:X.N[i]?=!x
 lc:Loc X.env.scope x
 fn:X.fn x=true\/X.env.scope.names.lookup x=some .local
section
theorem Yc(h:wm X x i)(hb:i∉z.bor):tW X z (.Name x pos) (.nm i):=
 #[_,iZ h.nd h.ix h.lc h.fn,λd g g' e v σ As M H Q s r k=>by
  cases e;obtain⟨aB,s'⟩:=s.fM hb r;exact k _ aB s' #[by rw[BN],λj hj=>by rw[gN (λe=>hj (by rw[<- e];exact fA.mpr rfl))]]]
inductive jl(X:Cx):List Expr->List Nat->Prop
 |nil:jl X [] []
 |cons {x:Str}{p:Pos}{i:Nat}{es:List Expr}{is:List Nat}:wm X x i->jl X es is->jl X (.Name x p::es) (i::is)
theorem jl.plain(h:jl X es is):(assignEach es X.env).length=is.length/\(assignEach es X.env).findIdx? (·.1)=none:=by
 induction h with
 |nil=>exact#[rfl,rfl]
 |cons _ _ ih=>
  refine#[?_,?_]
  . show (assignEach _ X.env).length+1=_;rw[ih.1];rfl
  . show List.findIdx? _ ((false,assign _ X.env)::assignEach _ X.env)=none;rw[List.findIdx?_cons,ih.2];rfl
theorem jl.pgs(h:jl X es is)(hb:∀i∈is,i∉z.bor):∃t,V5 X es t/\∀ds vs g σ As M H (Q:Sg->Hp->Prop),ds.length=is.length->S z g σ As M H->aG z.K M H ds vs->(∀σ' aB,S z (jP is ds g) σ' aB M H->yc is σ σ'->Q σ' H)->t vs σ H Q:=by
 induction h with
 |nil=>
  refine#[_,Jp,λds vs g σ As M H Q hl s r k=>?_]
  cases r with
  |nil=>exact#[rfl,k σ As s (yc.refl _ _)]
  |cons _ _=>simp at hl
 |@cons x p i es is hn hs ih=>
  obtain⟨t,q,kk⟩:=ih λj hj=>hb j (a8 _ hj)
  refine#[_,CT (iZ hn.nd hn.ix hn.lc hn.fn) q rfl,λds vs g σ As M H Q hl s r k=>?_]
  cases r with
  |nil=>simp at hl
  |@cons d ds v vs r rs=>
   obtain⟨aN,s1⟩:=s.fM (hb i bP) r;refine#[v,vs,rfl,kk ds vs _ _ aN M H Q (by simpa using hl) s1 rs λσ' aB s' a=>k σ' aB s' ?_]
   refine yc.trans #[by rw[BN],λj hj=>?_] (a.mono λj hj=>a8 _ hj)
   rw[gN (λe=>hj (by rw[<- e];exact bP))]
theorem wu(ne:l≠it)(n:Nat):∀(i:Nat) (s:Shared) (Q:List Value->Shared->Prop),s.heap.IsListIter it l i->s.heap.IsList l xs->i+n=xs.size->
  (∀h',h'.IsListIter it l xs.size->Heap.SameBut it s.heap h'->Q (xs.toList.drop i) { s with heap:=h'})->wpAny (model prog w) A (draw (.ref it) n) Q E s:=by
 induction n with
 |zero=>
  intro i s Q hit _ hi k;have e:xs.toList.drop i=[]:=DL (by rw[fR];lia)
  have q:=k s.heap (by rw[<- hi];exact hit) (Heap.SameBut.refl ..)
  rw[e]at q;exact dL q
 |succ n ih=>
  intro i s Q hit hl hi k;have hlt:i<xs.size:=by lia
  refine aS (wpAny_pyNext_list_item hit hl (x:=xs[i]) (by simp[hlt]) λh1 b1 c1=>?_)
  refine aS (sB (ih (i+1) _ _ b1 (hl.extBut c1.extBut ne) ⋯ λh2 b2 c2=>dL ?_))
  have q:=k h2 b2 (c1.trans c2);rw[AI (by rw[fR];exact hlt)]at q
  exact q
theorem tX(hh:A.handled=none)(hl:s.heap.IsList l xs)
  (k:∀h',Heap.ExtBut s⁻¹ s.heap h'->Q xs.toList { s with heap:=h'}):wpAny (model prog w) A (unpackItems (.ref l) xs.size none) Q E s:=by
 have ne:l≠s⁻¹:=by obtain⟨o,ho,_⟩:=hl;exact i6 (fI ho)
 refine aS ?_;refine aS (wpAny_specialOf hl.typeIs slot_list_iter.lookup ?_);refine dL ?_;refine aS (sB (AR hl ?_));refine aS (sB (wu ne xs.size 0 _ _ #[_,dC _ rfl,rfl,rfl] (hl.push _) (xI _) λh1 b1 c1=>?_))
 rw[sK ⋯];refine aS (sB (wpAny_pyNext_list_end hh b1 ((hl.push _).extBut c1.extBut ne) ⋯ λh2 e2=>?_))
 exact dL (k h2 λb o nb e=>e2 b o nb (c1.extBut b o nb (a7 _ e)))
def gSeq(K:Frag)(n:Nat)(t:Qh):TG:=λv σ H Q=>∃a xs,v=.ref a/\(fG K H a xs\/bD K H a xs)/\xs.length=n/\t xs σ H Q
theorem RQ(hc:X.calm=true)(h:V5 X es t)(hn:(assignEach es X.env).length=n)(bT:(assignEach es X.env).findIdx? (·.1)=none):PG X (.Tuple es k pos) (gSeq X.K n t):=by
 intro aj s σ H v u Q I r hw;obtain⟨a,xs,e1,hq,hl,hw⟩:=hw;rcases hq with hq |hq
 . exact Qj hc h hn bT aj s σ H v u Q I r #[a,xs,e1,hq,hl,hw]
 .
  subst e1;cases r;obtain⟨its,rv,pl,hz⟩:=I.list hq;refine aS (wpAny_standAt ?_);unfold unpack;rw[bT,show (assignEach es X.env).length=its.toArray.size by rw[hn,<- hl,rv.length,eP]]
  refine aS (sB (tX (I.ok.hd hc) pl.isList λh' hx=>?_))
  have I1:=I.kept (t':=s.toks) λb o e=>hx b o (i6 (fI e)) e
  exact h aj _ σ H xs _ Q I1 (by simpa using rv) hw
theorem Yd(hc:X.calm=true)(hK:z.K=X.K)(h:jl X es is)(hb:∀i∈is,i∉z.bor):tW X z (.Tuple es k pos) (.tp is):=by
 obtain⟨t,q,kk⟩:=h.pgs hb;refine#[_,RQ hc q h.plain.1 h.plain.2,λd g g' e v σ As M H Q s r k=>?_]
 cases d with
 |tup ds=>
  have e:(if ds.length=is.length then some (jP is ds g)else none)=!g':=e
  by_cases hl:ds.length=is.length
  .
   rw[tJ hl]at e;cases e;cases r with
   |@tup _ a xs ha rr=>exact#[a,xs,rfl,.inl (hK▸ha.sq),by rw[<- rr.length];exact hl,kk ds xs g σ As M H Q hl s rr k]
  . rw[sK hl]at e;cases e
 |lst ds=>
  have e:(if ds.length=is.length then some (jP is ds g)else none)=!g':=e
  by_cases hl:ds.length=is.length
  .
   rw[tJ hl]at e;cases e;cases r with
   |@lst _ a xs ha rr=>exact#[a,xs,rfl,.inr (bD.of ha.2),by rw[<- rr.length];exact hl,kk ds xs g σ As M H Q hl s rr k]
  . rw[sK hl]at e;cases e
 |_=>cases e
def Jt(J:It)(au:List D)(K:Frag)(M1:List Addr)(H1:Hp):Prop:=
 ∀M2 H2,ao M1 H1 M2 H2->(∀n d,au[n]?=!d->J.go n H2/\∀x H',J.Xj n H2 x H'->∀(z:Z) g σ As,z.K=K->S z g σ As M2 H2->S z g σ As M2 H'/\ao M2 H2 M2 H'/\Rep K M2 H' d x)/\J.stop au.length H2
def eW(X:Cx)(z:Z)(tg iter:Expr)(g:G)(au:List D)(g1:G):Prop:=
 ∃wi,PI X tg iter wi/\∀σ As M H (R:It->Hp->Prop),S z g σ As M H->(∀J H' aB M',S z g1 σ aB M' H'->ao M H M' H'->Jt J au z.K M' H'->R J H')->wi σ H R
theorem RV(hK:z.K=X.K)(h:aA X z iter g (.dat (.tup l)) g1):eW X z tg iter g l g1:=by
 obtain⟨t,q,k⟩:=h;refine#[_,Qq q,λσ As M H R s kk=>k σ As M H _ s λv H1 aN M1 s1 bS r=>?_]
 have r':=r;cases r' with
 |@tup _ a xs ha rr=>
  refine#[a,rfl,#[xs,hK▸ha.sq],kk _ H1 aN M1 s1 bS λM2 H2 aL=>?_]
  have ha2:TupAt z.K M2 H2 a xs:=by
   rcases ha with ⟨na,hr⟩ |hk
   . exact .inl (aL.rd na hr)
   . exact .inr hk
  have Iz:=rr.stay aL;refine#[λn d hd=>?_,xs,hK▸ha2.sq,by rw[rr.length];exact eA _]
  obtain⟨x,e1,e2⟩:=Iz.get hd;refine#[#[xs,x,hK▸ha2.sq,e1],λy H' hy z' g' σ' aB _ s'=>?_]
  obtain⟨rfl,hy⟩:=hy;have:=hy xs (hK▸ha2.sq);rw[e1]at this;cases this;exact#[s',ao.refl _ _,e2]
theorem RW(h:aA X z iter g (.dat (.lst l)) g1):eW X z tg iter g l g1:=by
 obtain⟨t,q,k⟩:=h;refine#[_,lB q,λσ As M H R s kk=>k σ As M H _ s λv H1 aN M1 s1 bS r=>?_]
 have r':=r;cases r' with
 |@lst _ a xs ha rr=>
  refine#[a,rfl,#[xs,bD.of ha.2],kk _ H1 aN M1 s1 bS λM2 H2 aL=>?_]
  have ha2:=(aL _ _ ha.2 ha.1).1;have Iz:=rr.stay aL;refine#[λn d hd=>?_,xs,bD.of ha2,by rw[rr.length];exact eA _]
  obtain⟨x,e1,e2⟩:=Iz.get hd;refine#[#[xs,x,bD.of ha2,e1],λy H' hy z' g' σ' aB _ s'=>?_]
  obtain⟨rfl,hy⟩:=hy;have:=hy xs (bD.of ha2);rw[e1]at this;cases this;exact#[s',ao.refl _ _,e2]
theorem RX(hK:z.K=X.K)(h:aA X z iter g (.dat (.fix l)) g1):eW X z tg iter g l g1:=by
 obtain⟨t,q,k⟩:=h;refine#[_,lB q,λσ As M H R s kk=>k σ As M H _ s λv H1 aN M1 s1 bS r=>?_]
 have r':=r;cases r' with
 |@fix _ a xs ha rr=>
  refine#[a,rfl,#[xs,hK▸ha.sq],kk _ H1 aN M1 s1 bS λM2 H2 aL=>?_]
  have ha2:kG z.K M2 H2 a xs:=by
   rcases ha with ⟨na,o,hr⟩ |hk
   . exact .inl #[(aL _ _ hr na).2,o,(aL _ _ hr na).1]
   . exact .inr hk
  have Iz:=rr.stay aL;refine#[λn d hd=>?_,xs,hK▸ha2.sq,by rw[rr.length];exact eA _]
  obtain⟨x,e1,e2⟩:=Iz.get hd;refine#[#[xs,x,hK▸ha2.sq,e1],λy H' hy z' g' σ' aB _ s'=>?_]
  obtain⟨rfl,hy⟩:=hy;have:=hy xs (hK▸ha2.sq);rw[e1]at this;cases this;exact#[s',ao.refl _ _,e2]
theorem DX{lo:Int}{n:Nat}{K:Frag}{M:List Addr}{H:Hp}:Jt (Qp lo n) (iC lo n) K M H:=λM2 H2 _=>by
 refine#[λk d hd=>?_,?_]
 .
  have hk:k<n:=by have:=(eJ.mp hd).1;rw[tV]at this;exact this
  rw[DS hk]at hd;cases hd;refine#[hk,λx H' hx z' g' σ' aB _ s'=>?_]
  obtain⟨rfl,rfl⟩:=hx;exact#[s',ao.refl _ _,.int _]
 . show n<=(iC lo n).length;rw[tV];exact eA _
theorem Km(h:cu X z [a] g [‹j›] g1)(hg:Gl X "range")(hm:X.mg "range"=none)(hs:starEach [a] X.env=[(false,eval a X.env)])(h1 : -(2 ^ 62)<=j)(h2:j<2 ^ 62) :
  eW X z tg (.Call (.Name "range" p) [a] [] rp) g (iC 0 j.toNat) g1:=by
 obtain⟨wi,q,k⟩:=zT h hg hm hs h1 h2;exact#[wi,q,λσ As M H R s kk=>k σ As M H _ s λH' aB M' s' st=>kk _ H' aB M' s' st DX]
theorem Ko(h:cu X z [a,b] g [‹c›,‹j›] g1)(hg:Gl X "range")(hm:X.mg "range"=none)(hs:starEach [a,b] X.env=[(false,eval a X.env),(false,eval b X.env)])(hs2:starEach [b] X.env=[(false,eval b X.env)])
  (h1 : -(2 ^ 62)<=c/\c<2 ^ 62/\-(2 ^ 62)<=j/\j<2 ^ 62):eW X z tg (.Call (.Name "range" p) [a,b] [] rp) g (iC c (j - c).toNat) g1:=by
 obtain⟨wi,q,k⟩:=zU h hg hm hs hs2 h1;exact#[wi,q,λσ As M H R s kk=>k σ As M H _ s λH' aB M' s' st=>kk _ H' aB M' s' st DX]
inductive dN(X:Cx)(z:Z)(body:List Stmt)(T:Tg):List D->G->Fl->G->Prop
 |nil {g:G}:dN X z body T [] g .nx g
 |next {d:D}{l:List D}{g g0 g1 g2:G}{f:Fl}:T.set d g=!g0->eV X z body g0 .nx g1->dN X z body T l g1 f g2->dN X z body T (d::l) g f g2
 |cont {d:D}{l:List D}{g g0 g1 g2:G}{f:Fl}:T.set d g=!g0->eV X z body g0 .ct g1->dN X z body T l g1 f g2->dN X z body T (d::l) g f g2
 |brk {d:D}{l:List D}{g g0 g1:G}:T.set d g=!g0->eV X z body g0 .bk g1->dN X z body T (d::l) g .nx g1
 |ret {d:D}{l:List D}{g g0 g1:G}{r:R}:T.set d g=!g0->eV X z body g0 (.rt r) g1->dN X z body T (d::l) g (.rt r) g1
theorem ar1{i m n:Nat}(h:i+m=n)(hi:i<n):m - 1<m/\i+1+(m - 1)=n:=by lia
theorem yd{J:It}{au:List D}{K:Frag}{M1:List Addr}{H1 H0:Hp}{σ0:Sg}{Qn:Sg->Hp->Prop}{Body:V->Sg->Hp->(Sg->Hp->Prop)->Prop}(hJ:Jt J au K M1 H1)(P:List D->Sg->Hp->Prop)(h0:P au σ0 H0)
  (st:∀l σ' H',P l σ' H'->∃M2,ao M1 H1 M2 H') (fin:∀σ' H',P [] σ' H'->Qn σ' H')
  (turn:∀d l σ' H',P (d::l) σ' H'->∀x H2,(∀M2,ao M1 H1 M2 H'->∀(z:Z) g σ As,z.K=K->S z g σ As M2 H'->S z g σ As M2 H2/\ao M2 H' M2 H2/\Rep K M2 H2 d x)->Body x σ' H2 (P l)) :
  ∃W:Nat->Nat->Sg->Hp->Prop,(∃m,W 0 m σ0 H0)/\∀i m σ' H',W i m σ' H'->
   (J.stop i H'/\Qn σ' H')\/(J.go i H'/\∃Nn:Sg->Hp->Prop,(∀V7 V8,Nn V7 V8->∃m',m'<m/\W (i+1) m' V7 V8)/\∀x H2,J.Xj i H' x H2->Body x σ' H2 Nn):=by
 refine#[λi m σ' H'=>i+m=au.length/\P (au.drop i) σ' H',#[au.length,xI _,h0],?_]
 rintro i m σ' H' ⟨him,p⟩;obtain⟨M2,aL⟩:=st _ _ _ p;obtain⟨hgo,hstop⟩:=hJ M2 H' aL;cases e:au[i]? with
 |none=>
  have hi:i=au.length:=by have:=AT.mp e;lia
  subst hi;rw[List.drop_length]at p;exact .inl #[hstop,fin _ _ p]
 |some d=>rw[drop_cons e]at p;have hi:=(eJ.mp e).1;have hm:=ar1 him hi;exact .inr #[(hgo i d e).1,P (au.drop (i+1)),λV7 V8 hN=>#[m - 1,hm.1,hm.2,hN],λx H2 hx=>turn d _ σ' H' p x H2 λM3 fy=>((hJ M3 H' fy).1 i d e).2 x H2 hx]
theorem RZ(hp:PassesOwn (~~~2) X.A X.env X.xe)(hc:X.calm=true)(hw:eW X z tg iter g au g1)(ht:tW X z tg T)(hb:dN X z body T au g1 f g')(hs:∀y,foldedSetIterable iter X.env y=pure y) :
  fD X z (.For tg iter body [] pos) g f g':=by
 obtain⟨wi,q,k⟩:=hw;obtain⟨t,qt,kt⟩:=ht;refine#[_,qI hp hc q qt xY hs,λσ As M H E s kk=>k σ As M H _ s λJ H1 aN M1 s1 bS hJ=>?_]
 refine yd hJ (λl σ2 H2=>∃g2 bE M2,S z g2 σ2 bE M2 H2/\ao M1 H1 M2 H2/\dN X z body T l g2 f g') #[g1,aN,M1,s1,ao.refl _ _,hb] (by rintro _ _ _ ⟨_,_,M2,_,aL,_⟩;exact#[M2,aL]) ?_ ?_
 . rintro σ2 H2 ⟨g2,bE,M2,s2,aL,lo⟩;cases lo;exact kk σ2 bE M2 H2 s2 (bS.trans aL)
 .
  rintro d l σ2 H2 ⟨g2,bE,M2,s2,aL,lo⟩ x H' yl;obtain⟨s3,fy,rx⟩:=yl M2 aL z g2 σ2 bE rfl s2;have kk':=(kk.trans bS).trans (aL.trans fy);have Ye:=aL.trans fy;cases lo with
  |next e0 b h=>
   refine kt d g2 _ e0 x σ2 bE M2 H' _ s3 rx λσ' aB s' _=>?_
   obtain⟨t,q,kb⟩:=b;exact#[t,q,kb _ aB M2 H' _ s' λσ4 wz M4 H4 s4 oB=>#[_,wz,M4,s4,Ye.trans oB,h]]
  |cont e0 b h=>
   refine kt d g2 _ e0 x σ2 bE M2 H' _ s3 rx λσ' aB s' _=>?_
   obtain⟨t,q,kb⟩:=b;exact#[t,q,kb _ aB M2 H' _ s' λσ4 wz M4 H4 s4 oB=>#[_,wz,M4,s4,Ye.trans oB,h]]
  |brk e0 b=>
   refine kt d g2 _ e0 x σ2 bE M2 H' _ s3 rx λσ' aB s' _=>?_
   obtain⟨t,q,kb⟩:=b;exact#[t,q,kb _ aB M2 H' _ s' λσ4 wz M4 H4 s4 oB=>kk' σ4 wz M4 H4 s4 oB]
  |ret e0 b=>
   refine kt d g2 _ e0 x σ2 bE M2 H' _ s3 rx λσ' aB s' _=>?_
   obtain⟨t,q,kb⟩:=b;exact#[t,q,kb _ aB M2 H' _ s' λv σ4 wz M4 H4 s4 oB R=>kk' v σ4 wz M4 H4 s4 oB R]
end
noncomputable def gC(k:Nat)(g:G):G:=g++(List.replicate k .no++[.own []])
def jm(X:Cx)(z:Z)(ifs:List Expr)(g:G)(b:Bool)(g':G):Prop:=
 ∃t,tL X ifs t/\∀σ As M H (Q:Bool->Hp->Prop),S z g σ As M H->(∀H' aB M',S z g' σ aB M' H'->ao M H M' H'->Q b H')->t σ H Q
theorem Kp:jm X z [] g true g:=#[_,Dj,λσ As M H Q s k=>k H As M s (ao.refl _ _)]
theorem Kq(h:cI X z c g b g'):jm X z [c] g b g':=let #[t,q,k]:=h;#[t,Dk q,k]
inductive mG(T:Tg)(last:Nat)(R0:G->Bool->G->Prop)(Wc:G->D->G->Prop):List D->G->G->Prop
 |nil {g:G}:mG T last R0 Wc [] g g
 |skip:T.set d g=!g1->R0 g1 false g2->mG T last R0 Wc l g2 g'->mG T last R0 Wc (d::l) g g'
 |take:T.set d g=!g1->R0 g1 true g2->Wc g2 e g3->g3[last]?=!(.own acc)->acc.length<16777216->mG T last R0 Wc l (g3.set last (.own (acc++[e]))) g'->mG T last R0 Wc (d::l) g g'
section
theorem S.extend(s:S z g σ As M H)(hm:a∈M)(hA:a∉As)(h0:z.H0 a=none)(h:H a=!(.lst xs))(r:aG z.K M H l xs) :
  S z (g++(List.replicate k .no++[.own l])) (σ++(List.replicate k none++[!(.ref a)])) (As++([]++[a])) M H:=by
 have hl:=s.sl.length;refine#[s.sl.append ((Slots.nos k).append (.own h r .nil)),?_,λb hb=>?_,λi b l' e1 e2=>?_,s.live,s.keep,s.fH,s.m0,s.bm,λp hp=>?_,s.tab,s.tm,s.tt]
 .
  rw[B9];refine AY.mpr #[s.nd,lL.mpr #[by simp,AA],λx hx y hy e=>?_]
  rw[fA.mp hy]at e;exact hA (e▸hx)
 .
  rcases kA.mp hb with q |q
  . exact s.sub b q
  . rw[B9]at q;rw[fA.mp q];exact hm
 .
  rcases AX i g.length with hi |hi
  . rw[fN hi]at e1;rw[fN ⋯]at e2;exact s.own i b l' e1 e2
  .
   rw[eD hi]at e1;rw[eD ⋯]at e2;rcases AX (i - g.length) k with hk |hk
   .
    rw[fN (by rw[tP];exact hk)]at e1
    have:=pE e1;rw[BC]at this;exact absurd this.2 ⋯
   .
    rw[eD (by rw[tP];lia),tP]at e2
    have e3:i - σ.length - k=0:=by
     rcases Nat.eq_zero_or_pos (i - σ.length - k)with q |q
     . exact q
     . rw[AM (Nat.succ_le_of_lt q)]at e2;cases e2
    rw[e3]at e2;have e4:=e2;injection e4 with e4;injection e4 with e4;injection e4 with e4;exact .inr (e4▸h0)
 . obtain⟨q1,l',q2⟩:=s.gU p hp;exact#[by rw[fN (eJ.mp q1).1];exact q1,l',by rw[fN (eJ.mp q2).1];exact q2]
theorem Slots.split{K:Frag}{g1 g2:G}{σ:Sg}{As:List Addr}(q:Slots K M H (g1++g2) σ As):∃σ1 σ2 A1 A2,σ=σ1++σ2/\As=A1++A2/\Slots K M H g1 σ1 A1/\Slots K M H g2 σ2 A2:=by
 induction g1 generalizing σ As with
 |nil=>exact#[[],_,[],_,rfl,rfl,.nil,q]
 |cons o g1 ih=>cases q with
  |no q=>obtain⟨s1,s2,a1,a2,rfl,rfl,h1,h2⟩:=ih q;exact#[_::s1,s2,a1,a2,rfl,rfl,.no h1,h2]
  |dat r q=>obtain⟨s1,s2,a1,a2,rfl,rfl,h1,h2⟩:=ih q;exact#[_::s1,s2,a1,a2,rfl,rfl,.dat r h1,h2]
  |own e r q=>obtain⟨s1,s2,a1,a2,rfl,rfl,h1,h2⟩:=ih q;exact#[_::s1,s2,_::a1,a2,rfl,rfl,.own e r h1,h2]
theorem S.shrink{gb:G}{τ:Sg}{l:List D}{i:Nat}{a:Addr}(s:S z gb (σ++τ) As M H)(hz:∀p∈z.lent,p.1<σ.length)(hi:σ.length<=i)(e1:gb[i]?=!(.own l))(e2:(σ++τ)[i]?=!(!(.ref a))) :
  ∃A1,S z (gb.take σ.length) σ A1 M H/\a∈M/\a∉A1:=by
 have hl:=s.sl.length;rw[eQ]at hl;have q:=s.sl;rw[<- nS σ.length gb]at q;obtain⟨σ1,σ2,A1,A2,h1,h2,h3,h4⟩:=q.split;have l1:=h3.length;rw[mM,A6 ⋯]at l1;obtain⟨rfl,rfl⟩:=List.append_inj h1 l1;subst h2;have hA2:a∈A2:=by
  obtain⟨b,xs,f1,f2,_⟩:=h4.at (by rw[List.getElem?_drop,Nat.add_sub_cancel' hi];exact e1)
  rw[eD hi]at e2;rw[e2]at f1;injection f1 with f1;injection f1 with f1;injection f1 with f1;exact f1▸f2
 have tk:∀(j:Nat) (o:Slot),(gb.take σ.length)[j]?=!o->gb[j]?=!o/\j<σ.length:=λj o e=>by
  have hj:=(eJ.mp e).1;rw[mM]at hj;have hj':=i4 hj (Nat.min_le_left _ _);rw[BM hj']at e;exact#[e,hj']
 refine#[A1,#[h3,(AY.mp s.nd).1,λb hb=>s.sub b (mP _ hb),λj b l' c1 c2=>?_,s.live,s.keep,s.fH,s.m0,s.bm,λp hp=>?_,s.tab,s.tm,s.tt],s.sub a (hV _ hA2),λhA=>(AY.mp s.nd).2.2 a hA a hA2 rfl]
 . obtain⟨c3,c4⟩:=tk j _ c1;exact s.own j b l' c3 (by rw[fN c4];exact c2)
 . obtain⟨c1,l',c2⟩:=s.gU p hp;have x8:=hz p hp;rw[fN x8]at c1;exact#[c1,l',by rw[BM x8];exact c2]
theorem mH(h:yc is (σ++τ) σ')(hi:∀i∈is,σ.length<=i):∃τ',σ'=σ++τ':=by
 refine#[σ'.drop σ.length,?_];have e:σ'.take σ.length=σ:=by
  apply Cs;intro j;rcases AX j σ.length with hj |hj
  . rw[BM hj,h.2 j (λz=>Nat.not_lt.mpr (hi j z) hj),fN hj]
  . rw[AM (by rw[mM];exact oI (Nat.min_le_left _ _) hj),AM hj]
 have:=(nS σ.length σ').symm;rw[e]at this;exact this
end
section
def Yg(X:Cx)(tg:Expr):TG:=λv σ H Q=>∃t,PG X tg t/\t v σ H Q
theorem DY:PG X tg (Yg X tg):=λaj s σ H v u Q I r h=>let #[t,q,k]:=h;q aj s σ H v u Q I r k
def Yh(X:Cx)(ifs:List Expr):TT:=λσ H Q=>∃t,tL X ifs t/\t σ H Q
theorem Ea:tL X ifs (Yh X ifs):=λaj s σ H Q I h=>let #[t,q,k]:=h;q aj s σ H Q I k
def Yi(X:Cx)(e:Expr):TE:=λσ H Q=>∃t,PE X e t/\t σ H Q
theorem Eb:PE X e (Yi X e):=λaj s σ H Q I h=>let #[t,q,k]:=h;q aj s σ H Q I k
theorem mJ(hw:eW X z tg iter g au g1)(ht:∀b:Bk,tW (X.blk N' scope b) z tg T)(hT:∀i∈T.ix,g1.length<=i/\i<g1.length+k)
  (hcp:mG T (g1.length+k) (λg b g'=>∀bk:Bk,jm (X.blk N' scope bk) z ifs g b g') (λg d g'=>∀bk:Bk,aA (X.blk N' scope bk) z lO g (.dat d) g') au (gC k g1) gE) (hacc:gE[g1.length+k]?=!(.own acc)) :
  ∃wi,PI X tg iter wi/\∀σ As M H Q,S z g σ As M H->Kn z (gE.take g1.length) σ M H (.new acc) Q->Dn X k wi (λb=>Yg (X.blk N' scope b) tg) (λb=>Yh (X.blk N' scope b) ifs) (λD b=>JK D (Yi (X.blk N' scope b) lO)) σ H Q:=by
 obtain⟨wi,q,kw⟩:=hw;refine#[wi,q,λσ As M H Q s kq=>kw σ As M H _ s λJ H1 aN M1 s1 bS hJ D hD=>?_]
 have hl:=s1.sl.length;have hz:∀p∈z.lent,p.1<σ.length:=λp hp=>(eJ.mp (s1.gU p hp).1).1
 have Yj:∀i∈T.ix,σ.length<=i:=λi hi=>by rw[<- hl];exact (hT i hi).1
 have jo:g1.length+k∉T.ix:=λh=>yA _ (hT _ h).2
 have s1':=s1.aW (xs:=[]) hD;have h0:=s1.bW hD;have nA:D∉aN:=λh=>s1.fresh hD (s1.sub D h)
 have sb:=s1'.extend (k:=k) bP nA h0 aC .nil;have Yk:(σ++(List.replicate k none++[!(V.ref D)]))[g1.length+k]?=!(!(V.ref D)):=by
  rw[hl,eD (Nat.le_add_right _ _),o6,eD (by rw[tP];exact eA _),tP,D6]
  rfl
 refine yd hJ (λl σ' H'=>∃gb Ab Mb τ,S z gb σ' Ab Mb H'/\ao M1 H1 Mb H'/\σ'=σ++τ/\σ'[g1.length+k]?=!(!(.ref D))/\mG T (g1.length+k) (λg b g'=>∀bk:Bk,jm (X.blk N' scope bk) z ifs g b g') (λg d g'=>∀bk:Bk,aA (X.blk N' scope bk) z lO g (.dat d) g') l gb gE)
  #[_,_,_,_,sb,ao.aW hD,rfl,Yk,hcp] (by rintro _ _ _ ⟨_,_,M2,_,_,aL,_⟩;exact#[M2,aL]) ?_ ?_
 . rintro σ' H' ⟨gb,Ab,Mb,τ,s2,aL,rfl,Yl,cp⟩;cases cp;obtain⟨a,xs,f1,f2,f3,f4⟩:=s2.sl.at hacc;rw[Yl]at f1;injection f1 with f1;injection f1 with f1;injection f1 with f1;subst f1;obtain⟨A1,s3,m3,n3⟩:=s2.shrink hz ⋯ hacc Yl;rw[<- hl]at s3;exact kq _ H' A1 Mb s3 (bS.trans aL) #[D,xs,rfl,m3,n3,h0,f3,f4]
 .
  rintro d l σ' H' ⟨gb,Ab,Mb,τ,s2,aL,rfl,Yl,cp⟩ x H2 yl bk _;obtain⟨s3,fy,rx⟩:=yl Mb aL z gb (σ++τ) Ab rfl s2;obtain⟨t,qt,kt⟩:=ht bk;cases cp with
  |skip e0 hc rest=>
   refine#[t,qt,kt d gb _ e0 x _ Ab Mb H2 _ s3 rx λσ4 wz s4 ag=>?_]
   obtain⟨τ',rfl⟩:=mH ag Yj;obtain⟨t2,q2,k2⟩:=hc bk;refine#[t2,q2,k2 _ wz Mb H2 _ s4 λH5 R8 M5 s5 xO=>?_]
   refine qQ #[_,R8,M5,τ',s5,(aL.trans fy).trans xO,rfl,?_,rest];rw[ag.2 _ jo];exact Yl
  |take e0 hc he ha hz' rest=>
   refine#[t,qt,kt d gb _ e0 x _ Ab Mb H2 _ s3 rx λσ4 wz s4 ag=>?_]
   obtain⟨τ',rfl⟩:=mH ag Yj;obtain⟨t2,q2,k2⟩:=hc bk;obtain⟨t3,q3,k3⟩:=he bk;have hD4:(σ++τ')[g1.length+k]?=!(!(V.ref D)):=by rw[ag.2 _ jo];exact Yl
   refine#[t2,q2,k2 _ wz Mb H2 _ s4 λH5 R8 M5 s5 xO=>qR #[t3,q3,k3 _ R8 M5 H5 _ s5 λv H6 As6 M6 s6 st6 R6=>?_]]
   obtain⟨a,xs,f1,f2,f3,f4⟩:=s6.sl.at ha;rw[hD4]at f1;injection f1 with f1;injection f1 with f1;injection f1 with f1;subst f1;obtain⟨s7,st7⟩:=s6.write ha hD4 (f4.append (.cons R6 .nil));refine#[xs,f3,by rw[<- f4.length];exact hz',_,As6,M6,τ',s7,(((aL.trans fy).trans xO).trans st6).trans st7,rfl,hD4,rest]
theorem Kr(B:bN X.env.scope scope)(hc:X.calm=true)(hN:Names X.N N' scope k)(hw:eW X z tg iter g au g1)(ht:∀b:Bk,tW (X.blk N' scope b) z tg T)(hT:∀i∈T.ix,g1.length<=i/\i<g1.length+k)
  (hcp:mG T (g1.length+k) (λg b g'=>∀bk:Bk,jm (X.blk N' scope bk) z ifs g b g') (λg d g'=>∀bk:Bk,aA (X.blk N' scope bk) z lO g (.dat d) g') au (gC k g1) gE) (hacc:gE[g1.length+k]?=!(.own acc))
  (hs:∀x,foldedSetIterable iter X.env x=pure x):aA X z (.ListComp lO [#[tg,iter,ifs,0]] scope pos) g (.new acc) (gE.take g1.length):=by
 obtain⟨wi,q,kk⟩:=mJ hw ht hT hcp hacc;exact#[_,JQ B hc hN q (λb=>#[DY,Ea,Eb]) hs,kk]
theorem Ks(B:bN X.env.scope scope)(hc:X.calm=true)(hN:Names X.N N' scope k)(hw:eW X z tg iter g au g1)(ht:∀b:Bk,tW (X.blk N' scope b) z tg T)(hT:∀i∈T.ix,g1.length<=i/\i<g1.length+k)
  (hcp:mG T (g1.length+k) (λg b g'=>∀bk:Bk,jm (X.blk N' scope bk) z ifs g b g') (λg d g'=>∀bk:Bk,aA (X.blk N' scope bk) z lO g (.dat d) g') au (gC k g1) gE) (hacc:gE[g1.length+k]?=!(.own acc))
  (XT:X.N.Nodup) (hy:X.N[i]?=!y) (hl:X.env.scope.names.lookup y=some .local) (hb:i∉z.bor) (hi:i<(gE.take g1.length).length)
  (hsw:swapsWith (.ListComp lO [#[tg,iter,ifs,0]] scope pos) (!(.Name y py)) fZ.line X.env=pure true)
  (hs:∀x,foldedSetIterable iter X.env x=pure x):fD X z (.Assign [.Name y py] (.ListComp lO [#[tg,iter,ifs,0]] scope pos) fZ) g .nx ((gE.take g1.length).set i (.own acc)):=by
 obtain⟨wi,q,kk⟩:=mJ hw ht hT hcp hacc;refine#[_,JR B hc hN q (λb=>#[DY,Ea,Eb]) XT hy hl hsw hs,λσ As M H E s kE=>kk σ As M H _ s λv H' aB M' s' st R=>?_]
 obtain⟨a,xs,rfl,hm,hA,h0,ha,rr⟩:=R;obtain⟨bE,s2⟩:=s'.qV hb hi hm hA h0 ha rr;exact kE _ bE M' H' s2 st
end
section
theorem aA.run(he:aA X z e g r g1)(I:L2.Inv X aj σ H s)(st:S z g σ As M H)
  (k:∀v u s1 H1 aN M1,L2.Inv X aj σ H1 s1->RelV v u->S z g1 σ aN M1 H1->ao M H M1 H1->cH z g1 σ aN M1 H1 r v->Post u s1):wpAny (~~~2) X.A (eval e X.env) Post X.xe s:=by
 obtain⟨t,q,kt⟩:=he;exact bA (q aj s σ H (λv H1=>∃aN M1,S z g1 σ aN M1 H1/\ao M H M1 H1/\cH z g1 σ aN M1 H1 r v) I (kt σ As M H _ st λv H1 aN M1 s1 bS R=>#[aN,M1,s1,bS,R])) (by rintro u s1 ⟨v,H1,I1,r1,aN,M1,q1,q2,q3⟩;exact k v u s1 H1 aN M1 I1 r1 q1 q2 q3)
theorem lq.run(ho:lq X z f d1 d2 r)(I:L2.Inv X aj σ H s)(st:S z g σ As M H)(p1:Pk z.K M H d1 v1)(p2:Pk z.K M H d2 v2)(r1:RelV v1 u1)(r2:RelV v2 u2)
  (k:∀v u s1 H1 aN M1,L2.Inv X aj σ H1 s1->RelV v u->S z g σ aN M1 H1->ao M H M1 H1->cH z g σ aN M1 H1 r v->Post u s1):wpAny (~~~2) X.A (f u1 u2) Post X.xe s:=by
 obtain⟨rr,o,ko⟩:=ho;exact bA (o aj s σ H v1 v2 u1 u2 (λv H1=>∃aN M1,S z g σ aN M1 H1/\ao M H M1 H1/\cH z g σ aN M1 H1 r v) I r1 r2 (ko g σ As M H v1 v2 _ st p1 p2 λv H1 aN M1 s1 bS R=>#[aN,M1,s1,bS,R])) (by rintro u s1 ⟨v,H1,I1,r1,aN,M1,q1,q2,q3⟩;exact k v u s1 H1 aN M1 I1 r1 q1 q2 q3)
theorem aA.of (h:∀(aj: ~~~1) (s:Shared) (σ:Sg) (As M:List Addr) (H:Hp) (Post:Value->Shared->Prop),L2.Inv X aj σ H s->S z g σ As M H->
  (∀v u s1 H1 aN M1,L2.Inv X aj σ H1 s1->RelV v u->S z g1 σ aN M1 H1->ao M H M1 H1->cH z g1 σ aN M1 H1 r v->Post u s1)->wpAny (~~~2) X.A (eval e X.env) Post X.xe s):aA X z e g r g1:=
 #[λσ H Q=>∃As M,S z g σ As M H/\Kn z g1 σ M H r Q,by rintro aj s σ H Q I ⟨As,M,st,k⟩;exact h aj s σ As M H _ I st λv u s1 H1 aN M1 I1 r1 q1 q2 q3=>#[v,H1,I1,r1,k v H1 aN M1 q1 q2 q3],λσ As M H Q s k=>#[As,M,s,k]]
theorem cI.of (h:∀(aj: ~~~1) (s:Shared) (σ:Sg) (As M:List Addr) (H:Hp) (Post:Bool->Shared->Prop),L2.Inv X aj σ H s->S z g σ As M H->
  (∀s1 H1 aN M1,L2.Inv X aj σ H1 s1->S z g1 σ aN M1 H1->ao M H M1 H1->Post b s1)->wpAny (~~~2) X.A (isTrue e X.env (eval e X.env)) Post X.xe s):cI X z e g b g1:=
 #[λσ H Q=>∃As M,S z g σ As M H/\(∀H' aB M',S z g1 σ aB M' H'->ao M H M' H'->Q b H'),by rintro aj s σ H Q I ⟨As,M,st,k⟩;exact h aj s σ As M H _ I st λs1 H1 aN M1 I1 q1 q2=>#[H1,I1,k H1 aN M1 q1 q2],λσ As M H Q s k=>#[As,M,s,k]]
inductive qY(X:Cx)(z:Z):D->List CmpOp->List Expr->G->Bool->G->Prop
 |last {d1 d2:D}{op:CmpOp}{b:Expr}{g g1:G}{c:Bool}:aA X z b g (.dat d2) g1->lq X z (compareOp op) d1 d2 (.dat (.bl c))->qY X z d1 [op] [b] g c g1
 |stop {d1 d2:D}{op op':CmpOp}{ops:List CmpOp}{b b':Expr}{bs:List Expr}{g g1:G}:aA X z b g (.dat d2) g1->lq X z (compareOp op) d1 d2 (.dat (.bl false))->qY X z d1 (op::op'::ops) (b::b'::bs) g false g1
 |link {d1 d2:D}{op op':CmpOp}{ops:List CmpOp}{b b':Expr}{bs:List Expr}{g g1 g2:G}{c:Bool}:aA X z b g (.dat d2) g1->lq X z (compareOp op) d1 d2 (.dat (.bl true))->qY X z d2 (op'::ops) (b'::bs) g1 c g2->qY X z d1 (op::op'::ops) (b::b'::bs) g c g2
theorem R9(h:qY X z d1 ops bs g c g'):∀(aj: ~~~1) (s:Shared) (σ:Sg) (H:Hp) (As M:List Addr) (Post:Value->Shared->Prop) (v1:V) (u1:Value),L2.Inv X aj σ H s->S z g σ As M H->Rep z.K M H d1 v1->RelV v1 u1->
  (∀s1 H' aB M',L2.Inv X aj σ H' s1->S z g' σ aB M' H'->ao M H M' H'->Post (.bool c) s1)->wpAny (~~~2) X.A (compareChain pos u1 ops (evalEach bs X.env)) Post X.xe s:=by
 induction h with
 |@last d1 d2 op b g g1 c he ho=>
  intro aj s σ H As M Post v1 u1 I st r rv k;refine chain_last (he.run I st λv u s1 H1 aN M1 I1 r1 q1 q2 q3=>ho.run I1 q1 (.of (r.stay q2)) (.of q3) rv r1 λv' u' s2 H2 bE M2 I2 r2 p1 p2 p3=>?_)
  rw[dW p3]at r2;cases r2;exact k s2 H2 bE M2 I2 p1 (q2.trans p2)
 |@stop d1 d2 op op' ops b b' bs g g1 he ho=>
  intro aj s σ H As M Post v1 u1 I st r rv k;refine chain_link (he.run I st λv u s1 H1 aN M1 I1 r1 q1 q2 q3=>ho.run I1 q1 (.of (r.stay q2)) (.of q3) rv r1 λv' u' s2 H2 bE M2 I2 r2 p1 p2 p3=>?_)
  rw[dW p3]at r2;cases r2;exact t8 (ite_ff (k s2 H2 bE M2 I2 p1 (q2.trans p2)))
 |@link d1 d2 op op' ops b b' bs g g1 g2 c he ho hch ih=>
  intro aj s σ H As M Post v1 u1 I st r rv k;refine chain_link (he.run I st λv u s1 H1 aN M1 I1 r1 q1 q2 q3=>ho.run I1 q1 (.of (r.stay q2)) (.of q3) rv r1 λv' u' s2 H2 bE M2 I2 r2 p1 p2 p3=>?_)
  rw[dW p3]at r2;cases r2;exact t8 (ite_tt (ih aj s2 σ H2 bE M2 Post v u I2 p1 (Rep.stay p2 q3) r1 λs3 H3 Ym M3 I3 w1 w2=>k s3 H3 Ym M3 I3 w1 ((q2.trans p2).trans w2)))
theorem Ku(h:qY X z d1 ops bs g c g'):∀(aj: ~~~1) (s:Shared) (σ:Sg) (H:Hp) (As M:List Addr) (Post:Bool->Shared->Prop) (v1:V) (u1:Value),L2.Inv X aj σ H s->S z g σ As M H->Rep z.K M H d1 v1->RelV v1 u1->
  (∀s1 H' aB M',L2.Inv X aj σ H' s1->S z g' σ aB M' H'->ao M H M' H'->Post c s1)->wpAny (~~~2) X.A (testChain pos u1 ops (evalEach bs X.env)) Post X.xe s:=by
 induction h with
 |@last d1 d2 op b g g1 c he ho=>
  intro aj s σ H As M Post v1 u1 I st r rv k;refine test_last (he.run I st λv u s1 H1 aN M1 I1 r1 q1 q2 q3=>ho.run I1 q1 (.of (r.stay q2)) (.of q3) rv r1 λv' u' s2 H2 bE M2 I2 r2 p1 p2 p3=>?_)
  rw[dW p3]at r2;cases r2;exact t8 (k s2 H2 bE M2 I2 p1 (q2.trans p2))
 |@stop d1 d2 op op' ops b b' bs g g1 he ho=>
  intro aj s σ H As M Post v1 u1 I st r rv k;refine test_link (he.run I st λv u s1 H1 aN M1 I1 r1 q1 q2 q3=>ho.run I1 q1 (.of (r.stay q2)) (.of q3) rv r1 λv' u' s2 H2 bE M2 I2 r2 p1 p2 p3=>?_)
  rw[dW p3]at r2;cases r2;exact t8 (ite_ff (k s2 H2 bE M2 I2 p1 (q2.trans p2)))
 |@link d1 d2 op op' ops b b' bs g g1 g2 c he ho hch ih=>
  intro aj s σ H As M Post v1 u1 I st r rv k;refine test_link (he.run I st λv u s1 H1 aN M1 I1 r1 q1 q2 q3=>ho.run I1 q1 (.of (r.stay q2)) (.of q3) rv r1 λv' u' s2 H2 bE M2 I2 r2 p1 p2 p3=>?_)
  rw[dW p3]at r2;cases r2;exact t8 (ite_tt (ih aj s2 σ H2 bE M2 Post v u I2 p1 (Rep.stay p2 q3) r1 λs3 H3 Ym M3 I3 w1 w2=>k s3 H3 Ym M3 I3 w1 ((q2.trans p2).trans w2)))
theorem Ec(ha:aA X z a g (.dat d1) g1)(h:qY X z d1 (Se::Sf::ops) (b1::b2::bs) g1 c g2)(hm:lastMarks (Se::Sf::ops) (b1::b2::bs)=false):aA X z (.Compare a (Se::Sf::ops) (b1::b2::bs) pos) g (.dat (.bl c)) g2:=
 aA.of λaj s σ As M H Post I st k=>Compare_chain (ha.run I st λv u s1 H1 aN M1 I1 r1 q1 q2 q3=>R9 h aj s1 σ H1 aN M1 Post v u I1 q1 q3 r1 λs2 H2 bE M2 I2 p1 p2=>k (.bl c) (.bool c) s2 H2 bE M2 I2 rfl p1 (q2.trans p2) (.bl c)) hm
theorem Ed(ha:aA X z a g (.dat d1) g1)(h:qY X z d1 (Se::Sf::ops) (b1::b2::bs) g1 c g2)(hm:lastMarks (Se::Sf::ops) (b1::b2::bs)=false):cI X z (.Compare a (Se::Sf::ops) (b1::b2::bs) pos) g c g2:=
 cI.of λaj s σ As M H Post I st k=>isTrue_chain (ha.run I st λv u s1 H1 aN M1 I1 r1 q1 q2 q3=>Ku h aj s1 σ H1 aN M1 Post v u I1 q1 q3 r1 λs2 H2 bE M2 I2 p1 p2=>k s2 H2 bE M2 I2 p1 (q2.trans p2)) hm
noncomputable def Kv:D->Option Bool
 |.bl b=>!b
 |.non=>!false
 |.int i=>!(i != 0)
 |.lst l=>!((not l.isEmpty))
 |.tup l=>!((not l.isEmpty))
 |.fix l=>!((not l.isEmpty))
 |_=>none
end
end Ev
namespace HT
end HT
namespace Ev
open L2
def Kw{α:Type}(xs:List α)(lo hi:Option Int):List α:=(xs.drop (HT.sP xs.length 0 lo)).take (HT.sP xs.length xs.length hi - HT.sP xs.length 0 lo)
section
variable{lo hi:Option Expr}
def Ef(X:Cx)(z:Z)(e:Option Expr)(g:G)(o:Option Int)(g':G):Prop:=
 ∃t,PO X e t/\∀σ As M H (Q:Option Int->Hp->Prop),S z g σ As M H->(∀H' aB M',S z g' σ aB M' H'->ao M H M' H'->Q o H')->t σ H Q
theorem zX:Ef X z none g none g:=#[_,Jz,λσ As M H Q s k=>k H As M s (ao.refl _ _)]
theorem zY(h:aA X z e g ‹i› g1):Ef X z (!e) g (!i) g1:=by
 obtain⟨t,q,k⟩:=h;refine#[_,JB q,λσ As M H Q s kk=>k σ As M H _ s λv H' aB M' s' st R=>?_]
 have R':=R;cases R';exact#[i,rfl,kk H' aB M' s' st]
theorem aG.cut{K:Frag}{M:List Addr}{H:Hp}{ds:List D}{vs:List V}(r:aG K M H ds vs)(l u:Option Int):aG K M H (Kw ds l u) (Dg vs l u):=by unfold Kw Dg;rw[r.length];exact aG.take _ (aG.drop _ r)
theorem zZ{r:R}{l:List D}{d:D}{i j:Option Int}(hK:z.K=X.K)(h:aA X z a g r g1)(h1:Ef X z lo g1 i g2)(h2:Ef X z hi g2 j g3)(hp:pk r g3=!(.lst l)):aA X z (.Subscript a (.Slice lo hi none p2) pos) g (.new (Kw l i j)) g3:=by
 obtain⟨t,q,k⟩:=h;obtain⟨t1,q1,k1⟩:=h1;obtain⟨t2,q2,k2⟩:=h2;refine#[_,Df JD q q1 q2,λσ As M H Q s kk=>k σ As M H _ s λv H1 aN M1 s1 bS R=>k1 σ aN M1 H1 _ s1 λH2 bE M2 s2 aL=>k2 σ bE M2 H2 _ s2 λH3 Ym M3 s3 fy=>?_]
 obtain⟨b,xs,rfl,e1,e2⟩:=(s3.pk (aL.trans fy) R hp).list;refine#[b,xs,rfl,bD.of e1,λp hp=>?_]
 exact kk _ _ Ym (p::M3) (s3.aW hp) (((bS.trans aL).trans fy).trans (ao.aW hp)) #[p,_,rfl,bP,λhA=>s3.fresh hp (s3.sub p hA),s3.bW hp,aC,(e2.cut i j).stay (ao.aW hp)]
theorem Eg(hK:z.K=X.K)(h:aA X z e g r g1)(hp:pk r g1=!d)(hb:Kv d=!b)(he:∀whole,isTrue e X.env whole=(do let v <- whole;standAt e.pos;holding [v] (truthy v))):cI X z e g b g1:=by
 obtain⟨t,q,k⟩:=h;refine#[_,CZ q he,λσ As M H Q s kk=>k σ As M H _ s λv H1 aN M1 s1 bS R=>#[b,?_,kk H1 aN M1 s1 bS]]
 have p:=s1.pk (ao.refl _ _) R hp;cases d with
 |non=>rw[p.non];cases hb;rfl
 |bl c=>rw[p.bl];cases hb;rfl
 |int i=>rw[p.int];cases hb;rfl
 |str x=>cases hb
 |emp _=>cases hb
 |kF _=>cases hb
 |Dr _ _=>cases hb
 |lst l=>obtain⟨a,xs,rfl,e1,e2⟩:=p.list;cases hb;refine .inl #[xs,bD.of e1,?_];cases e2 <;> rfl
 |tup l=>obtain⟨a,xs,rfl,e1,e2⟩:=p.tup;cases hb;refine .inr (.inl #[xs,hK▸e1.sq,?_]);cases e2 <;> rfl
 |fix l=>obtain⟨a,xs,rfl,e1,e2⟩:=p.fix;cases hb;refine .inl #[xs,hK▸e1.sq,?_];cases e2 <;> rfl
end
section
theorem Sh(I:L2.Inv X aj σ H s)(p:Pk X.K M H d v)(r:RelV v u):∃Hh,PySem.W.KitX X.K u (Cb d) Hh/\Hh s.heap/\u≠.builtin "__main__.__loader__#opaque" :=by
 cases d with
 |non=>have q:=p.non;subst q;cases r;exact#[_,PySem.W.kitx_none,True.intro,λz=>nomatch z]
 |bl y=>have q:=p.bl;subst q;cases r;exact#[_,PySem.W.kitx_bool,True.intro,λz=>nomatch z]
 |int i=>have q:=p.int;subst q;obtain⟨t,rfl⟩:=r;exact#[_,PySem.W.kitx_int,True.intro,λz=>nomatch z]
 |str y=>have q:=p.str;subst q;obtain⟨t,rfl⟩:=r;exact#[_,PySem.W.kitx_str,True.intro,λz=>nomatch z]
 |tup l=>obtain⟨a,xs,rfl,ha,_⟩:=p.tup;cases r;obtain⟨its,_,⟨o,h1,h2,_⟩,_⟩:=I.tuple ha.sq;exact#[_,PySem.W.kitx_tuple,#[o,h1,h2],λz=>nomatch z]
 |lst l=>obtain⟨a,xs,rfl,ha,_⟩:=p.list;cases r;obtain⟨its,_,pl,_⟩:=I.list (bD.of ha);obtain⟨o,h1,h2,_⟩:=pl.isList;exact#[_,DU,#[o,h1,h2],λz=>nomatch z]
 |fix l=>obtain⟨a,xs,rfl,ha,_⟩:=p.fix;cases r;obtain⟨its,_,pl,_⟩:=I.list ha.sq;obtain⟨o,h1,h2,_⟩:=pl.isList;exact#[_,DU,#[o,h1,h2],λz=>nomatch z]
 |emp m=>
  cases p with
  |of q=>
   cases q with
   |emp _ ha=>cases r;obtain⟨_,_,_,vs,_,o,es,ep,h1,h2,_⟩:=I.hok _ _ ha;exact#[_,DV,#[o,h1,h2.1],λz=>nomatch z]
 |kF C=>
  cases p with
  |of q=>
   cases q with
   |kF k _ ha=>cases r;obtain⟨⟨o,h1,h2,h3,h4⟩,_⟩:=I.hok _ _ ha;exact#[_,tU k,#[o,h1,h2,h3,by rw[h4];trivial],λz=>nomatch z]
 |Dr ks ds=>
  cases p with
  |of q=>
   cases q with
   |Dr _ ha _ _=>cases r;obtain⟨_,_,vs,_,o,es,ep,h1,h2,_⟩:=I.hok _ _ ha;exact#[_,DV,#[o,h1,h2.1],λz=>nomatch z]
theorem yg:∀{ns:List String}{us:List Value},Vals (ns.map V.ty) us->us=ns.map Value.type
 | [],_,r=>by rw[List.map_nil]at r;cases r;rfl
 |n::ns,_,r=>by
  cases r with
  |cons r1 r2=>cases r1;rw[yg r2];rfl
theorem z7:bV X (.builtin "isinstance") (λxs H Q=>∃(x:V) (p:Addr) (ns:List String) (M:List Addr) (d:D) (b:Bool),xs=[x,.ref p]/\Pk X.K M H d x/\fG X.K H p (ns.map V.ty)/\PySem.W.kitAny X.K (Cb d) (ns.map Value.type)=!b/\Q (.bl b) H):=by intro aj s σ H xs us Q I r h;obtain⟨x,p,ns,M,d,b,rfl,pk,hp,e,q⟩:=h;obtain⟨u,w',rfl,r1,r2⟩:=vals2 r;cases r2;obtain⟨Hh,Zk,hH,hx⟩:=Sh I pk r1;obtain⟨its,rv,⟨o,h1,h2,n,h3⟩,_⟩:=I.tuple hp;rw[yg rv]at h3;obtain⟨c,dd,dt,sl⟩:=o;have h2':=h2;have h3':=h3;subst h2' h3';exact PySem.W.kia_tup Zk I.oA hH h1 e hx λtk=>#[.bl b,H,I.tok tk,rfl,q]
structure TyOk(X:Cx)(T:Str)(n:String):Prop where
 gl:Gl X T
 mg:X.mg T=none
 bt:bootBuiltins T=!(.type n)
 nn:T≠ "__name__"
 db:(T==(~~~3))=false
inductive mK(X:Cx):List Expr->List String->Prop
 |nil:mK X [] []
 |cons {T:Str}{n:String}{p:Pos}{es:List Expr}{ns:List String}:TyOk X T n->mK X es ns->mK X (.Name T p::es) (n::ns)
theorem mK.pa(h:mK X es ns):∃t,PA X es t/\∀σ H (Q:List V->Hp->Prop),Q (ns.map V.ty) H->t σ H Q:=by
 induction h with
 |nil=>exact#[_,eS,λσ H Q q=>q]
 |@cons T n p es ns h _ ih=>obtain⟨t,q,k⟩:=ih;have pT:PE X (.Name T p) (tC (.ty n)):=qF h.gl h.mg h.bt rfl h.nn h.db;exact#[_,bB pT q rfl,λσ H Q hq=>k σ H _ hq]
theorem Ky(hK:z.K=X.K)(h:aA X z a g r1 g1)(hp:pk r1 g1=!d)(ht:mK X es ns)(hl:ns.length<=16777216)(he:∀M H v,Pk X.K M H d v->PySem.W.kitAny X.K (Cb d) (ns.map Value.type)=!b)
  (hg:Gl X "isinstance") (hm:X.mg "isinstance"=none) (hv:bootBuiltins "isinstance"=!(.builtin "isinstance"))
  (hs:starEach [a,.Tuple es k pT] X.env=(false,eval a X.env)::starEach [.Tuple es k pT] X.env):aA X z (.Call (.Name "isinstance" p) [a,.Tuple es k pT] [] pos) g (.dat (.bl b)) g1:=by
 obtain⟨t,q,kk⟩:=h;obtain⟨tt,qt,kt⟩:=ht.pa;refine#[_,jf z7 hg hm hv (bB q (bB (Dd qt) eS) hs) ⋯ ⋯ hs,λσ As M H Q s kq=>kk σ As M H _ s λv H' aB M' s' st R=>kt σ H' _ #[by rw[dE];exact jh hl,λa ha=>?_]]
 have s2:=s'.laid (o:=.tup (ns.map V.ty)) ha;have pp:=s'.pk (ao.refl _ _) R hp;refine#[v,a,ns,M',d,b,rfl,?_,.inl (.inl aC),he _ _ _ (hK▸pp),kq _ _ aB M' s2 (st.trans (ao.laid ha)) (.bl b)];rw[<- hK];cases pp with
 |of r=>exact .of (r.stay (ao.laid ha))
 |lst e1 e2=>exact .lst (by rw[az (aH e1 ha)];exact e1) (e2.stay (ao.laid ha))
theorem z8(hN:X.N[i]?=!x)(hv:sW X.env.scope x)(hd:(x==(~~~3))=false)(bM:(x==("__classdict__":Str))=false)(hg:g[i]?=!(.own l0))(h:cu X z [e] g [.dat (.lst m)] g1)(zW:g1[i]?=!(.own l))(hl:l.length+m.length<=16777216)
  (hbase:attributeBase (.Name x pn) "extend" X.env (eval (.Name x pn) X.env)=eval (.Name x pn) X.env)
  (hline:(dB.endLine==cM.line)=true) (hs:starEach [e] X.env=(false,eval e X.env)::starEach [] X.env):aA X z (.Call (.Attribute (.Name x pn) "extend" dB) [e] [] cM) g (.dat .non) (g1.set i (.own (l++m))):=by
 obtain⟨t,q,k⟩:=h;refine#[_,Dh PySem.F.plainAttrs_list PySem.F.slot_list_extend PySem.F.type_list_extend zH (fK hN hv hd bM) q hbase (by rw[hs];rfl) hline hs rfl,λσ As M H Q s kk=>?_]
 obtain⟨a,xs,e1,e2,e3,e4⟩:=s.sl.at hg;refine#[.ref a,e1,.inl #[rfl,xs,bD.of e3],k σ As M H _ s λvs H' aB M' s' st R=>?_]
 obtain⟨b,ys,f1,f2,f3,f4⟩:=s'.sl.at zW;rw[e1]at f1;injection f1 with f1;injection f1 with f1;injection f1 with f1;subst f1;cases R with
 |dat r R=>
  cases R;cases r with
  |@lst _ c zs hc rr=>
   refine#[a,c,ys,zs,rfl,rfl,f3,hc.2,by rw[<- f4.length,<- rr.length];exact hl,?_]
   obtain⟨s2,aL⟩:=s'.write zW e1 (f4.append rr);exact kk _ _ aB M' s2 (st.trans aL) .non
end
noncomputable def ins(a:Int): ~~~0->List Int
 | []=>[a]
 |b::l=>if a<=b then a::b::l else b::ins a l
def gW: ~~~0->List Int
 | []=>[]
 |a::l=>ins a (gW l)
theorem mL(a:Int):∀l:List Int,(ins a l).Perm (a::l)
 | []=>nV _
 |b::l=>by
  unfold ins;split
  . exact nV _
  . exact ((mL a l).cons b).trans (List.Perm.swap a b l)
theorem dh:∀l:List Int,(gW l).Perm l
 | []=>nV _
 |a::l=>(mL a _).trans ((dh l).cons a)
theorem mO(a:Int):∀{l: ~~~0},l.Pairwise (· <= ·)->(ins a l).Pairwise (· <= ·)
 | [],_=>u8 _ _
 |b::l,h=>by
  obtain⟨h1,h2⟩:=y7.mp h;unfold ins;split
  .
   rename_i hab;refine y7.mpr #[λx hx=>?_,h]
   rcases dA.mp hx with rfl |hx
   . exact hab
   . exact Int.le_trans hab (h1 x hx)
  .
   rename_i hab;refine y7.mpr #[λx hx=>?_,mO a h2]
   rcases dA.mp ((mL a l).mem_iff.mp hx)with rfl |hx
   . lia
   . exact h1 x hx
theorem jq:∀l:List Int,(gW l).Pairwise (· <= ·)
 | []=>List.Pairwise.nil
 |a::l=>mO a (jq l)
theorem wA(hp:m.Perm l)(hs:m.Pairwise (· <= ·)):m=gW l:=
 (hp.trans (dh l).symm).eq_of_pairwise (λx y _ _ h1 h2=>Int.le_antisymm h1 h2) hs (jq l)
section
theorem gZ(hl:IsTup s.heap l vs.toArray)
  (h:Q vs { s with heap:=(s.heap.push (seqObj "list" ([].toArray) 0)).update s⁻¹ (Obj.mapSeq (· ++ vs.toArray))}) (hsz:vs.length<=sizeLine) :
  wpAny (model prog w) A (collect (.ref l)) Q E s:=by
 obtain⟨o,ho,hc,n,hd⟩:=id hl;refine aS (wpAny_runValue (AJ entry_proto_collect' ?_));refine aS (Dx (dL #[Code.quiet_builtin _ (by decide +kernel),AJ entry_list_iadd' ?_]))
 show wpAny _ _ (Builtin.List.listExtendWith (.ref s⁻¹) (.ref l) (.ref s⁻¹)) _ _ { s with heap:=s.heap.push (seqObj "list" ([].toArray) 0)};have ho':(s.heap.push (seqObj "list" ([].toArray) 0)).get? l=!o:=a7 _ ho;refine aS (wpAny_typeOf #[o,ho',hc] ?_);have ht:(Value.type "tuple" == Value.type "tuple")=true:=by rfl
 rw[tJ (by rw[ht];simp)]
 refine aS (listItems_at ho' hd ?_);refine aS (listItems_at (dC _ rfl) rfl ?_);refine aS (listUpdate_at (dC _ rfl) rfl ?_ (sR _) (by show (([].toArray)++vs.toArray).size<=sizeLine+1;simp only[Array.size_append,eP,List.length_nil];lia))
 refine dL ?_;refine aS (wpAny_load (get?_update_seq (dC _ rfl) _) ?_);show wpAny _ _ (pure ((([].toArray):Array Value)++vs.toArray).toList) Q E _;rw[show ((([].toArray):Array Value)++vs.toArray).toList=vs by simp]
 exact dL h
theorem qZ(hl:IsTup s.heap l vs.toArray)(hI:IntsAre vs ns)(h64:vs.length<64)
  (h:∀(out:Array Value) (ns': ~~~0),IntsAre out.toList ns'->ns'.Perm ns->ns'.Pairwise (· <= ·)->Q (.ref (s⁻¹+1)) { s with heap:=sortedAll s.heap vs out}) :
  wpAny (model prog w) A (call (.builtin "sorted") [.ref l]) Q E s:=by
 refine CH kind_sorted plain_sorted entry_sorted (args_sorted1 _) ?_;refine aS (dL ?_);refine aS (gZ hl ?_ (by rw[t7];lia))
 refine aS (Dx ?_);have hsz:((s.heap.push (seqObj "list" ([].toArray) 0)).update s⁻¹ (Obj.mapSeq (· ++ vs.toArray))).objs.size=s⁻¹+1:=by rw[Heap.size_update,size_push']
 have hoL:(((s.heap.push (seqObj "list" ([].toArray) 0)).update s⁻¹ (Obj.mapSeq (· ++ vs.toArray))).push (seqObj "list" vs.toArray 0)).get? (s⁻¹+1)=!(seqObj "list" vs.toArray 0):=by rw[<- hsz];exact dC _ rfl
 rw[hsz];refine aS (sB (wE slot_list_sort #[_,hoL,rfl] entry_list_sort (list_sort_tree hoL hI h64 λout ns' a1 a2 a3=>#[_,rfl,?_]) (args_list_sort _)))
 exact dL #[_,rfl,h out ns' a1 a2 a3]
end
section
theorem tY:bV X (.builtin "sorted") (λxs H Q=>∃p ns,xs=[.ref p]/\(bD X.K H p (ns.map V.int)\/fG X.K H p (ns.map V.int))/\ns.length<64/\∀q,H q=none->Q (.ref q) (upd H q (.lst ((gW ns).map V.int)))):=by
 intro aj s σ H xs us Q I r h;obtain⟨p,ns,rfl,hq,hl,q⟩:=h;obtain⟨u,rfl,rx⟩:=vals1 r;cases rx;have fin:∀(vs:List Value) (out:Array Value) (ns': ~~~0),IntsAre out.toList ns'->ns'.Perm ns->ns'.Pairwise (· <= ·)->EP X aj σ Q (.ref (s⁻¹+1)) { s with heap:=sortedAll s.heap vs out}:=λvs out ns' a1 a2 a3=>by
  have e:=wA a2 a3;subst e;obtain⟨ep,he⟩:=sortedAll_at s.heap vs out;have aM:=(dh ns).length_eq;refine#[.ref (s⁻¹+1),_,I.laid (λb o e=>sortedAll_old e) (BI _) ?_,rfl,q _ (I.hok.fresh (BI _))]
  refine#[by rw[dE,t7];lia,out.toList,ep,pG a1,?_]
  rw[he]
 rcases hq with hq |hq
 . obtain⟨its,r',pl,hz⟩:=I.list hq;have aM:=r'.length;rw[dE]at aM;exact sorted_ints pl.isList (intsAre_of r') ⋯ λout ns' a1 a2 a3=>fin its out ns' a1 a2 a3
 . obtain⟨its,r',pl,hz⟩:=I.tuple hq;have aM:=r'.length;rw[dE]at aM;exact qZ pl (intsAre_of r') ⋯ λout ns' a1 a2 a3=>fin its out ns' a1 a2 a3
theorem pO{K:Frag}{M:List Addr}{H:Hp}:∀ns:List Int,aG K M H (ns.map D.int) (ns.map V.int)
 | []=>.nil
 |n::ns=>.cons (.int n) (pO ns)
theorem z9(hK:z.K=X.K)(h:bF d=!l)(hi:bu l=!ns)(hl:ns.length<64):CallD X z (.builtin "sorted") [d] (.new ((gW ns).map .int)):=by
 refine#[_,tY,λg σ As M H vs Q s p k=>?_]
 obtain⟨v,rfl,pv⟩:=p.one;have fin:∀q,H q=none->Q (.ref q) (upd H q (.lst ((gW ns).map V.int))):=λq hq=>k _ _ As (q::M) (s.aW hq) (ao.aW hq) #[q,_,rfl,bP,λhA=>s.fresh hq (s.sub q hA),s.bW hq,aC,pO _]
 cases d with
 |lst m=>symm;obtain⟨a,xs,rfl,e1,e2⟩:=pv.list;have:=bx e2 hi;subst this;exact#[a,ns,rfl,.inl (bD.of e1),hl,fin]
 |tup m=>symm;obtain⟨a,xs,rfl,e1,e2⟩:=pv.tup;have:=bx e2 hi;subst this;exact#[a,ns,rfl,.inr (hK▸e1.sq),hl,fin]
 |fix m=>symm;obtain⟨a,xs,rfl,e1,e2⟩:=pv.fix;have:=bx e2 hi;subst this;exact#[a,ns,rfl,.inl (hK▸e1.sq),hl,fin]
 |_=>symm
end
section
theorem cu.run(ha:cu X z es g rs g1)(I:L2.Inv X aj σ H s)(st:S z g σ As M H)
  (k:∀vs us s1 H1 aN M1,L2.Inv X aj σ H1 s1->Vals vs us->S z g1 σ aN M1 H1->ao M H M1 H1->iz z σ M1 H1 rs vs->Post us s1):wpAny (~~~2) X.A (spliced (backTo pos (starEach es X.env))) Post X.xe s:=by
 obtain⟨t,q,kt⟩:=ha;exact bA (q pos aj s σ H (λvs H1=>∃aN M1,S z g1 σ aN M1 H1/\ao M H M1 H1/\iz z σ M1 H1 rs vs) I (kt σ As M H _ st λvs H1 aN M1 s1 bS R=>#[aN,M1,s1,bS,R])) (by rintro us s1 ⟨vs,H1,I1,r1,aN,M1,q1,q2,q3⟩;exact k vs us s1 H1 aN M1 I1 r1 q1 q2 q3)
end
section
theorem dD{ns: ~~~0}{its:List Value}(r:Vals (ns.map V.int) its){i:Nat}{v:Value}(h:its[i]?=!v):∃t,v=.int (ns.getD i 0) t:=by
 have hi:i<ns.length:=by have:=(eJ.mp h).1;have e:=r.length;rw[dE]at e;lia
 obtain⟨w,e1,e2⟩:=r.get (i:=i) (x:=V.int ns[i]) (by simp[hi])
 rw[h]at e1;cases e1;obtain⟨t,e⟩:=e2;exact#[t,by rw[e];simp[hi]]
theorem Eh(hc:X.calm=true):bV X (.builtin "sum") (λxs H Q=>∃(p:Addr) (ns: ~~~0),xs=[.ref p]/\(bD X.K H p (ns.map V.int)\/fG X.K H p (ns.map V.int))/\Q (.int ns.sum) H):=by
 intro aj s σ H xs us Q I r h;obtain⟨p,ns,rfl,hp,q⟩:=h;obtain⟨u,rfl,rx⟩:=vals1 r;cases rx;have hh:X.A.in1.handled=none:=I.ok.hd hc;have fin:∀(o:Obj) (s':Shared) (t':Tok) (its:List Value),Vals (ns.map V.int) its->Moved [s⁻¹] (λa b=>b=a) { s with heap:=s.heap.push o} s'->EP X aj σ Q (.int (preSum (λi=>ns.getD i 0) its.toArray.size) t') s':=by
  intro o s' t' its rv hm;obtain⟨h',g',d',tk',os'⟩:=s';obtain⟨m1,m2,m3,m4,m5⟩:=hm;have e1:=m2;have e2:=m3;have e3:=m4;subst e1 e2 e3;have aM:its.length=ns.length:=by rw[<- rv.length,dE]
  have I1:L2.Inv X aj σ H { s with heap:=h',toks:=tk'}:=I.kept λb ob e=>m1 b ob (λhm=>by
   have:b=s⁻¹:=by simpa using hm
   exact absurd (fI e) (by rw[this];exact yA _)) (a7 _ e)
  refine#[.int ns.sum,H,I1,#[t',?_],q];rw[preSum_getD,eP,aM,D8]
 rcases hp with hp |hp
 .
  obtain⟨its,rv,pl,hz⟩:=I.list hp;have hlt:p<s⁻¹:=by obtain⟨_,e,_⟩:=pl.isList;exact fI e
  refine call_sum_walkAnyS (AR pl.isList ?_);refine#[s⁻¹,_,_,_,_,_,_,λi=>ns.getD i 0,rfl,(EV hh s⁻¹ p (i6 hlt) its.toArray).toS,#[#[_,dC _ rfl,rfl,rfl],pl.isList.push _],λb hb=>?_,λi v hv=>dD rv (by simpa using hv),λs' t' hm=>fin _ s' t' its rv hm]
  simp only[dA,nN,A8]at hb;rcases hb with rfl |rfl
  . exact v0 (t9 _) (oQ _ _).symm
  . exact v0 (AD hlt) (oQ _ _).symm
 .
  obtain⟨its,rv,pl,hz⟩:=I.tuple hp;have hlt:p<s⁻¹:=by obtain⟨_,e,_⟩:=pl;exact fI e
  have Ei:=pl;refine call_sum_walkAnyS (AF Ei ?_);refine#[s⁻¹,_,_,_,_,_,_,λi=>ns.getD i 0,rfl,(Walks.tuple hh s⁻¹ p (i6 hlt) its.toArray).toS,#[#[_,dC _ rfl,rfl,rfl],?_],λb hb=>?_,λi v hv=>dD rv (by simpa using hv),λs' t' hm=>fin _ s' t' its rv hm]
  . exact IsTup.keeps Ei λb o e=>a7 _ e
  .
   simp only[dA,nN,A8]at hb;rcases hb with rfl |rfl
   . exact v0 (t9 _) (oQ _ _).symm
   . exact v0 (AD hlt) (oQ _ _).symm
theorem Si(hc:X.calm=true)(hK:z.K=X.K)(h:bF d=!l)(hi:bu l=!ns):CallD X z (.builtin "sum") [d] (.dat (.int ns.sum)):=by
 refine#[_,Eh hc,λg σ As M H vs Q s p k=>?_]
 obtain⟨v,rfl,pv⟩:=p.one;have fin:=k _ _ As M s (ao.refl _ _) (.int _);cases d with
 |lst m=>symm;obtain⟨a,xs,rfl,e1,e2⟩:=pv.list;have:=bx e2 hi;subst this;exact#[a,ns,rfl,.inl (bD.of e1),fin]
 |tup m=>symm;obtain⟨a,xs,rfl,e1,e2⟩:=pv.tup;have:=bx e2 hi;subst this;exact#[a,ns,rfl,.inr (hK▸e1.sq),fin]
 |fix m=>symm;obtain⟨a,xs,rfl,e1,e2⟩:=pv.fix;have:=bx e2 hi;subst this;exact#[a,ns,rfl,.inl (hK▸e1.sq),fin]
 |_=>symm
end
theorem mQ(o:Obj)(f):(o.mapFields f).dict=o.dict:=by obtain⟨c,d,dt,sl⟩:=o;cases dt <;> rfl
structure sQ(h₀:Heap)(x C:Addr)(H:Hp)(h:Heap):Prop where
 obj:∃oe vs,h.get? x=!oe/\oe.cls=.ref C/\oe.dict=none/\oe.data=.fields vs/\1<vs.size/\(vs[1]?=some .none\/∃T oT ts,vs[1]?=!(.ref T)/\T≠x/\h₀.get? T=none/\H T=none/\h.get? T=!oT/\oT.data=.fields ts/\ts[3]?=some .none)
 new:h₀.get? x=none
 no:H x=none
section
theorem jr
  (hfr:A.frames=!(env::outer)) (hl:s.heap.FunFrames base (env::outer)) (hf:env.frame=!L) (he:s.heap.get? x=!oe) (hd:oe.data=.fields vs) (hsz:1<vs.size)
  (h:∀h',(∀b o,b∉frs (env::outer)->b≠x->s.heap.get? b=!o->h'.get? b=!o)->(∀b o,b∈frs (env::outer)->s.heap.get? b=!o->∃sl,h'.get? b=some { o with slots:=sl})->
   (∃Cd vs' oT ts,h'.get? x=!Cd/\Cd.cls=oe.cls/\Cd.dict=oe.dict/\Cd.data=.fields vs'/\1<vs'.size/\vs'[1]?=!(.ref s⁻¹)/\h'.get? s⁻¹=!oT/\oT.data=.fields ts/\ts[3]?=some .none)->Q () { s with heap:=h'}) :
  wpAny M A (do let a <- frameOf env;let pl <- entryPlaceOf L hadNext;let b <- EntryCells.newEntry head a .none (rawInt L) .none pl;setField (.ref x) 1 b) (λ_ s'=>wpAny M A (setFlight (.ref x) none) Q E s') E s:=by
 have hx:x∉(env::outer).filterMap (·.frame):=λhm=>by
  obtain⟨_,o,ho,hnf⟩:=hl.mem hm;rw[he]at ho;cases ho;exact hnf vs hd
 refine aS (wpAny_frameOf_fun hfr hl hf λh₁ hs₁=>?_)
 refine aS (wpAny_entryPlaceOf λpl gI=>?_)
 refine aS (wT ?_ (gI.sizeOk5 _ _ _ _ _));have he₁:=(hs₁.2.1 x hx).trans he;generalize hO:({ cls:=.type "traceback",dict:=none,data:=.fields ([head,.ref L,.none,rawInt L,.none]++(if pl.isEmpty then List.replicate 6 Value.none else pl)).toArray}:Obj)=O
 have he₂:=a7 O he₁;have hsz₁:=hs₁.1;have hT₂:(h₁.push O).get? h₁.objs.size=!O:=dC _ (by rw[<- hO];rfl)
 refine AK he₂ hd hsz ?_;have Sj:=AV (fI he₁);have hd₃:=rV hd (·.setIfInBounds 1 (Value.ref h₁.objs.size));have he₃:=oP (Obj.mapFields (·.setIfInBounds 1 (Value.ref h₁.objs.size))) he₂ (xL hd₃);have hT₃:=(lS (h₁.push O) (Obj.mapFields (·.setIfInBounds 1 (Value.ref h₁.objs.size))) (wP Sj)).trans hT₂;have hdO:O.data=.fields ([head,.ref L,.none,rawInt L,.none]++(if pl.isEmpty then List.replicate 6 Value.none else pl)).toArray:=by rw[<- hO]
 refine aS (Ap he₃ hd₃ (x:=.ref h₁.objs.size) (by simp[hsz]) ?_)
 refine AK hT₃ hdO (by simp only[eP,eQ,nK] <;> lia) (h _ ?_ ?_ ?_)
 . intro b o hb Kz ho;have Yn:=(hs₁.2.1 b hb).trans ho;rw[lS _ _ (AV (fI Yn)),lS _ _ (wP Kz)];exact a7 _ Yn
 .
  intro b o hb ho;obtain⟨sl,Yn⟩:=hs₁.2.2 b o ho;have Kz:b≠x:=λq=>hx (q▸hb)
  refine#[sl,?_];rw[lS _ _ (AV (fI Yn)),lS _ _ (wP Kz)];exact a7 _ Yn
 .
  rw[<- hsz₁];refine#[_,_,_,_,(lS _ _ Sj).trans he₃,CA _ _,mQ _ _,hd₃,by simp[hsz],by simp[hsz],oP _ hT₃ (xL (rV hdO _)),rV hdO _,?_]
  first
   | (simp;done)
   | (rcases gI with rfl |⟨_,_,_,_,_,_,_,rfl⟩ <;> simp)
theorem oJ
  (hfr:A.frames=!(env::outer)) (hl:s.heap.FunFrames base (env::outer)) (hf:env.frame=!L) (fl:sQ h₀ x C H s.heap) (hn:h₀.get? s⁻¹=none) (hH:∀b,s⁻¹<=b->H b=none)
  (h:∀h',(∀b o,b∉frs (env::outer)->(h₀.get? b=none->H b=none->∀vs,o.data≠.fields vs)->s.heap.get? b=!o->h'.get? b=!o)->(∀b o,b∈frs (env::outer)->s.heap.get? b=!o->∃sl,h'.get? b=some { o with slots:=sl})->
   sQ h₀ x C H h'->(∀b o,s.heap.get? b=!o->∃o',h'.get? b=!o')->Q () { s with heap:=h'}):wpAny M A (noteFrame (.ref x) env) (λ_ s'=>wpAny M A (setFlight (.ref x) none) Q E s') E s:=by
 obtain⟨⟨oe,vs,he,hc,bM,hd,hsz,hT⟩,Wd,O4⟩:=fl;have hxf:x∉frs (env::outer):=λhm=>by
  obtain⟨_,o,ho,hnf⟩:=hl.mem hm;rw[he]at ho;cases ho;exact hnf vs hd
 have fin:∀(T0:Addr) (h1 h':Heap),(∀b,b≠T0->h1.get? b=s.heap.get? b)->(T0=x\/(h₀.get? T0=none/\H T0=none/\T0∉frs (env::outer)/\∃oT ts,s.heap.get? T0=!oT/\oT.data=.fields ts))->(∀o,s.heap.get? T0=!o->∃o',h1.get? T0=!o')->h1.objs.size=s⁻¹->
   (∀b o,b∉frs (env::outer)->b≠x->h1.get? b=!o->h'.get? b=!o)->(∀b o,b∈frs (env::outer)->h1.get? b=!o->∃sl,h'.get? b=some { o with slots:=sl})->
   (∃Cd vs' oT ts,h'.get? x=!Cd/\Cd.cls=oe.cls/\Cd.dict=oe.dict/\Cd.data=.fields vs'/\1<vs'.size/\vs'[1]?=!(.ref h1.objs.size)/\h'.get? h1.objs.size=!oT/\oT.data=.fields ts/\ts[3]?=some .none)->Q () { s with heap:=h'}:=by
  rintro T0 h1 h' a1 a2 a2' a3 k1 k2 ⟨Cd,vs',oT,ts,e1,e2,e2',e3,e4,e5,e6,e7,e8⟩;have hTf:=a2.elim (λq=>q▸hxf) λq=>q.2.2.1
  refine h h' (λb o hb hH' ho=>?_) (λb o hb ho=>?_) #[#[Cd,vs',e1,e2.trans hc,e2'.trans bM,e3,e4,.inr #[h1.objs.size,oT,ts,e5,?_,?_,?_,e6,e7,e8]],Wd,O4] λb o ho=>?_
  .
   have Kz:b≠x:=λq=>by
    subst q;rw[he]at ho;cases ho;exact hH' Wd O4 vs hd
   have hbT:b≠T0:=λq=>a2.elim (λz=>Kz (q.trans z)) (by
    rintro⟨z1,z2,_,oT,ts,z3,z4⟩;subst q;rw[z3]at ho;cases ho;exact hH' z1 z2 ts z4)
   exact k1 b o hb Kz ((a1 b hbT).trans ho)
  . exact k2 b o hb ((a1 b (λq=>hTf (q▸hb))).trans ho)
  . rw[a3];exact AV (fI he)
  . rw[a3];exact hn
  . rw[a3];exact hH _ (eA _)
  .
   by_cases Kz:b=x
   . exact#[Cd,Kz▸e1]
   .
    have h1b:∃o1,h1.get? b=!o1:=by
     by_cases hbT:b=T0
     . subst hbT;exact a2' o ho
     . exact#[o,(a1 b hbT).trans ho]
    obtain⟨o1,vK⟩:=h1b;by_cases hb:b∈frs (env::outer)
    . obtain⟨sl,q⟩:=k2 b o1 hb vK;exact#[_,q]
    . exact#[o1,k1 b o1 hb Kz vK]
 unfold noteFrame;simp only[hf];rcases hT with hT |⟨T,oT,ts,h1,Sj,hTn,hTH,IK,IV,h3⟩
 . refine aS (Ap he hd hT ?_);exact jr hfr hl hf he hd hsz λh' k1 k2 k3=>fin x s.heap h' (λ_ _=>rfl) (.inl rfl) (λo ho=>#[o,ho]) rfl k1 k2 k3
 .
  refine aS (Ap he hd h1 ?_);refine aS (Ap IK IV h3 ?_);refine aS (AK IK IV (A9.mp h3).1 ?_);have other:∀b,b≠T->(s.heap.update T (Obj.mapFields (·.setIfInBounds 3 Value.none))).get? b=s.heap.get? b:=λb hb=>lS _ _ (wP hb)
  have hTf:T∉frs (env::outer):=λhm=>by
   obtain⟨_,o,ho,hnf⟩:=hl.mem hm;rw[IK]at ho;cases ho;exact hnf ts IV
  have rec':∀b o,s.heap.get? b=!o->(∀vs,o.data≠.fields vs)->b≠T:=λb o hb hnf q=>by
   rw[q,IK]at hb;cases hb;exact hnf ts IV
  refine jr hfr (hl.of_keeps λb o hb hnf=>#[o,(other b (rec' b o hb hnf)).trans hb,rfl]) hf ((other x (wP Sj)).trans he) hd hsz λh' k1 k2 k3=>?_
  exact fin T _ h' other (.inr #[hTn,hTH,hTf,oT,ts,IK,IV]) (λo ho=>#[_,oP _ IK (xL (rV IV _))]) (Heap.size_update ..) k1 k2 k3
end
theorem sQ.mono(f:sQ h₁ x C H h)(hm:∀b o,h₀.get? b=!o->∃o',h₁.get? b=!o'):sQ h₀ x C H h:=by
 have no:∀b,h₁.get? b=none->h₀.get? b=none:=λb hb=>by
  cases e:h₀.get? b with
  |none=>rfl
  |some o=>obtain⟨o',e'⟩:=hm b o e;rw[hb]at e';cases e'
 obtain⟨⟨oe,vs,h1,h2,h2',h3,h4,h5⟩,h6,h7⟩:=f;exact#[#[oe,vs,h1,h2,h2',h3,h4,h5.imp id (by rintro⟨T,oT,ts,q1,q2,q3,q4⟩;exact#[T,oT,ts,q1,q2,no T q3,q4])],no x h6,h7]
def Ce(P:Program)(w:World):zF:=λouter H s E e s'=>∃x C H',e=.ref x/\s'.os=s.os/\AllBare s'.gens/\Un (frs outer) [] H H' s.heap s'.heap/\jM P w H' s'.heap/\sQ s.heap x C H' s'.heap/\E (.ref C) none H'
theorem Ej(hx:X.ex=[])(I:L2.Inv X aj σ H s)(h:Ce X.prog X.w X.stack H s E e s') :
  ∃x C H',e=.ref x/\L2.Inv X aj σ H' s'/\sQ X.s₀.heap x C H' s'.heap/\E (.ref C) none H':=by
 obtain⟨x,C,H',rfl,h1,h2,h3,h4,h5,h6⟩:=h;exact#[x,C,H',rfl,I.call' h1 h3 h4 h2 (λb z=>absurd z ⋯),h5.mono λb o e=>I.base.there b o e (by rw[hx];simp),h6]
section
theorem tZ(I:L2.Inv X aj σ H' s')(bT:X.stack=X.env::X.outer)(hf:X.env.frame=!X.env.locals)(hex:X.ex=[])(fl:sQ X.s₀.heap x C H' s'.heap)
  (h:∀h'',(∀b o,b∉frs (X.env::X.outer)->(X.s₀.heap.get? b=none->H' b=none->∀vs,o.data≠.fields vs)->s'.heap.get? b=!o->h''.get? b=!o)->(∀b o,b∈frs (X.env::X.outer)->s'.heap.get? b=!o->∃sl,h''.get? b=some { o with slots:=sl})->
   Un (frs X.outer) [] X.H₀ H' X.s₀.heap h''->jM X.prog X.w H' h''->sQ X.s₀.heap x C H' h''->Q () { s' with heap:=h''}) :
  wpAny (~~~2) X.A (noteFrame (.ref x) X.env) (λ_ s2=>wpAny (~~~2) X.A (setFlight (.ref x) none) Q E' s2) E' s':=by
 have hl:=I.stack;rw[bT]at hl;have ub:=hex▸I.base;have hsf:=I.qB;rw[bT]at hsf;refine oJ (I.ok.frames.trans (by rw[bT])) hl hf fl (Heap.get?_none_of_le I.sz) (λb hb=>I.hok.fresh hb) λh'' k1 k2 k3 k4=>?_
 have hin:∀b,b∈frs X.outer->b∈frs (X.env::X.outer):=λb hb=>by
  unfold frs;rw[A4,hf];exact a8 _ hb
 have hno:∀b o,X.s₀.heap.get? b=!o->b∉frs X.outer->b∉frs (X.env::X.outer):=λb o ho hb hm=>by
  unfold frs at hm;rw[A4,hf]at hm;rcases dA.mp hm with e |hm
  . rw[e]at ho;exact yA _ (i4 (fI ho) I.ok.above)
  . exact hb hm
 have hlt:∀b o (ob:Obj),X.s₀.heap.get? b=!o->(X.s₀.heap.get? b=none->H' b=none->∀vs,ob.data≠.fields vs):=λb o ob ho hb=>by rw[ho]at hb;cases hb
 refine h h'' k1 k2 #[λb o q n hb hx=>?_,λb o q n hb hx=>?_,ub.free,λb o q hx=>?_,ub.tups,ub.iV,ub.iW] (λa o e=>?_) k3
 . exact k1 b o (hno b o q hb) (hlt b o _ q) (ub.keep b o q n hb hx)
 . obtain⟨sl,e1⟩:=ub.slot b o q n hb hx;obtain⟨sl',e2⟩:=k2 b _ (hin b hb) e1;exact#[sl',e2]
 . obtain⟨o',e1⟩:=ub.there b o q hx;exact k4 b o' e1
 .
  refine (I.hok a o e).stay (λb u hb q=>?_) (λ_ q=>q) λ_ _ q=>q
  have ht:H' b≠none:=by
   rcases hb with rfl |hb
   . rw[e];simp
   . rw[hb];simp
  exact k1 b u (λhm=>ht (hsf b hm)) (λ_ z=>absurd z ht) q
theorem pP(I:L2.Inv X aj σ H' s')(bT:X.stack=X.env::X.outer)(hf:X.env.frame=!X.env.locals)(hex:X.ex=[])(fl:sQ X.s₀.heap x C H' s'.heap)
  (h:∀s'',Ce X.prog X.w X.outer X.H₀ X.s₀ (λc o h=>c=.ref C/\o=none/\h=H') (.ref x) s''->Q () s'') :
  wpAny (~~~2) X.A (leaving X.env (.ref x)) Q E' s':=by
 exact aS (tZ I bT hf hex fl λh'' _ _ u k f=>h _ #[x,C,H',rfl,I.os,I.bare,u,k,f,rfl,rfl,rfl])
theorem Aa(I:L2.Inv X [] σ H' s')(hp:X.pn=[])(bT:X.stack=X.env::X.outer)(hf:X.env.frame=!X.env.locals)(hex:X.ex=[])(fl:sQ X.s₀.heap x C H' s'.heap)
  (h:∀s'',L2.Inv X [] σ H' s''->sQ X.s₀.heap x C H' s''.heap->Q () s'') :
  wpAny (~~~2) X.A (noteFrame (.ref x) X.env) (λ_ s2=>wpAny (~~~2) X.A (setFlight (.ref x) none) Q E' s2) E' s':=by
 refine tZ I bT hf hex fl λh'' k1 k2 u k f=>h _ ?_ f
 have cellK:∀c v,s'.heap.IsCell c v->h''.IsCell c v:=by
  rintro c v ⟨o,e,d⟩;by_cases hb:c∈frs (X.env::X.outer)
  . obtain⟨sl,e2⟩:=k2 c o hb e;exact#[_,e2,d]
  . exact#[o,k1 c o hb (λ_ _ vs q=>by rw[d]at q;cases q) e,d]
 have IW:X.env.locals∈frs (X.env::X.outer):=by unfold frs;rw[A4,hf];exact bP
 obtain⟨m,hn,hlk⟩:=I.loc;refine#[I.ok,I.os,I.bare,hex▸u,#[m,?_,λi y v h1 h2 h3=>?_],λy c e=>?_,I.free,I.cG,λp hp2=>?_,k,I.len]
 . obtain⟨o,es,ep,e,d,r⟩:=hn;obtain⟨sl,e2⟩:=k2 _ o IW e;exact#[_,es,ep,e2,d,r]
 . obtain⟨u,r,q⟩:=hlk i y v h1 h2 h3;refine#[u,r,q.imp id (by rintro⟨q1,c,q2,q3⟩;exact#[q1,c,q2,cellK c _ q3])]
 . obtain⟨v,q⟩:=I.cell y c e;exact#[v,cellK c v q]
 . rw[hp]at hp2;cases hp2
end
theorem Ek{P:Program}{w:World}{K:Frag}{mg:Str->Option Value}{base:Heap}{N:List Str}{qual:Str}{scope:Scope}{f:Addr}{cd:Value}{A:Around}{outer:List Env}{s:Shared}{H:Hp}{E:XK}{aj: ~~~1}{σ:Sg}{H':Hp}{s':Shared}{x C:Addr}
  (I:L2.Inv (eU (Ce P w) P w K mg base N qual scope f cd A outer s H E) aj σ H' s') (fl:sQ s.heap x C H' s'.heap) (hE:E (.ref C) none H'):(eU (Ce P w) P w K mg base N qual scope f cd A outer s H E).xe (.ref x) s':=
 pP I rfl rfl rfl fl (by
  rintro s'' ⟨y,D,H2,e,h1,h2,h3,h4,h5,e1,e2,e3⟩;cases e;cases e1;subst e3;exact#[x,C,H2,rfl,h1,h2,h3,h4,h5,hE])
def Acc(X:Cx)(z:Z)(g':G)(M:List Addr)(H:Hp)(C:Addr)(σ:Sg):Prop:=
 ∀aj s1 H1 aN M1 x,L2.Inv X aj σ H1 s1->S z g' σ aN M1 H1->ao M H M1 H1->sQ X.s₀.heap x C H1 s1.heap->X.xe (.ref x) s1
def Ad(X:Cx)(z:Z)(g':G)(M:List Addr)(H:Hp)(C:Addr):Prop:=∀σ,Acc X z g' M H C σ
theorem Acc.trans(st:ao M H M1 H1)(h:Acc X z g' M H C σ):Acc X z g' M1 H1 C σ:=λaj s1 H2 aN M2 x I s st' fl=>h aj s1 H2 aN M2 x I s (st.trans st') fl
theorem Ad.trans(st:ao M H M1 H1)(h:Ad X z g' M H C):Ad X z g' M1 H1 C:=λσ=>(h σ).trans st
def Cg(X:Cx)(z:Z)(e:Expr)(g:G)(C:Addr)(g':G):Prop:=∃t,PE X e t/\∀σ As M H Q,S z g σ As M H->Acc X z g' M H C σ->t σ H Q
def Wf(X:Cx)(z:Z)(e:Expr)(g:G)(C:Addr)(g':G):Prop:=∃t,PT X e t/\∀σ As M H Q,S z g σ As M H->Acc X z g' M H C σ->t σ H Q
def Yo(X:Cx)(z:Z)(es:List Expr)(g:G)(C:Addr)(g':G):Prop:=∃t,PA X es t/\∀σ As M H Q,S z g σ As M H->Acc X z g' M H C σ->t σ H Q
def Sl(X:Cx)(z:Z)(st:Stmt)(g:G)(C:Addr)(g':G):Prop:=∃t,PS X st t/\∀σ As M H E,S z g σ As M H->Ad X z g' M H C->t E σ H
def KC(X:Cx)(z:Z)(ig:List Stmt)(g:G)(C:Addr)(g':G):Prop:=∃t,sO X ig t/\∀σ As M H E,S z g σ As M H->Ad X z g' M H C->t E σ H
section
variable{st:Stmt}
theorem aA.lift(h:aA X.qG z e g r g'):aA X z e g r g':=let #[t,q,k]:=h;#[t,q.qG,k]
theorem cI.lift(h:cI X.qG z e g v g'):cI X z e g v g':=let #[t,q,k]:=h;#[t,q.qG,k]
theorem Sq(h:Cg X z e g C g')(he:∀whole,isTrue e X.env whole=(do let v <- whole;standAt e.pos;holding [v] (truthy v))):Wf X z e g C g':=by obtain⟨t,q,k⟩:=h;exact#[_,Qd q he,λσ As M H Q s ac=>k σ As M H _ s ac]
theorem KD(h:Wf X z a g C g'):Wf X z (.UnaryOp .Not a pos) g C g':=by obtain⟨t,q,k⟩:=h;exact#[_,CN q,λσ As M H Q s ac=>k σ As M H _ s ac]
theorem KH(h:Cg X z e g C g')(hs:starEach (e::es) X.env=(false,eval e X.env)::starEach es X.env):Yo X z (e::es) g C g':=by
 obtain⟨t,q,k⟩:=h;have pn:PA X es (λ_ _ _=>False):=λ_ _ _ _ _ _ _ h=>h.elim
 exact#[_,bB q pn hs,λσ As M H Q s ac=>k σ As M H _ s ac]
theorem KJ(h1:aA X z e g r g1)(h:Yo X z es g1 C g')(hs:starEach (e::es) X.env=(false,eval e X.env)::starEach es X.env):Yo X z (e::es) g C g':=by obtain⟨t1,q1,k1⟩:=h1;obtain⟨t,q,k⟩:=h;exact#[_,bB q1 q hs,λσ As M H Q s ac=>k1 σ As M H _ s λv H1 aN M1 s1 bS R1=>k σ aN M1 H1 _ s1 (ac.trans bS)]
theorem Ss(h:Cg X z e g C g'):Sl X z (.Return (!e) pos) g C g':=by obtain⟨t,q,k⟩:=h;exact#[_,vW q,λσ As M H E s ac=>k σ As M H _ s (ac σ)]
theorem KN(h:Cg X z e g C g')(hs:swapsWith e none pos.line X.env=pure false):Sl X z (.Expr e pos) g C g':=by obtain⟨t,q,k⟩:=h;exact#[_,xN q hs,λσ As M H E s ac=>k σ As M H _ s (ac σ)]
theorem Sv(h:Wf X z c g C g'):Sl X z (.If c x y pos) g C g':=by obtain⟨t,q,k⟩:=h;exact#[_,oZ q bw bw,λσ As M H E s ac=>k σ As M H _ s (ac σ)]
theorem El(h1:cI X z c g v g1)(h:KC X z (if v then x else y) g1 C g'):Sl X z (.If c x y pos) g C g':=by
 obtain⟨t1,q1,k1⟩:=h1;obtain⟨t,q,k⟩:=h;cases v with
 |true=>exact#[_,oZ q1 q bw,λσ As M H E s ac=>k1 σ As M H _ s λH' aB M' s' st=>qR (k σ aB M' H' _ s' (ac.trans st))]
 |false=>exact#[_,oZ q1 bw q,λσ As M H E s ac=>k1 σ As M H _ s λH' aB M' s' st=>qQ (k σ aB M' H' _ s' (ac.trans st))]
theorem KQ(h:Sl X z st g C g'):KC X z (st::ig) g C g':=by obtain⟨t,q,k⟩:=h;exact#[_,cZ q bw,λσ As M H E s ac=>k σ As M H _ s ac]
theorem KR(h1:fD X z st g .nx g1)(h:KC X z ig g1 C g'):KC X z (st::ig) g C g':=by obtain⟨t1,q1,k1⟩:=h1;obtain⟨t,q,k⟩:=h;exact#[_,cZ q1 q,λσ As M H E s ac=>k1 σ As M H _ s λσ' aB M' H' s' st'=>k σ' aB M' H' E s' (ac.trans st')]
end
def SpX(K:Frag)(N:List Str)(np:Nat)(run:List Nat->G->Addr->G->Prop):Sp:=λvs H _ E=>
 vs.length=np/\∃(z:Z) (g g':G) (As M:List Addr) (C:Addr),z.K=K/\S z g (L2.start N vs) As M H/\run z.bor g C g'/\∀σ' aB M' H',S z g' σ' aB M' H'->ao M H M' H'->E (.ref C) none H'
section
variable{run:List Nat->G->Addr->G->Prop}
theorem Sw{P:Program}{w:World}{K:Frag}{mg:Str->Option Value}{base:Heap}{qual:Str}{st:Stmt}(F:JH K x qual st f fd)(Sc:bI N ps (aE st))
  (h:∀(bz:Value) (A:Around) (outer:List Env) (s:Shared) (H:Hp) (E:XK),PySem.W.codeIn K bz qual=true->bK k (A.deeper (envOfC qual (aE st) s⁻¹ f bz))->
   ∀(z:Z) (g:G) (C:Addr) (g':G),z.K=K->run z.bor g C g'->KC (eU (Ce P w) P w K mg base N qual (aE st) f bz A outer s H E) z (bq st) g C g') :
  iu P w K mg base (Ce P w) (k+1) f fd ps (SpX K N ps.length run):=by
 obtain⟨oc,od,kV,doc,pm,an,bz,ct,osl,rfl,lk,bM⟩:=F.ex;refine Ou lk bM Sc (λvs H Q E q=>q.1) ?_
 rintro A outer s H vs Q E hr ⟨_,z,g,g',As,M,C,hK,hs,hrun,hQ⟩;obtain⟨t,q,kk⟩:=h bz A outer s H E bM hr z g C g' hK hrun;exact#[t,q,kk _ As M H _ hs λσ aj s1 H1 aN M1 y I s' st' fl=>Ek I fl (hQ σ aN M1 H1 s' st')]
theorem KS(F:iu X.prog X.w X.K X.mg X.base (Ce X.prog X.w) k f fd ps (SpX X.K N ps.length run))(hK:z.K=X.K)(hex:X.ex=[])(hr:bK k X.A)(hg:Gl X x)(hm:X.mg x=!(.ref f))(hk:PySem.W.keepIn X.K (.ref f)=true)(hb:L2.Binds X.K fd ps [])
  (ha:cu X z (e::es) g rs g1) (aM:rs.length=ps.length) (hl:cL rs g1=!gs) (nd:((vars 0 rs).map (·.2)).Nodup) (hrun:run ((vars 0 rs).map (·.1)) (cO N.length gs) C gc) (DT:back (vars 0 rs) gc g1=!gO)
  (iU:(x==(~~~3))=false) (he:starEach (e::es) X.env=(false,eval e X.env)::starEach es X.env) (gI:(backTo pos (starEach es X.env)).any (·.1)=false) :
  Cg X z (.Call (.Name x p) (e::es) [] pos) g C gO:=by
 refine#[λσ H Q=>∃As M,S z g σ As M H/\Acc X z gO M H C σ,?_,λσ As M H Q s ac=>#[As,M,s,ac]]
 rintro aj s σ H Q I ⟨As,M,hs,ac⟩;refine AG (eH I hg hm ?_ iU);refine C9 I.ok.mod.vR hk (ha.run I hs λvs us s1 H1 aN M1 I1 r1 q1 q2 R1=>#[I1.oA,?_]) he gI
 have hv:=R1.length;have hl2:(us++[]).length=ps.length:=by rw[pV,<- r1.length,hv,aM]
 have ee:=q1.enter (N:=N) R1 hl nd;refine DM (B8 (F.run X.A X.stack s1 H1 #[us,[]] (us++[]) (vs++[]) (λ_ _=>False) (λcls _ H'=>cls=.ref C/\∃bE M2,S z gO σ bE M2 H'/\ao M H M2 H') hr I1.Jw (hb s1 us I1.oA hl2) (by rw[pV,pV];exact r1) ?_) λr s' hq=>?_)
 .
  rw[pV];refine#[by rw[hv,aM],pM z σ M1 H1 rs,cO N.length gs,gc,_,M1,C,hK,ee,by rw[jO];exact hrun,λσ' aB M' H' s' st'=>#[rfl,?_]]
  obtain⟨M2,s2,aL,_⟩:=q1.leave (r:=.dat .non) R1 hl nd s' st' .non DT rfl;exact#[aN,M2,s2,q2.trans aL]
 .
  cases r with
  |error ev=>
   have hq:Ce X.prog X.w X.stack H1 s1 (λcls _ H'=>cls=.ref C/\∃bE M2,S z gO σ bE M2 H'/\ao M H M2 H') ev s':=hq
   obtain⟨y,C',H',rfl,I',fl,hC,bE,M2,s2,aL⟩:=Ej hex I1 hq;cases hC;exact ac aj s' H' bE M2 y I' s2 aL fl
  |ok flw=>
   cases flw with
   |ret u=>obtain⟨_,_,_,_,_,_,_,q⟩:=hq;exact q.elim
   |next=>exact False.elim hq
   |brk=>exact False.elim hq
   |cont=>exact False.elim hq
end
noncomputable def veM:List Value:=[.type "ValueError",.type "Exception",.type "BaseException",.type "object"]
abbrev dj(K:Frag)(C:Addr):Prop:=PySem.W.excIn K C veM "ValueError.__new__"=true
theorem rm{K:Frag}{h:Heap}{C:Addr}(X:K.In h)(q:dj K C) :
  ∃bm N nm qn bs hdct sn sub ab col dd k0 k1 k2 k3 k5 mN,h.get? C=!(excClassObj nm qn C N bs bm hdct sn sub ab col dd k0 k1 k2 k3 k5 "ValueError.__new__")/\h.Ns N mN/\mN "__init__"=none/\OwnTail h veM bm:=by
 unfold dj PySem.W.excIn at q;split at q
 .
  rename_i dd cd sl ho;split at q
  .
   rename_i C' bm k0 k1 k2 k3 n k5 hm hs;simp only[gL,C5,AZ]at q;obtain⟨⟨⟨⟨⟨rfl,rfl⟩,hdel⟩,ht⟩,hok⟩,hni⟩:=q;obtain⟨nm,bs,mro,ns,qn,hd,sn,sub,ab,col,del⟩:=cd;subst hm hdel;have hsl:sl = ([k0,k1,k2,k3,!(.builtin "ValueError.__new__"),k5].toArray):=by obtain⟨l⟩:=sl;simp only at hs;rw[hs]
   subst hsl;exact#[bm,ns,nm,qn,bs,hd,sn,sub,ab,col,dd,k0,k1,k2,k3,k5,_,X _ _ ho,.of_isNs (PySem.W.isNs_of_in X hok),PySem.W.nsMap_none_of_in X hok hni,PySem.W.tail_of_in X ht]
  . cases q
 . cases q
theorem uc(x:bR P w H h a o):∃ob,h.get? a=!ob:=by
 induction o with
 |lst xs=>obtain⟨_,_,_,_,e⟩:=x;exact#[_,e]
 |tup xs=>obtain⟨_,_,_,ob,e,_⟩:=x;exact#[_,e]
 |dK jJ=>obtain⟨_,_,_,_,o,_,_,e,_⟩:=x;exact#[_,e]
 |dT jJ=>obtain⟨_,_,_,_,o,_,_,e,_⟩:=x;exact#[_,e]
 |set φ=>obtain⟨o,e,_⟩:=x;exact#[_,e]
 |ins C dx fs=>obtain⟨_,_,_,e,_⟩:=x;exact#[_,e]
 |own y=>exact x
 |xd fs=>obtain⟨mA,⟨o,_,_,e,_⟩,_⟩:=x;exact#[_,e]
 |BX lo hi=>obtain⟨_,_,_,e⟩:=x;exact#[_,e]
 |fB o u ih=>exact#[_,x.1]
 |k9 ps=>exact#[_,x]
 |met f y=>exact#[_,x]
 |ext φ=>exact x.2.1
section
theorem Em(hc:X.calm=true)(hex:X.ex=[])(hq:dj X.K C)(hg:Gl X x)(hm:X.mg x=!(.ref C))(iU:(x==(~~~3))=false)(ha:cu X z [m] g [.dat d] g1)(hs:starEach [m] X.env=[(false,eval m X.env)]) :
  Sl X z (.Raise (!(.Call (.Name x np) [m] [] cM)) none pos) g C g1:=by
 refine#[λ_ σ H=>∃As M,S z g σ As M H/\Ad X z g1 M H C,?_,λσ As M H E s ac=>#[As,M,s,ac]]
 rintro aj s σ H E I ⟨As,M,st,ac⟩;obtain⟨bm,N,nm,qn,bs,hdct,sn,sub,ab,col,dd,k0,k1,k2,k3,k5,mN,hC,hN,hni,T⟩:=rm I.ok.mod.vR hq;refine wpAny_Raise_call_subU (nm:=nm) (q:=qn) (N:=N) (bs:=bs) (hdct:=hdct) (sn:=sn) (sub:=sub) (ab:=ab) (col:=col) (dd:=dd) (k0:=k0) (k1:=k1) (k2:=k2) (k3:=k3) (k5:=k5) PySem.F.excBase_ValueError ⋯ PySem.F.excBase_ValueError (T.hasType ⋯) (I.ok.hd hc) (by rw[hs];rfl) hni (eH I hg hm #[rfl,?_] iU)
 rw[hs];refine Calls.evalArgs_plain (x:=eval m X.env) (rest:=[]) ?_;have e1:spliced ((false,eval m X.env)::[])=spliced (backTo cM (starEach [m] X.env)):=by rw[hs];rfl
 rw[e1];refine (ha.run I st λvs us s1 H1 aN M1 I1 r1 q1 q2 R1=>?_)
 refine#[rfl,?_,I1.bk _ _ hC,hN.keeps I1.bk,T.keeps I1.bk,λh' e hme=>?_]
 . show us.length<=sizeLine;have:=r1.length;rw[R1.length]at this;rw[<- this];exact (by decide:(1:Nat)<=16777216)
 .
  have I2:=I1.kept (t':=s1.toks) hme.keeps;have jI:H1 e=none:=by
   cases q:H1 e with
   |none=>rfl
   |some o=>obtain⟨ob,ho⟩:=uc (I1.hok e o q);have hn:=hme.new;rw[ho]at hn;cases hn
  refine ac σ aj _ H1 aN M1 e I2 q1 q2 ?_;obtain⟨t,ht,_,_⟩:=hme.there;refine#[#[_,_,ht,rfl,rfl,rfl,by simp,.inl ⋯],?_,jI]
  cases q:X.s₀.heap.get? e with
  |none=>rfl
  |some o=>
   obtain⟨ob,ho⟩:=I1.base.there e o q (by rw[hex];simp)
   have hn:=hme.new;rw[ho]at hn;cases hn
end
section
inductive ud(X:Cx)(z:Z):Str->List Expr->G->Str->G->Prop
 |nil {out:Str}{g:G}:ud X z out [] g out g
 |con {out y r:Str}{j:Nat}{p:Pos}{es:List Expr}{g g':G}:(out++y).length<=16777216->ud X z (out++y) es g r g'->ud X z out (.Constant (.str y) j p::es) g r g'
 |int {out r:Str}{i:Int}{v:Expr}{p:Pos}{es:List Expr}{g g1 g':G}:aA X z v g ‹i› g1->i.natAbs.log2<1920->(out++(toString i:Str)).length<=16777216->ud X z (out++(toString i:Str)) es g1 r g'->ud X z out (.FormattedValue v (-1) none p::es) g r g'
theorem Sx(h:ud X z out es g r g'):out.length<=16777216->∀(aj: ~~~1) (s:Shared) (σ:Sg) (As M:List Addr) (H:Hp) (Post:Value->Shared->Prop),L2.Inv X aj σ H s->S z g σ As M H->
  (∀t s1 H1 aN M1,L2.Inv X aj σ H1 s1->S z g' σ aN M1 H1->ao M H M1 H1->Post (.str r t) s1)->wpAny (~~~2) X.A (joinParts out (evalEach es X.env)) Post X.xe s:=by
 induction h with
 |@nil out g=>intro hl aj s σ As M H Post I st k;exact joinParts_nil (k _ _ H As M (I.tok _) st (ao.refl _ _)) (jh hl)
 |@con out y r j p es g g' hl' _ ih=>intro hl aj s σ As M H Post I st k;show wpAny _ _ (joinParts out (eval (.Constant (.str y) j p) X.env::evalEach es X.env)) _ _ s;refine joinParts_cons (Calls.Constant_str #[jh hl',?_]);exact ih hl' aj _ σ As M H Post (I.tok _) st k
 |@int out r i v p es g g1 g' he hd hl' _ ih=>
  intro hl aj s σ As M H Post I st k;show wpAny _ _ (joinParts out (eval (.FormattedValue v (-1) none p) X.env::evalEach es X.env)) _ _ s;refine joinParts_cons (FormattedValue_plain (he.run I st λw u s1 H1 aN M1 I1 r1 q1 q2 q3=>?_))
  have q3':Rep z.K M1 H1 (.int i) w:=q3;cases q3';obtain⟨t,rfl⟩:=r1;refine formatField_int_small hd ?_;exact#[jh hl',ih hl' aj _ σ aN M1 H1 Post (I1.tok _) q1 λt s2 H2 bE M2 I2 p1 p2=>k t s2 H2 bE M2 I2 p1 (q2.trans p2)]
theorem KY(h:ud X z Str.empty (e1::e2::es) g r g'):aA X z (.JoinedStr (e1::e2::es) pos) g (.dat (.str r)) g':=
 aA.of λaj s σ As M H Post I st k=>JoinedStr_many (Sx h ⋯ aj s σ As M H Post I st λt s1 H1 aN M1 I1 q1 q2=>k (.str r) (.str r t) s1 H1 aN M1 I1 #[t,rfl] q1 q2 (.str r))
end
section
theorem En(F:iu X.prog X.w X.K X.mg X.base v8 k f fd ps sp)(h:Yo X z (e::es) g C g')(hr:bK k X.A)(hg:Gl X x)(hm:X.mg x=!(.ref f))(hk:PySem.W.keepIn X.K (.ref f)=true)(hb:L2.Binds X.K fd ps [])
  (iU:(x==(~~~3))=false) (he:starEach (e::es) X.env=(false,eval e X.env)::starEach es X.env) (gI:(backTo pos (starEach es X.env)).any (·.1)=false):Cg X z (.Call (.Name x p) (e::es) [] pos) g C g':=by
 obtain⟨t,q,kk⟩:=h;exact#[_,xQ F hr hg hm hk hb .nil Ow q iU he gI,λσ As M H Q s ac=>kk σ As M H _ s ac]
end
open PySem PySem.W PyProof.Rows
structure uf(α:Type) where
 lt:α->α->Bool
 irr:∀a,lt a a=false
 tr:∀a b c,lt a b=true->lt b c=true->lt a c=true
 tot:∀a b,lt a b=false->lt b a=false->a=b
namespace uf
variable{α:Type}(O:uf α)
def le(a b:α):Prop:=O.lt b a=false
variable{O}
theorem le_of_lt(h:O.lt a b=true):O.le a b:=by
 unfold le;cases e:O.lt b a
 . rfl
 . have:=O.tr _ _ _ h e;rw[O.irr]at this;cases this
theorem O5(h1:O.le a b)(h2:O.le b c):O.le a c:=by
 unfold le at *;cases e:O.lt c a with
 |false=>rfl
 |true=>
  exfalso;cases e1:O.lt a b with
  |true=>have:=O.tr _ _ _ e e1;rw[h2]at this;cases this
  |false=>have hab:=O.tot a b e1 h1;subst hab;rw[h2]at e;cases e
theorem KZ(h1:O.le a b)(h2:O.le b a):a=b:=O.tot a b h2 h1
end uf
section
variable{α:Type}
noncomputable def kAt(key:Nat->α)(p:Array Nat)(i:Nat):α:=key (p.getD i 0)
def Sy(O:uf α)(key:Nat->α)(p:Array Nat)(n:Nat):Prop:=∀i j,i<=j->j<n->O.le (kAt key p i) (kAt key p j)
noncomputable def qLt(O:uf α)(key:Nat->α)(i j:Nat):Bool:=O.lt (key i) (key j)
end
open PySem PySem.W PyProof.Rows
noncomputable def jt:Bool->Keyed->Array Keyed->Nat->Nat->Nat->StateT SortSt Sem (Option Nat):=sortPriv% PySem.Builtin.gallop
section
variable{prog:Program}{w:World}{A:Around}{E:Value->Shared->Prop}{s:Shared}
variable{pr:Nat->Keyed}{lt:Nat->Nat->Bool}{N:Nat}{κ:SortKind}
def ju(prog:Program)(w:World)(A:Around)(E:Value->Shared->Prop)(s:Shared)(pr:Nat->Keyed)(lt:Nat->Nat->Bool)(N:Nat)(κ:SortKind):Prop:=
 ∀i j,i<N->j<N->∀{st:SortSt}{Q:Option Bool->SortSt->Prop},kindOf st=κ->Q (!(lt i j)) st->wpS (model prog w) A E s (lt' (pr i) (pr j)) Q st
theorem aO{q:Array Nat}{i:Nat}{st:SortSt}{Q:Keyed->SortSt->Prop}(hi:i<q.size)(h:Q (pr (q.getD i 0)) st):wpS (model prog w) A E s (elem' (q.map pr) i) Q st:=by
 have e:(q.map pr)[i]?=!(pr (q.getD i 0)):=by simp[hi]
 rw[elem'_eq,e];exact i8 h
section
variable{α:Type}{x y:StateT SortSt Sem α}{Q:α->SortSt->Prop}{st:SortSt}
theorem aK{c:Prop} [Decidable c] (h1:c->wpS (model prog w) A E s x Q st) (h2 : ¬ c->wpS (model prog w) A E s y Q st):wpS (model prog w) A E s (if c then x else y) Q st:=by
 split
 . rename_i h;exact h1 h
 . rename_i h;exact h2 h
noncomputable def Post{β:Type}(I Q:β->SortSt->Prop):ForInStep β->SortSt->Prop
 |.done c,st=>Q c st
 |.yield c,st=>I c st
theorem aU{β:Type}{a b:Nat}{f:Nat->β->StateT SortSt Sem (ForInStep β)}{g:β->StateT SortSt Sem α}(I:Nat->β->SortSt->Prop)(Q':β->SortSt->Prop){c:β}
  (step:∀F,F=f->∀k c st,a<=k->k<b->I k c st->wpS (model prog w) A E s (F k c) (Post (I (k+1)) Q') st)
  (last:∀c st,I (max a b) c st->Q' c st) (first:I a c st) (next:∀G,G=g->∀c st,Q' c st->wpS (model prog w) A E s (G c) Q st):wpS (model prog w) A E s (forIn [a:b] c f >>= g) Q st:=
 i7 (wpS_mono (wpS_forRange I (λk c st h1 h2 h=>wpS_mono (step f rfl k c st h1 h2 h) λr st' h=>by cases r <;> exact h) last first) (next g rfl))
theorem eZ(C:(StateT SortSt Sem α->Prop)->Prop)(h1:C (λm=>wpS (model prog w) A E s m Q st)->wpS (model prog w) A E s x Q st)(h2:C λm=>wpS (model prog w) A E s m Q st):wpS (model prog w) A E s x Q st:=h1 h2
theorem K1{β:Type}{c:Prop} [Decidable c] {x y:StateT SortSt Sem β}{K:β->StateT SortSt Sem α} (P:SortSt->β->SortSt->Prop) (h1:c->wpS (model prog w) A E s x (P st) st) (h2 : ¬ c->wpS (model prog w) A E s y (P st) st)
  (h3:∀r st',P st r st'->wpS (model prog w) A E s (K r) Q st'):wpS (model prog w) A E s (if c then x >>= K else y >>= K) Q st:=
 aK (λh=>i7 (wpS_mono (h1 h) h3)) λh=>i7 (wpS_mono (h2 h) h3)
theorem jv(C:(StateT SortSt Sem α->SortSt->Prop)->Prop)(h1:C (λm st=>wpS (model prog w) A E s m Q st)->wpS (model prog w) A E s x Q st)(h2:C λm st=>wpS (model prog w) A E s m Q st):wpS (model prog w) A E s x Q st:=h1 h2
theorem dO{b:Bool}(h1:b=true->wpS (model prog w) A E s x Q st)(h2:b=false->wpS (model prog w) A E s y Q st):wpS (model prog w) A E s (if b=true then x else y) Q st:=
 aK h1 λh=>h2 (by simpa using h)
theorem bC{n m k:Nat}(e:m=k)(h1:n=k->wpS (model prog w) A E s x Q st)(h2:n≠k->wpS (model prog w) A E s y Q st):wpS (model prog w) A E s (if (n==m)=true then x else y) Q st:=
 aK (λh=>h1 (e▸C5.mp h)) λh=>h2 λz=>h (C5.mpr (e▸z))
end
theorem in_of{q:Array Nat}(hq:∀i∈q,i<N){i:Nat}(hi:i<q.size):q.getD i 0<N:=by
 have:q.getD i 0=q[i]:=by simp[hi]
 rw[this];exact hq _ (Array.getElem_mem hi)
noncomputable def far(lt:Nat->Nat->Bool)(left:Bool)(k x:Nat):Bool:=if left=true then lt x k else (not (lt k x))
section
variable{i l o h n m lo hi x:Nat}
theorem ga1(a:h+1<=o) : ¬ i<h+1 - min o (h+1):=by rw[Nat.min_eq_right a,D6];exact BQ _
theorem ga2(a:l<o)(b:h+l<n):h+l+1<=h+min o (n - h)/\h+min o (n - h)<=n:=by lia
theorem ga3(a:l<o)(b:l<=h)(c:h<n):h+1 - min o (h+1)<=h - l/\h - l<=n:=
 #[by have:=Nat.sub_le_sub_left (Nat.le_min.mpr #[a,Nat.succ_le_succ b]) (h+1);rwa [Nat.add_sub_add_right]at this,oI (CB _ _) (AU c)]
theorem ga4(a:o<=h)(b:i<h+1 - min o (h+1)):i<=h - o:=by rw[A6 (Nat.le_succ_of_le a)]at b;lia
theorem ga5(a:h+o<n)(b:h+min o (n - h)<=i):h+o<=i:=by rw[A6 ⋯]at b;exact b
theorem ga6(a:n - h<=o)(b:h+min o (n - h)<=i) : ¬ i<n:=by rw[Nat.min_eq_right a]at b;lia
theorem ga7(a : ¬ o ≥ n - h):h+o<n:=by lia
theorem ga8(a : ¬ lo ≥ hi):lo<=lo+(hi - lo) / 2/\lo+(hi - lo) / 2<hi:=by lia
theorem ga9(a:hi - lo+x<=n)(b:lo<=m/\m<hi):hi - (m+1)+(x+1)<=n/\m - lo+(x+1)<=n:=by lia
theorem K3(a:x<o):x+1<2 * o+1/\o<2 * o+1:=by lia
end
theorem gq(hc:ju prog w A E s pr lt N κ){left:Bool}{k:Nat}{q:Array Nat}{base n hint:Nat}{st:SortSt}{Q:Option Nat->SortSt->Prop}(hk:kindOf st=κ)(hq:∀i∈q,i<N)(hkN:k<N)(hb:base+n<=q.size)(hh:hint<n)
  (mono:∀i j,i<=j->j<n->far lt left k (q.getD (base+j) 0)=true->far lt left k (q.getD (base+i) 0)=true)
  (h:∀m,m<=n->(∀i,i<m->far lt left k (q.getD (base+i) 0)=true)->(∀i,m<=i->i<n->far lt left k (q.getD (base+i) 0)=false)->Q (!m) st):wpS (model prog w) A E s (jt left (pr k) (q.map pr) base n hint) Q st:=by
 generalize hP:(λi=>far lt left k (q.getD (base+i) 0))=P at *
 have hP':∀i,far lt left k (q.getD (base+i) 0)=P i:=λi=>congrFun hP i
 simp only[hP']at mono h;have bey:∀i,i<n->∀{Q:Option Bool->SortSt->Prop},Q (!(P i)) st->wpS (model prog w) A E s (elem' (q.map pr) (base+i) >>= λx=>if left=true then lt' x (pr k)else lt' (pr k) x >>= λr=>pure (r.map λx=>(not x))) Q st:=λi hi {Q} hQ=>by
  refine i7 (aO ⋯ ?_);rw[<- hP']at hQ;have hx:=in_of hq (show base+i<q.size by lia)
  cases left with
  |true=>exact hc _ _ hx hkN hk hQ
  |false=>exact i7 (hc _ _ hkN hx hk (i8 hQ))
 have off:∀j,j<n->P j=false->∀i,j<=i->i<n->P i=false:=λj hj e i h1 h2=>by
  cases e2:P i with
  |false=>rfl
  |true=>rw[mono j i h1 h2 e2]at e;cases e
 refine i7 (bey hint hh ?_);dsimp -zeta only
 extract_lets +onlyGivenNames jp
 refine eZ (λR=>∀u x y lo hi,(∀i,i<lo->P i=true)->(∀i,hi<=i->i<n->P i=false)->lo<=hi/\hi<=n->R (jp u x y lo hi)) (λjs=>?_) λu x y lo hi h1 h2 h3=>?_
 .
  refine dO (λhr=>?_) λhr=>?_
  .
   refine aU (λx c st'=>st=st'/\∃l o,c=(none,l,o)/\x<o/\l<o/\hint+l<n/\P (hint+l)=true)
    (λc st'=>st=st'/\∃l o,c=(none,l,o)/\l<o/\hint+l<n/\P (hint+l)=true/\(n - hint<=o\/(hint+o<n/\P (hint+o)=false))) ?_ ?_ #[rfl,0,1,rfl,Nat.one_pos,Nat.one_pos,hh,hr] ?_
   .
    rintro F hF x c st' _ hx ⟨rfl,l,o,rfl,h1,h2,h3,h4⟩;subst hF;refine aK (λho=>i8 #[rfl,l,o,rfl,h2,h3,h4,.inl ho]) λho=>?_
    have ho:=ga7 ho;exact i7 (bey (hint+o) ho (aK (λe=>i8 #[rfl,l,o,rfl,h2,h3,h4,.inr #[ho,by simpa using e]]) λe=>i8 #[rfl,o,2 * o+1,rfl,(K3 h1).1,(K3 h1).2,ho,by simpa using e]))
   . rintro c st' ⟨rfl,l,o,rfl,h1,h2,h3,h4⟩;exact#[rfl,l,o,rfl,h2,h3,h4,.inl ⋯]
   rintro G hG c st' ⟨rfl,l,o,rfl,h2,h3,h4,h5⟩;subst hG;refine js () l o _ _ (λi hi=>mono i (hint+l) (CC hi) h3 h4) (λi h6 h7=>?_) (ga2 h2 h3)
   rcases h5 with h5 |⟨h5,h8⟩
   . exact absurd h7 (ga6 h5 h6)
   . exact off _ h5 h8 i (ga5 h5 h6) h7
  .
   refine aU (λx c st'=>st=st'/\∃l o,c=(none,l,o)/\x<o/\l<o/\l<=hint/\P (hint - l)=false)
    (λc st'=>st=st'/\∃l o,c=(none,l,o)/\l<o/\l<=hint/\P (hint - l)=false/\(hint+1<=o\/(o<=hint/\P (hint - o)=true))) ?_ ?_ #[rfl,0,1,rfl,Nat.one_pos,Nat.one_pos,sR _,hr] ?_
   .
    rintro F hF x c st' _ hx ⟨rfl,l,o,rfl,h1,h2,h3,h4⟩;subst hF;refine aK (λho=>i8 #[rfl,l,o,rfl,h2,h3,h4,.inl ho]) λho=>?_
    have ho:o<=hint:=CC (Nat.not_le.mp ho);exact i7 (bey (hint - o) (y8 (CB _ _) hh) (aK (λe=>i8 #[rfl,l,o,rfl,h2,h3,h4,.inr #[ho,e]]) λe=>i8 #[rfl,o,2 * o+1,rfl,(K3 h1).1,(K3 h1).2,ho,by simpa using e]))
   . rintro c st' ⟨rfl,l,o,rfl,h1,h2,h3,h4⟩;exact#[rfl,l,o,rfl,h2,h3,h4,.inl ⋯]
   rintro G hG c st' ⟨rfl,l,o,rfl,h2,h3,h4,h5⟩;subst hG;refine js () l o _ _ (λi hi=>?_) (λi h6 h7=>off (hint - l) (y8 (CB _ _) hh) h4 i h6 h7) (ga3 h2 h3 hh)
   rcases h5 with h5 |⟨h5,h7⟩
   . exact absurd hi (ga1 h5)
   . exact mono i (hint - o) (ga4 h5 hi) (y8 (CB _ _) hh) h7
 .
  refine aU (λx c st'=>st=st'/\∃lo hi,c=(none,lo,hi)/\hi - lo+x<=n/\(∀i,i<lo->P i=true)/\(∀i,hi<=i->i<n->P i=false)/\lo<=hi/\hi<=n)
   (λc st'=>st=st'/\∃lo,c=(none,lo,lo)/\(∀i,i<lo->P i=true)/\(∀i,lo<=i->i<n->P i=false)/\lo<=n) ?_ ?_ #[rfl,lo,hi,rfl,by lia,h1,h2,h3] ?_
  .
   rintro F hF x c st' _ hx ⟨rfl,lo,hi,rfl,h0,h1,h2,h3⟩;subst hF;refine aK (λhl=>?_) λhl=>?_
   . obtain rfl:lo=hi:=EL h3.1 hl;exact i8 #[rfl,lo,rfl,h1,h2,h3.2]
   .
    have hm:=ga8 hl;generalize lo+(hi - lo) / 2=m at hm ⊢
    have hmn:=i4 hm.2 h3.2;exact i7 (bey m hmn (dO (λe=>i8 #[rfl,_,hi,rfl,(ga9 h0 hm).1,λi h4=>mono i _ (CC h4) hmn e,h2,hm.2,h3.2]) λe=>i8 #[rfl,lo,_,rfl,(ga9 h0 hm).2,h1,λi h4 h5=>off _ hmn e i h4 h5,hm.1,AU hmn]))
  .
   rintro c st' ⟨rfl,lo,hi,rfl,h0,h1,h2,h3⟩;obtain rfl:lo=hi:=by lia
   exact#[rfl,lo,rfl,h1,h2,h3.2]
  . rintro G hG c st' ⟨rfl,lo,rfl,h1,h2,h3⟩;subst hG;exact i8 (h lo h3 h1 h2)
end
open PySem PySem.W PyProof.Rows
section
variable{R:Nat->Nat->Prop}{A B o:List Nat}{i j k:Nat}
structure Mg(R:Nat->Nat->Prop)(A B o:List Nat)(i j:Nat):Prop where
 pw:o.Pairwise R
 ah:∀x∈o,∀y∈A.drop i++B.drop j,R x y
 pm:o.Perm (A.take i++B.take j)
theorem Mg.swap(h:Mg R A B o i j):Mg R B A o j i:=#[h.pw,λx hx y hy=>h.ah x hx y (kA.mpr (kA.mp hy).symm),h.pm.trans BE]
theorem Eo(A:List Nat)(i k:Nat):(A.drop i).take k++A.drop (i+k)=A.drop i:=by rw[<- List.drop_drop,nS]
theorem Mg.left(h:Mg R A B o i j)(hA:A.Pairwise R)(hk:∀x∈(A.drop i).take k,∀y∈B.drop j,R x y):Mg R A B (o++(A.drop i).take k) (i+k) j:=by
 have e:=Eo A i k;have hd:((A.drop i).take k++A.drop (i+k)).Pairwise R:=by rw[e];exact hA.drop
 obtain⟨d1,d2,d3⟩:=oD.mp hd;refine#[oD.mpr #[h.pw,d1,λx hx y hy=>h.ah x hx y (mP _ (ED hy))],λx hx y hy=>?_,?_]
 .
  rcases kA.mp hx with hx |hx <;> rcases kA.mp hy with hy |hy
  . exact h.ah x hx y (mP _ (by rw[<- e];exact hV _ hy))
  . exact h.ah x hx y (hV _ hy)
  . exact d3 x hx y hy
  . exact hk x hx y hy
 . have t:A.take (i+k)=A.take i++(A.drop i).take k:=List.take_add;rw[t,kS];refine (h.pm.append_right _).trans ?_;rw[kS];exact List.Perm.append_left _ BE
theorem take_one{A:Array Nat}{i:Nat}(hi:i<A.size):(A.toList.drop i).take 1=[A.getD i 0]:=by
 have hi':i<A.toList.length:=by simpa using hi
 rw[AI hi'];simp[hi]
end
section
variable{R:Nat->Nat->Prop}{A B o:Array Nat}{i j k x:Nat}
abbrev mR(R:Nat->Nat->Prop)(A B o:Array Nat)(i j:Nat):Prop:=Mg R A.toList B.toList o.toList i j
theorem yh{P:Nat->Prop}(h:∀t,i<=t->t<A.size->P (A.getD t 0)):∀y∈A.toList.drop i,P y:=λy hy=>by
 obtain⟨t,ht,rfl⟩:=r6 hy;rw[Bz]at ht;have:=h (i+t) ⋯ (by rw[fR]at ht;lia)
 simpa [Array.getD,show i+t<A.size by rw[fR]at ht;lia]using this
theorem ug(A:Array Nat)(i k:Nat):(A.extract i (i+k)).toList=(A.toList.drop i).take k:=by rw[Array.toList_extract];show (A.toList.drop i).take (i+k - i)=_;rw[o6]
theorem mR.push(h:mR R A B o i j)(hA:A.toList.Pairwise R)(hi:i<A.size)(hk:∀u,j<=u->u<B.size->R (A.getD i 0) (B.getD u 0)):mR R A B (o.push (A.getD i 0)) (i+1) j:=by
 have:=Mg.left h hA (by rw[take_one hi];exact λx hx=>by rw[fA.mp hx];exact yh hk)
 rw[take_one hi,<- CD]at this;exact this
theorem mR.ext(h:mR R A B o i j)(hA:A.toList.Pairwise R)(k:Nat)(hk:∀t u,t<k->i+t<A.size->j<=u->u<B.size->R (A.getD (i+t) 0) (B.getD u 0)):mR R A B (o++A.extract i (i+k)) (i+k) j:=by
 have:=Mg.left (k:=k) h hA λx hx=>yh λu h1 h2=>by
  obtain⟨t,ht,rfl⟩:=r6 hx;rw[mM,Bz,fR]at ht;have:=hk t u ⋯ ⋯ h1 h2;simpa [Array.getD,show i+t<A.size by lia]using this
 rw[<- ug,<- CY]at this;exact this
theorem mR.fin(h:mR R A B o i j)(hA:A.toList.Pairwise R)(hB:B.toList.Pairwise R)(hk:∀t u,i<=t->t<A.size->j<=u->u<B.size->R (A.getD t 0) (B.getD u 0)) :
  (o++A.extract i++B.extract j).toList.Pairwise R/\(o++A.extract i++B.extract j).toList.Perm (A.toList++B.toList):=by
 have e:∀(A:Array Nat) (i:Nat),A.extract i (i+(A.size - i))=A.extract i:=λA i=>by
  rcases Nat.le_total i A.size with q |q
  . rw[Nat.add_sub_cancel' q]
  . rw[Nat.sub_eq_zero_of_le q];apply EW;simp[q]
 have h1:=h.ext hA (A.size - i) λt u h1 h2 h3 h4=>hk (i+t) u ⋯ h2 h3 h4
 have h2:=mR.ext h1.swap hB (B.size - j) λt u _ _ h3 h4=>by lia
 rw[e,e]at h2;exact#[h2.pw,by have:=h2.swap.pm;rwa [t6 (by rw[fR];lia),t6 (by rw[fR];lia)]at this]
theorem pw_at(hr:∀x,R x x)(hA:A.toList.Pairwise R){t u:Nat}(h:t<=u)(hu:u<A.size):R (A.getD t 0) (A.getD u 0):=by
 rcases AX t u with q |q
 .
  have:=CI.mp hA t u (by rw[fR];lia) (by rw[fR];exact hu) q
  simpa [Array.getD,hu,show t<A.size by lia]using this
 . rw[EL h q];exact hr _
end
abbrev Le(lt:Nat->Nat->Bool)(x y:Nat):Prop:=lt y x=false
theorem Ep{i k t:Nat}(h:i+k<=t):k<=t - i:=by lia
theorem yi{i k t:Nat}(h:i+k<=t):i+(t - i)=t:=by lia
section
variable{prog:Program}{w:World}{A:Around}{E:Value->Shared->Prop}{s:Shared}
variable{pr:Nat->Keyed}{lt:Nat->Nat->Bool}{N:Nat}{κ:SortKind}{k:Nat}{q:Array Nat}{base n hint:Nat}{st:SortSt}{Q:Option Nat->SortSt->Prop}
theorem yj(hc:ju prog w A E s pr lt N κ)(hr:∀x,lt x x=false)(ht:∀x y z,Le lt x y->Le lt y z->Le lt x z)(hk:kindOf st=κ)(hq:∀i∈q,i<N)(sq:q.toList.Pairwise (Le lt))(hkN:k<N)(hb:base+n<=q.size)(hh:hint<n)
  (h:∀m,m<=n->(∀t,t<m->Le lt (q.getD (base+t) 0) k)->(∀t,base+m<=t->t<base+n->lt k (q.getD t 0)=true)->Q (!m) st):wpS (model prog w) A E s (jt false (pr k) (q.map pr) base n hint) Q st:=by
 have e:∀x,far lt false k x=(not (lt k x)):=λ_=>rfl
 refine gq hc hk hq hkN hb hh (λx y h1 h2 h3=>?_) λm h1 h2 h3=>h m h1 (λt z=>?_) λt z1 z2=>?_
 .
  rw[e,AZ]at h3 ⊢
  exact ht _ _ _ (pw_at hr sq ⋯ ⋯) h3
 . have:=h2 t z;rw[e,AZ]at this;exact this
 . have:=h3 (t - base) (Ep z1) ⋯;rw[e,yi z1]at this;simpa using this
theorem ym(hc:ju prog w A E s pr lt N κ)(hr:∀x,lt x x=false)(ht:∀x y z,Le lt x y->Le lt y z->Le lt x z)(hk:kindOf st=κ)(hq:∀i∈q,i<N)(sq:q.toList.Pairwise (Le lt))(hkN:k<N)(hb:base+n<=q.size)(hh:hint<n)
  (h:∀m,m<=n->(∀t,t<m->lt (q.getD (base+t) 0) k=true)->(∀t,base+m<=t->t<base+n->Le lt k (q.getD t 0))->Q (!m) st):wpS (model prog w) A E s (jt true (pr k) (q.map pr) base n hint) Q st:=by
 have e:∀x,far lt true k x=lt x k:=λ_=>rfl
 refine gq hc hk hq hkN hb hh (λx y h1 h2 h3=>?_) λm h1 h2 h3=>h m h1 (λt z=>e _▸h2 t z) λt z1 z2=>?_
 .
  rw[e]at h3 ⊢
  cases e2:lt (q.getD (base+x) 0) k with
  |true=>rfl
  |false=>have:=ht _ _ _ e2 (pw_at hr sq (show base+x<=base+y by lia) ⋯);rw[Le,h3]at this;cases this
 . have:=h3 (t - base) (Ep z1) ⋯;rw[e,yi z1]at this;exact this
theorem Er{a:Array Keyed}(ea:a=q.map pr)(hc:ju prog w A E s pr lt N κ)(hr:∀x,lt x x=false)(ht:∀x y z,Le lt x y->Le lt y z->Le lt x z)(hk:kindOf st=κ)(hq:∀i∈q,i<N)(sq:q.toList.Pairwise (Le lt))(hkN:k<N)(hb:base<q.size)
  (h:∀m,base+m<=q.size->(∀t,t<m->Le lt (q.getD (base+t) 0) k)->(∀t,base+m<=t->t<q.size->lt k (q.getD t 0)=true)->Q (!m) st):wpS (model prog w) A E s (jt false (pr k) a base (a.size - base) 0) Q st:=by
 subst ea;rw[CL];exact yj hc hr ht hk hq sq hkN ⋯ ⋯ λm h1 h2 h3=>h m ⋯ h2 λt z1 z2=>h3 t z1 ⋯
theorem Es{a:Array Keyed}(ea:a=q.map pr)(hc:ju prog w A E s pr lt N κ)(hr:∀x,lt x x=false)(ht:∀x y z,Le lt x y->Le lt y z->Le lt x z)(hk:kindOf st=κ)(hq:∀i∈q,i<N)(sq:q.toList.Pairwise (Le lt))(hkN:k<N)(hb:base<q.size)
  (h:∀m,base+m<=q.size->(∀t,t<m->lt (q.getD (base+t) 0) k=true)->(∀t,base+m<=t->t<q.size->Le lt k (q.getD t 0))->Q (!m) st):wpS (model prog w) A E s (jt true (pr k) a base (a.size - base) 0) Q st:=by
 subst ea;rw[CL];exact ym hc hr ht hk hq sq hkN ⋯ ⋯ λm h1 h2 h3=>h m ⋯ h2 λt z1 z2=>h3 t z1 ⋯
end
open PySem PySem.W PyProof.Rows
noncomputable def Et:Array Keyed->Array Keyed->StateT SortSt Sem (Array Keyed):=sortPriv% PySem.Builtin.mergeLo
def Ae(st st':SortSt):Prop:=kindOf st'=kindOf st/\arrOf st'=arrOf st/\pendingOf st'=pendingOf st/\failedOf st'=failedOf st
section
variable{prog:Program}{w:World}{A:Around}{E:Value->Shared->Prop}{s:Shared}
variable{pr:Nat->Keyed}{lt:Nat->Nat->Bool}{N:Nat}{κ:SortKind}
theorem Eu{i k t:Nat}(h : ¬ k > 0)(h2:i<=t):i+k<=t:=by lia
theorem wB(hc:ju prog w A E s pr lt N κ)(hr:∀x,lt x x=false)(ht:∀x y z,Le lt x y->Le lt y z->Le lt x z)(hl:∀x y,lt x y=true->Le lt x y){a b:Array Nat}{st:SortSt}{Q:Array Keyed->SortSt->Prop}(hk:kindOf st=κ)
  (ha:∀i∈a,i<N) (hb:∀i∈b,i<N) (sa:a.toList.Pairwise (Le lt)) (sb:b.toList.Pairwise (Le lt)) (na:1<=a.size) (nb:1<=b.size) (h0:lt (b.getD 0 0) (a.getD 0 0)=true) (hz:∀u,u<b.size->Le lt (b.getD u 0) (a.getD (a.size - 1) 0))
  (h:∀(o:Array Nat) st',Ae st st'->o.toList.Pairwise (Le lt)->o.toList.Perm (a.toList++b.toList)->Q (o.map pr) st'):wpS (model prog w) A E s (Et (a.map pr) (b.map pr)) Q st:=by
 refine i7 (wpS_lift (BS #[rfl,?_]));refine i7 (aO nb ?_)
 extract_lets out z0 z1
 let Fin:=λ(r:Array Keyed) (st':SortSt)=>∃o:Array Nat,r=o.map pr/\Ae st st'/\o.toList.Pairwise (Le lt)/\o.toList.Perm (a.toList++b.toList)
 let Inv:=λ(out:Array Keyed) (i j:Nat) (st':SortSt)=>∃o:Array Nat,out=o.map pr/\Ae st st'/\mR (Le lt) a b o i j/\i+1<a.size/\j<b.size
 have dn:∀{out:Array Keyed}{o:Array Nat}{i j:Nat}{st':SortSt},out=o.map pr->Ae st st'->mR (Le lt) a b o i j->i=a.size\/j=b.size->Fin (out++(a.map pr).extract i++(b.map pr).extract j) st':=λ{out o i j st'} e g m q=>by
  obtain⟨h1,h2⟩:=m.fin sa sb λt u _ _ _ _=>by lia
  exact#[_,by simp[e],g,h1,h2]
 have la:∀{out:Array Keyed}{o:Array Nat}{i j:Nat}{st':SortSt},out=o.map pr->Ae st st'->mR (Le lt) a b o i j->i+1=a.size->Fin (out++(b.map pr).extract j++(a.map pr).extract i) st':=λ{out o i j st'} e g m q=>by
  obtain⟨h1,h2⟩:=mR.fin m.swap sb sa λu t h1 h2 h3 h4=>by
   obtain rfl:t=a.size - 1:=by lia
   exact hz u h2
  exact#[_,by simp[e],g,h1,h2.trans BE]
 have Ja:(a.map pr).size=a.size:=CL;have Sz:(b.map pr).size=b.size:=CL;have g0:Ae st st:=#[rfl,rfl,rfl,rfl];have m0:mR (Le lt) a b ([b.getD 0 0].toArray) 0 1:=by
  have e:mR (Le lt) b a ([].toArray) 0 0:=#[List.Pairwise.nil,λx hx=>(nomatch hx),nV _]
  exact (mR.push e sb nb λu _ hu=>ht _ _ _ (hl _ _ h0) (pw_at hr sa (sR u) hu)).swap
 have o0:out=(([b.getD 0 0].toArray):Array Nat).map pr:=by simp[out]
 have fin:∀r st',Fin r st'->Q r st':=λr st' #[o,e,g,h1,h2]=>by rw[e];exact h o st' g h1 h2
 clear_value out
 subst o0;refine bC Sz (λb1=>i8 (fin _ _ (dn rfl g0 m0 (.inr b1)))) λb1=>?_
 refine bC Ja (λa1=>i8 (fin _ _ (la rfl g0 m0 a1))) λa1=>?_
 refine i7 (wpS_get ?_)
 extract_lets mg
 let I0:=λx (c:Option (Array Keyed)×Array Keyed×Nat×Nat×Nat) st'=>∃out i j g,c=(none,out,i,j,g)/\Inv out i j st'/\1+x<=i+j
 let Q0:=λ(c:Option (Array Keyed)×Array Keyed×Nat×Nat×Nat) st'=>∃r,c.1=!r/\Fin r st'
 refine aU I0 Q0 ?_ ?_ #[_,0,1,mg,rfl,#[_,rfl,g0,m0,by lia,by lia],by lia] ?_
 .
  rintro F hF x c st' _ hx ⟨out,i,j,g,rfl,inv,pr0⟩;subst hF
  let I1:=λx (c:Option (Array Keyed)×Array Keyed×Nat×Nat×Nat×Nat) st'=>∃out i' j' p q,c=(none,out,i',j',p,q)/\Inv out i' j' st'/\i+j+x<=i'+j'
  let Q1:=λ(c:Option (Array Keyed)×Array Keyed×Nat×Nat×Nat×Nat) st'=>(∃r,c.1=!r/\Fin r st')\/I1 1 c st'
  refine aU I1 Q1 ?_ ?_ #[out,i,j,0,0,rfl,inv,by lia] ?_
  .
   rintro F hF x c st' _ hx ⟨out,i',j',p,q,rfl,⟨o,rfl,sg,m,hi,hj⟩,pg⟩;subst hF;refine i7 (aO hj (i7 (aO ⋯ ?_)));refine i7 (hc _ _ (in_of hb hj) (in_of ha ⋯) (sg.1.trans hk) ?_);refine dO (λe=>?_) λe=>?_
   .
    have m':=(mR.push m.swap sb hj λu h1 h2=>ht _ _ _ (hl _ _ e) (pw_at hr sa h1 h2)).swap
    refine i7 (aO hj ?_);refine bC Sz (λhe=>i8 (.inl #[_,rfl,dn t0.symm sg m' (.inr he)])) λhe=>?_
    have inv:Inv ((o.map pr).push (pr (b.getD j' 0))) i' (j'+1) st'/\i+j+(x+1)<=i'+(j'+1):=#[#[_,t0.symm,sg,m',hi,by lia],by lia]
    exact aK (λ_=>i8 (.inr #[_,_,_,_,_,rfl,inv.1,by lia])) λ_=>i8 #[_,_,_,_,_,rfl,inv]
   .
    have m':=mR.push m sa ⋯ λu h1 h2=>ht _ _ _ e (pw_at hr sb h1 h2)
    refine i7 (aO ⋯ ?_);refine bC Ja (λhe=>i8 (.inl #[_,rfl,la t0.symm sg m' he])) λhe=>?_
    have inv:Inv ((o.map pr).push (pr (a.getD i' 0))) (i'+1) j' st'/\i+j+(x+1)<=i'+1+j':=#[#[_,t0.symm,sg,m',by lia,hj],by lia]
    exact aK (λ_=>i8 (.inr #[_,_,_,_,_,rfl,inv.1,by lia])) λ_=>i8 #[_,_,_,_,_,rfl,inv]
  . rintro c st' ⟨out,i',j',p,q,rfl,inv,pg⟩;rw[Ja]at pg;exact .inr #[_,_,_,_,_,rfl,inv,by lia]
  .
   rintro G hG ⟨r0,c⟩ st' (⟨r,e,f⟩ |⟨out,i',j',p,q,e,inv,pg⟩)
   . obtain rfl:r0=!r:=e;subst hG;exact i8 #[r,rfl,f]
   .
    cases e;subst hG;refine i7 (wpS_lift (BS #[rfl,?_]))
    let I2:=λ(c:Option (Array Keyed)×Array Keyed×Nat×Nat×Nat×Nat×Nat) st'=>∃out i' j' g p q,c=(none,out,i',j',g,p,q)/\Inv out i' j' st'/\i+j+1<=i'+j'
    let Q2:=λ(c:Option (Array Keyed)×Array Keyed×Nat×Nat×Nat×Nat×Nat) st'=>(∃r,c.1=!r/\Fin r st')\/I2 c st'
    refine aU (λ_=>I2) Q2 ?_ ?_ #[out,i',j',_,p,q,rfl,inv,pg] ?_
    .
     rintro F hF x c st' _ hx ⟨out,i',j',g,p,q,rfl,⟨o,rfl,sg,m,hi,hj⟩,pg⟩;subst hF;dsimp -zeta only
     extract_lets +onlyGivenNames n1 n2 n3 n4 n5 n6 n7 n8 n9 n10 n11 n12 jp
     refine eZ (λR=>∀u v,R (jp u v)) ?_ ?_
     . exact λjs=>aK (λ_=>js () _) λ_=>js () _
     intro u v;refine i7 (C6 (i7 (aO hj ?_)));refine i7 (Er rfl hc hr ht (sg.1.trans hk) ha sa (in_of hb hj) (Nat.lt_of_succ_lt hi) λk1 h1 A1 A2=>?_)
     dsimp -zeta only
     extract_lets +onlyGivenNames ac Ew
     refine eZ (λR=>∀u Ey i2,(∃o2:Array Nat,Ey=o2.map pr/\mR (Le lt) a b o2 i2 j')->i2+1<a.size->i'<=i2->(∀t,i2<=t->t<a.size->lt (b.getD j' 0) (a.getD t 0)=true)->R (Ew u Ey i2)) ?_ ?_
     .
      intro js;have e1:(o++a.extract i' (i'+k1)).map pr=o.map pr++(a.map pr).extract i' (i'+k1):=by rw[D9,DZ]
      refine aK (λhk0=>?_) λhk0=>js () _ i' #[o,rfl,m] hi (eA _) λt q1 q2=>A2 t (Eu hk0 q1) q2
      have m1:=m.ext sa k1 λt u q1 _ q3 q4=>ht _ _ _ (A1 t q1) (pw_at hr sb q3 q4)
      refine bC Ja (λl1=>i8 (.inl #[_,rfl,la e1.symm sg m1 l1])) λl1=>?_
      refine bC Ja (λl2=>i8 (.inl #[_,rfl,dn e1.symm sg m1 (.inl l2)])) λl2=>?_
      exact js () _ _ #[_,e1.symm,m1] (DA (DA h1 l2) l1) (Nat.le_add_right _ _) A2
     rintro u _ i2 ⟨o2,rfl,m2⟩ hi2 hle A3;have m3:=(mR.push m2.swap sb hj λt q1 q2=>hl _ _ (A3 t q1 q2)).swap
     refine i7 (aO hj ?_)
     extract_lets +onlyGivenNames o3
     refine bC Sz (λl3=>i8 (.inl #[_,rfl,dn t0.symm sg m3 (.inr l3)])) λl3=>?_
     have Ci:=Nat.lt_of_succ_lt hi2;refine i7 (aO Ci ?_);have hj3:j'+1<b.size:=DA hj l3;refine i7 (Es rfl hc hr ht (sg.1.trans hk) hb sb (in_of ha Ci) hj3 λk2 q1 B1 B2=>?_)
     dsimp -zeta only
     extract_lets +onlyGivenNames bc n13 jp3
     refine eZ (λR=>∀u Ez j4,(∃o4:Array Nat,Ez=o4.map pr/\mR (Le lt) a b o4 i2 j4)->j4<b.size->j'+1<=j4->(∀t,j4<=t->t<b.size->Le lt (a.getD i2 0) (b.getD t 0))->R (jp3 u Ez j4)) ?_ ?_
     .
      intro js;have e4:(o2.push (b.getD j' 0)++b.extract (j'+1) (j'+1+k2)).map pr=(o2.map pr).push (pr (b.getD j' 0))++(b.map pr).extract (j'+1) (j'+1+k2):=by rw[D9,DZ,t0]
      refine aK (λhk0=>?_) λhk0=>js () _ (j'+1) #[_,t0.symm,m3] hj3 (eA _) λt r1 r2=>B2 t (Eu hk0 r1) r2
      have m4:=(mR.ext m3.swap sb k2 λt u r1 _ r3 r4=>ht _ _ _ (hl _ _ (B1 t r1)) (pw_at hr sa r3 r4)).swap
      refine bC Sz (λl4=>i8 (.inl #[_,rfl,dn e4.symm sg m4 (.inr l4)])) λl4=>?_
      exact js () _ _ #[_,e4.symm,m4] (DA q1 l4) (Nat.le_add_right _ _) B2
     rintro u _ j4 ⟨o4,rfl,m4⟩ hj4 Yp B3;have m5:=mR.push m4 sa ⋯ B3;refine i7 (aO Ci ?_);refine bC Ja (λl5=>i8 (.inl #[_,rfl,la t0.symm sg m5 l5])) λl5=>?_
     have inv:Inv ((o4.map pr).push (pr (a.getD i2 0))) (i2+1) j4 st'/\i+j+1<=i2+1+j4:=#[#[_,t0.symm,sg,m5,by lia,hj4],by lia]
     exact aK (λ_=>i8 (.inr #[_,i2+1,j4,_,_,_,rfl,inv])) λ_=>i8 #[_,i2+1,j4,_,_,_,rfl,inv]
    . exact λc st' h=>.inr h
    .
     rintro G hG ⟨r0,c⟩ st' (⟨r,e,f⟩ |⟨out,i',j',g,p,q,e,inv,pg⟩)
     . obtain rfl:r0=!r:=e;subst hG;exact i8 #[r,rfl,f]
     . cases e;subst hG;obtain⟨o,rfl,sg,m,hi,hj⟩:=inv;exact i7 (C6 (i8 #[_,i',j',_,rfl,#[o,rfl,sg,m,hi,hj],by lia]))
 . rintro c st' ⟨out,i,j,g,rfl,⟨o,e,_,_,h1,h2⟩,pr0⟩;rw[Ja,Sz]at pr0;lia
 . rintro G hG ⟨_,c⟩ st' ⟨r,rfl,f⟩;subst hG;exact i8 (fin r st' f)
end
section
variable{R:Nat->Nat->Prop}{A B L:List Nat}{i j k:Nat}
structure Mh(R:Nat->Nat->Prop)(A B L:List Nat)(i j:Nat):Prop where
 pw:L.Pairwise R
 ah:∀y∈A.take i++B.take j,∀x∈L,R y x
 pm:L.Perm (A.drop i++B.drop j)
theorem Mh.swap(h:Mh R A B L i j):Mh R B A L j i:=#[h.pw,λy hy=>h.ah y (kA.mpr (kA.mp hy).symm),h.pm.trans BE]
theorem Mh.left(h:Mh R A B L i j)(hA:A.Pairwise R)(hi:i<=A.length)(hki:k<=i)(hk:∀x∈(A.take i).drop k,∀y∈B.take j,R y x):Mh R A B ((A.take i).drop k++L) k j:=by
 have t:A.take i=A.take k++(A.take i).drop k:=by
  have:=(nS k (A.take i)).symm
  rwa [List.take_take,A6 hki]at this
 have hd:(A.take k++(A.take i).drop k).Pairwise R:=by rw[<- t];exact hA.take
 obtain⟨d1,d2,d3⟩:=oD.mp hd;refine#[oD.mpr #[d2,h.pw,λx hx y hy=>h.ah x (mP _ (CF hx)) y hy],λy hy x hx=>?_,?_]
 .
  rcases kA.mp hx with hx |hx <;> rcases kA.mp hy with hy |hy
  . exact d3 y hy x hx
  . exact hk x hx y hy
  . exact h.ah y (mP _ (by rw[t];exact mP _ hy)) x hx
  . exact h.ah y (hV _ hy) x hx
 .
  have e:A.drop k=(A.take i).drop k++A.drop i:=by
   have:=List.drop_append_of_le_length (l₁:=A.take i) (l₂:=A.drop i) (i:=k) (by rw[mM];lia)
   rwa [nS]at this
  rw[e,kS];exact h.pm.append_left _
end
section
variable{R:Nat->Nat->Prop}{A B o:Array Nat}{i j k x:Nat}
abbrev jK(R:Nat->Nat->Prop)(A B o:Array Nat)(i j:Nat):Prop:=Mh R A.toList B.toList o.reverse.toList i j
theorem K4{P:Nat->Prop}(h:∀t,t<i->t<A.size->P (A.getD t 0)):∀y∈A.toList.take i,P y:=λy hy=>by
 obtain⟨t,ht,rfl⟩:=r6 hy;rw[mM,fR]at ht;have:=h t ⋯ ⋯;simpa [Array.getD,show t<A.size by lia]using this
theorem jK.ext(h:jK R A B o i j)(hA:A.toList.Pairwise R)(hi:i<=A.size)(hki:k<=i)(hk:∀t u,k<=t->t<i->u<j->u<B.size->R (B.getD u 0) (A.getD t 0)):jK R A B (o++(A.extract k i).reverse) k j:=by
 have:=Mh.left h hA (by rw[fR];exact hi) hki λx hx=>K4 λu h1 h2=>by
  obtain⟨t,ht,rfl⟩:=r6 hx;rw[Bz,mM]at ht;have:=hk (k+t) u ⋯ ⋯ h1 h2;simpa [Array.getD,show k+t<A.size by lia]using this
 have e:(o++(A.extract k i).reverse).reverse.toList=(A.toList.take i).drop k++o.reverse.toList:=by simp[List.drop_take]
 unfold jK;rw[e];exact this
theorem jK.push(h:jK R A B o (i+1) j)(hA:A.toList.Pairwise R)(hi:i<A.size)(hk:∀u,u<j->u<B.size->R (B.getD u 0) (A.getD i 0)):jK R A B (o.push (A.getD i 0)) i j:=by
 have:=jK.ext h hA hi (BI i) λt u h1 h2 h3 h4=>by
  obtain rfl:t=i:=by lia
  exact hk u h3 h4
 have e:o++(A.extract i (i+1)).reverse=o.push (A.getD i 0):=by apply EW;have:=ug A i 1;rw[take_one hi]at this;rw[CY,Array.toList_reverse,this,CD];rfl
 rwa [e]at this
theorem jK.fin(h:jK R A B o i j)(hA:A.toList.Pairwise R)(hB:B.toList.Pairwise R)(hi:i<=A.size)(hj:j<=B.size)(hk:∀t u,t<i->u<j->R (A.getD t 0) (B.getD u 0)) :
  (A.extract 0 i++B.extract 0 j++o.reverse).toList.Pairwise R/\(A.extract 0 i++B.extract 0 j++o.reverse).toList.Perm (A.toList++B.toList):=by
 have h1:=jK.ext h.swap hB hj (sR _) λt u _ h2 h3 _=>hk u t h3 h2
 have h2:=jK.ext h1.swap hA hi (sR _) λt u _ _ h3 _=>by lia
 have e:(o++(B.extract 0 j).reverse++(A.extract 0 i).reverse).reverse=A.extract 0 i++B.extract 0 j++o.reverse:=by simp
 unfold jK at h2;rw[e]at h2;exact#[h2.pw,h2.pm]
end
open PySem PySem.W PyProof.Rows
noncomputable def EY:Array Keyed->Array Keyed->StateT SortSt Sem (Array Keyed):=sortPriv% PySem.Builtin.mergeHi
section
variable{prog:Program}{w:World}{A:Around}{E:Value->Shared->Prop}{s:Shared}
variable{pr:Nat->Keyed}{lt:Nat->Nat->Bool}{N:Nat}{κ:SortKind}
theorem jw{i:Nat}(h:1<=i):∃y,i=y+1:=#[i - 1,by lia]
theorem Fb{n k t:Nat}(h : ¬ n - k > 0)(h2:t<n):t<k:=by lia
theorem SJ{k:Nat}(h:k≠1)(h2:k≠0):2<=k:=by lia
theorem wC(hc:ju prog w A E s pr lt N κ)(hr:∀x,lt x x=false)(ht:∀x y z,Le lt x y->Le lt y z->Le lt x z)(hl:∀x y,lt x y=true->Le lt x y){a b:Array Nat}{st:SortSt}{Q:Array Keyed->SortSt->Prop}(hk:kindOf st=κ)
  (ha:∀i∈a,i<N) (hb:∀i∈b,i<N) (sa:a.toList.Pairwise (Le lt)) (sb:b.toList.Pairwise (Le lt)) (na:1<=a.size) (nb:1<=b.size) (h0:lt (b.getD 0 0) (a.getD 0 0)=true) (hz:∀u,u<b.size->Le lt (b.getD u 0) (a.getD (a.size - 1) 0))
  (h:∀(o:Array Nat) st',Ae st st'->o.toList.Pairwise (Le lt)->o.toList.Perm (a.toList++b.toList)->Q (o.map pr) st'):wpS (model prog w) A E s (EY (a.map pr) (b.map pr)) Q st:=by
 have Ja:(a.map pr).size=a.size:=CL;have Sz:(b.map pr).size=b.size:=CL;refine i7 (wpS_lift (BS #[rfl,?_]));refine i7 (aO (i:=(a.map pr).size - 1) (by rw[Ja];lia) ?_)
 extract_lets out z0
 let Fin:=λ(r:Array Keyed) (st':SortSt)=>∃o:Array Nat,r=o.map pr/\Ae st st'/\o.toList.Pairwise (Le lt)/\o.toList.Perm (a.toList++b.toList)
 let Inv:=λ(out:Array Keyed) (i j:Nat) (st':SortSt)=>∃o:Array Nat,out=o.map pr/\Ae st st'/\jK (Le lt) a b o i j/\(1<=i/\i<=a.size)/\(2<=j/\j<=b.size)
 have dn:∀{out:Array Keyed}{o:Array Nat}{i j:Nat}{st':SortSt},out=o.map pr->Ae st st'->jK (Le lt) a b o i j->i<=a.size->j<=b.size->(i=0\/j=0)->Fin ((a.map pr).extract 0 i++(b.map pr).extract 0 j++out.reverse) st':=λ{out o i j st'} e g m q1 q2 q=>by
  obtain⟨h1,h2⟩:=m.fin sa sb q1 q2 λt u h1 h2=>by lia
  exact#[_,by simp[e],g,h1,h2]
 have la:∀{out:Array Keyed}{o:Array Nat}{i j:Nat}{st':SortSt},j=1->out=o.map pr->Ae st st'->jK (Le lt) a b o i j->i<=a.size->Fin ((b.map pr).extract 0 j++(a.map pr).extract 0 i++out.reverse) st':=λ{out o i j st'} ej e g m q1=>by
  subst ej;obtain⟨h1,h2⟩:=jK.fin m.swap sb sa nb q1 λu t h1 h2=>by
   obtain rfl:u=0:=by lia
   exact ht _ _ _ (hl _ _ h0) (pw_at hr sa (sR _) ⋯)
  exact#[_,by simp[e],g,h1,h2.trans BE]
 have g0:Ae st st:=#[rfl,rfl,rfl,rfl];have m0:jK (Le lt) a b ([a.getD (a.size - 1) 0].toArray) (a.size - 1) b.size:=by
  have e:jK (Le lt) a b ([].toArray) (a.size - 1+1) b.size:=#[List.Pairwise.nil,λy _ x hx=>(nomatch hx),by
   rw[Nat.sub_add_cancel na];rw[B7 (by rw[fR];exact eA _),B7 (by rw[fR];exact eA _)]
   exact nV _]
  exact jK.push e sa ⋯ λu _ hu=>hz u hu
 have o0:out=(([a.getD (a.size - 1) 0].toArray):Array Nat).map pr:=by simp[out]
 have fin:∀r st',Fin r st'->Q r st':=λr st' #[o,e,g,h1,h2]=>by rw[e];exact h o st' g h1 h2
 clear_value out
 subst o0;rw[Ja,Sz];refine bC rfl (λa1=>i8 (fin _ _ (dn rfl g0 m0 (CB _ _) (eA _) (.inl a1)))) λa1=>?_
 refine bC rfl (λb1=>i8 (fin _ _ (la b1 rfl g0 m0 (CB _ _)))) λb1=>?_
 refine i7 (wpS_get ?_)
 extract_lets mg
 let I0:=λx (c:Option (Array Keyed)×Nat×Nat×Array Keyed×Nat) st'=>∃i j out g,c=(none,i,j,out,g)/\Inv out i j st'/\i+j+x+1<=a.size+b.size
 let Q0:=λ(c:Option (Array Keyed)×Nat×Nat×Array Keyed×Nat) st'=>∃r,c.1=!r/\Fin r st'
 refine aU I0 Q0 ?_ ?_ #[a.size - 1,b.size,_,mg,rfl,#[_,rfl,g0,m0,by lia,by lia],by lia] ?_
 .
  rintro F hF x c st' _ hx ⟨i,j,out,g,rfl,inv,pr0⟩;subst hF
  let I1:=λx (c:Option (Array Keyed)×Nat×Nat×Array Keyed×Nat×Nat) st'=>∃i' j' out p q,c=(none,i',j',out,p,q)/\Inv out i' j' st'/\i'+j'+x<=i+j
  let Q1:=λ(c:Option (Array Keyed)×Nat×Nat×Array Keyed×Nat×Nat) st'=>(∃r,c.1=!r/\Fin r st')\/I1 1 c st'
  refine aU I1 Q1 ?_ ?_ #[i,j,out,0,0,rfl,inv,by lia] ?_
  .
   rintro F hF x c st' _ hx ⟨i',j',out,p,q,rfl,⟨o,rfl,sg,m,hi,hj⟩,pg⟩;obtain⟨i',rfl⟩:=jw hi.1;obtain⟨j',rfl⟩:=jw (AE hj.1);subst hF;refine i7 (aO (i:=j') ⋯ (i7 (aO (i:=i') ⋯ ?_)));refine i7 (hc _ _ (in_of hb ⋯) (in_of ha ⋯) (sg.1.trans hk) ?_);refine dO (λe=>?_) λe=>?_
   .
    have m':=jK.push m sa ⋯ λu h1 h2=>ht _ _ _ (pw_at hr sb (show u<=j' by lia) hj.2) (hl _ _ e)
    refine i7 (aO (i:=i') hi.2 ?_);refine bC rfl (λhe=>i8 (.inl #[_,rfl,dn t0.symm sg m' (AE hi.2) hj.2 (.inl he)])) λhe=>?_
    have inv:Inv ((o.map pr).push (pr (a.getD i' 0))) i' (j'+1) st'/\i'+(j'+1)+(x+1)<=i+j:=#[#[_,t0.symm,sg,m',#[Nat.pos_of_ne_zero he,AE hi.2],hj],by lia]
    exact aK (λ_=>i8 (.inr #[i',j'+1,_,_,_,rfl,inv.1,by lia])) λ_=>i8 #[i',j'+1,_,_,_,rfl,inv]
   .
    have m':=(jK.push m.swap sb ⋯ λu h1 h2=>ht _ _ _ (pw_at hr sa (show u<=i' by lia) hi.2) e).swap
    refine i7 (aO (i:=j') hj.2 ?_);refine bC rfl (λhe=>i8 (.inl #[_,rfl,la he t0.symm sg m' hi.2])) λhe=>?_
    have inv:Inv ((o.map pr).push (pr (b.getD j' 0))) (i'+1) j' st'/\i'+1+j'+(x+1)<=i+j:=#[#[_,t0.symm,sg,m',hi,by have:j'≠1:=he;lia],by lia]
    exact aK (λ_=>i8 (.inr #[i'+1,j',_,_,_,rfl,inv.1,by lia])) λ_=>i8 #[i'+1,j',_,_,_,rfl,inv]
  . rintro c st' ⟨i',j',out,p,q,rfl,inv,pg⟩;exact .inr #[_,_,_,_,_,rfl,inv,by lia]
  .
   rintro G hG ⟨r0,c⟩ st' (⟨r,e,f⟩ |⟨i',j',out,p,q,e,inv,pg⟩)
   . obtain rfl:r0=!r:=e;subst hG;exact i8 #[r,rfl,f]
   .
    cases e;subst hG;refine i7 (wpS_lift (BS #[rfl,?_]))
    let I2:=λ(c:Option (Array Keyed)×Nat×Nat×Array Keyed×Nat×Nat×Nat) st'=>∃i' j' out g p q,c=(none,i',j',out,g,p,q)/\Inv out i' j' st'/\i'+j'+1<=i+j
    let Q2:=λ(c:Option (Array Keyed)×Nat×Nat×Array Keyed×Nat×Nat×Nat) st'=>(∃r,c.1=!r/\Fin r st')\/I2 c st'
    refine aU (λ_=>I2) Q2 ?_ ?_ #[i',j',out,_,p,q,rfl,inv,pg] ?_
    .
     rintro F hF x c st' _ hx ⟨i',j',out,g,p,q,rfl,⟨o,rfl,sg,m,hi,hj⟩,pg⟩;obtain⟨i',rfl⟩:=jw hi.1;obtain⟨j',rfl⟩:=jw (AE hj.1);subst hF;dsimp -zeta only
     extract_lets +onlyGivenNames n1 n2 n3 n4 n5 n6 n7 n8 n9 n10 n11 n12 jp
     refine eZ (λR=>∀u v,R (jp u v)) ?_ ?_
     . exact λjs=>aK (λ_=>js () _) λ_=>js () _
     intro u v;refine i7 (C6 (i7 (aO (i:=j') hj.2 ?_)));refine i7 (yj (k:=b.getD j' 0) (q:=a) (base:=0) (n:=i'+1) (hint:=i') hc hr ht (sg.1.trans hk) ha sa (in_of hb hj.2) (by rw[xI];exact hi.2) (t9 _) λk1 h1 A1 A2=>?_)
     simp only[xI]at A1 A2;dsimp -zeta only
     extract_lets +onlyGivenNames kk ac Ew
     refine eZ (λR=>∀u Ey i2,(∃o2:Array Nat,Ey=o2.map pr/\jK (Le lt) a b o2 i2 (j'+1))->1<=i2->i2<=i'+1->(∀t,t<i2->Le lt (a.getD t 0) (b.getD j' 0))->R (Ew u i2 Ey)) ?_ ?_
     .
      intro js;have e1:(o++(a.extract k1 (i'+1)).reverse).map pr=o.map pr++((a.map pr).extract k1 (i'+1)).reverse:=by rw[D9,Array.map_reverse,DZ]
      refine aK (λ_=>?_) λhk0=>js () _ (i'+1) #[o,rfl,m] hi.1 (eA _) λt q=>A1 t (Fb hk0 q)
      have m1:=jK.ext (k:=k1) m sa hi.2 h1 λt u q1 q2 q3 q4=>ht _ _ _ (pw_at hr sb (show u<=j' by lia) hj.2) (hl _ _ (A2 t q1 q2))
      refine bC rfl (λl1=>i8 (.inl #[_,rfl,dn e1.symm sg m1 (oI h1 hi.2) hj.2 (.inl l1)])) λl1=>?_
      exact js () _ _ #[_,e1.symm,m1] (Nat.pos_of_ne_zero l1) h1 A1
     rintro u _ i2 ⟨o2,rfl,m2⟩ hi2 hle A3;have m3:=(jK.push m2.swap sb ⋯ λt q1 q2=>A3 t q1).swap
     refine i7 (aO (i:=j') hj.2 ?_)
     extract_lets +onlyGivenNames o3
     refine bC rfl (λl3=>i8 (.inl #[_,rfl,la l3 t0.symm sg m3 (oI hle hi.2)])) λl3=>?_
     have l3:j'≠1:=l3;obtain⟨i3,rfl⟩:=jw hi2;have Ci:i3<a.size:=oI hle hi.2;refine i7 (aO (i:=i3) Ci ?_);refine i7 (ym (k:=a.getD i3 0) (q:=b) (base:=0) (n:=j') (hint:=j' - 1) hc hr ht (sg.1.trans hk) hb sb (in_of ha Ci) ⋯ ⋯ λk2 q1 B1 B2=>?_)
     simp only[xI]at B1 B2;dsimp -zeta only
     extract_lets +onlyGivenNames k3 bc n15 jp3
     refine eZ (λR=>∀u Ez j4,(∃o4:Array Nat,Ez=o4.map pr/\jK (Le lt) a b o4 (i3+1) j4)->2<=j4->j4<=j'->(∀t,t<j4->Le lt (b.getD t 0) (a.getD i3 0))->R (jp3 u j4 Ez)) ?_ ?_
     .
      intro js;have e4:(o2.push (b.getD j' 0)++(b.extract k2 j').reverse).map pr=(o2.map pr).push (pr (b.getD j' 0))++((b.map pr).extract k2 j').reverse:=by rw[D9,Array.map_reverse,DZ,t0]
      refine aK (λ_=>?_) λhk0=>js () _ j' #[_,t0.symm,m3] ⋯ (eA _) λt r=>hl _ _ (B1 t (Fb hk0 r))
      have m4:=(jK.ext (k:=k2) m3.swap sb (AE hj.2) q1 λt u r1 r2 r3 r4=>ht _ _ _ (pw_at hr sa (show u<=i3 by lia) Ci) (B2 t r1 r2)).swap
      refine bC rfl (λl4=>i8 (.inl #[_,rfl,la l4 e4.symm sg m4 Ci])) λl4=>?_
      refine bC rfl (λl5=>i8 (.inl #[_,rfl,dn e4.symm sg m4 Ci (oI q1 (AE hj.2)) (.inr l5)])) λl5=>?_
      exact js () _ _ #[_,e4.symm,m4] (SJ l4 l5) q1 λt r=>hl _ _ (B1 t r)
     rintro u _ j4 ⟨o4,rfl,m4⟩ hj4 Yp B3;have hj5:j4<=b.size:=oI Yp (AE hj.2);have m5:=jK.push m4 sa ⋯ λt r1 r2=>B3 t r1
     refine i7 (aO (i:=i3) Ci ?_);refine bC rfl (λl6=>i8 (.inl #[_,rfl,dn t0.symm sg m5 (AE Ci) hj5 (.inl l6)])) λl6=>?_
     have inv:Inv ((o4.map pr).push (pr (a.getD i3 0))) i3 j4 st'/\i3+j4+1<=i+j:=#[#[_,t0.symm,sg,m5,#[Nat.pos_of_ne_zero l6,AE Ci],hj4,hj5],by lia]
     exact aK (λ_=>i8 (.inr #[i3,j4,_,_,_,_,rfl,inv])) λ_=>i8 #[i3,j4,_,_,_,_,rfl,inv]
    . exact λc st' h=>.inr h
    .
     rintro G hG ⟨r0,c⟩ st' (⟨r,e,f⟩ |⟨i',j',out,g,p,q,e,inv,pg⟩)
     . obtain rfl:r0=!r:=e;subst hG;exact i8 #[r,rfl,f]
     . cases e;subst hG;obtain⟨o,rfl,sg,m,hi,hj⟩:=inv;exact i7 (C6 (i8 #[i',j',_,_,rfl,#[o,rfl,sg,m,hi,hj],by lia]))
 . rintro c st' ⟨i,j,out,g,rfl,⟨o,e,_,_,h1,h2⟩,pr0⟩;lia
 . rintro G hG ⟨_,c⟩ st' ⟨r,rfl,f⟩;subst hG;exact i8 (fin r st' f)
end
open PySem PySem.W PyProof.Rows
theorem uh{α:Type}(s:Nat):∀(o:List α) (k:Nat) (q:Array α),s+k+o.length<=q.size->((o.zipIdx k).foldl (λa (p:α×Nat)=>a.setIfInBounds (s+p.2) p.1) q).toList=q.toList.take (s+k)++o++q.toList.drop (s+k+o.length)
 | [],k,q,_=>by simp
 |x::o,k,q,h=>by
  rw[nK]at h;rw[List.zipIdx_cons,List.foldl_cons,uh s o (k+1) _ (by rw[Array.size_setIfInBounds];lia),Array.toList_setIfInBounds]
  have hl:s+k<q.toList.length:=by rw[fR];lia
  rw[show s+(k+1)=s+k+1 by lia,show s+k+1+o.length=s+k+(o.length+1)by lia,List.drop_set]
  rw[List.set_eq_take_append_cons_drop,tJ hl];have:(q.toList.take (s+k)).length=s+k:=by rw[mM];lia
  rw[Ee,this,t6 ⋯];simp
theorem yp{q:Array Nat}{P A S:List Nat}(h:q.toList=P++A++S){t:Nat}(ht:t<A.length):q.getD (P.length+t) 0=A.getD t 0:=by
 have e:q.getD (P.length+t) 0=q.toList.getD (P.length+t) 0:=by simp[a9]
 rw[e,h,kS,a9,a9,eD ⋯,o6,fN ht]
theorem yq{q:Array Nat}{P A S:List Nat}(h:q.toList=P++A++S){k m:Nat}(hm:m<=A.length):q.extract (P.length+k) (P.length+m)=((A.take m).drop k).toArray:=by
 apply EW;rw[Array.toList_extract,h,List.extract_eq_drop_take,kS,List.drop_append,B7 ⋯,B9,o6,List.drop_append];rw[List.drop_take,show P.length+m - (P.length+k)=m - k by lia]
 rcases Nat.le_total k A.length with q |q
 . rw[y6 (by rw[Bz];lia)]
 .
  rw[show m - k=0 by lia]
  simp
theorem K5{σ:Type}{M:Model}{A:Around}{E:Value->Shared->Prop}{s:Shared}{v st:σ}{Q:PUnit->σ->Prop}(h:Q ⟨⟩ v):wpS M A E s (set v:StateT σ Sem PUnit) Q st:=by unfold wpS;rw[StateT.run_set];exact dL #[rfl,h]
theorem Wg{lt:Nat->Nat->Bool}(hr:∀x,lt x x=false){X:List Nat}(h:X.Pairwise (Le lt)){t u:Nat}(htu:t<=u)(hu:u<X.length):Le lt (X.getD t 0) (X.getD u 0):=by have:=pw_at hr h htu hu;simpa using this
theorem rq{P:Nat->Prop}{X:List Nat}{i m:Nat}(h:∀t,i<=t->t<m->t<X.length->P (X.getD t 0)):∀x∈(X.take m).drop i,P x:=λx hx=>by
 obtain⟨t,ht,rfl⟩:=r6 hx;rw[Bz,mM]at ht;have:=h (i+t) ⋯ ⋯ ⋯;simpa [a9,show i+t<X.length by lia]using this
section
variable{prog:Program}{w:World}{A:Around}{E:Value->Shared->Prop}{s:Shared}
variable{pr:Nat->Keyed}{lt:Nat->Nat->Bool}{N:Nat}{κ:SortKind}
theorem wD(hc:ju prog w A E s pr lt N κ)(hr:∀x,lt x x=false)(ht:∀x y z,Le lt x y->Le lt y z->Le lt x z)(hl:∀x y,lt x y=true->Le lt x y){q:Array Nat}{P X Y S:List Nat}{st:SortSt}{i pw pw':Nat}{Q:Bool->SortSt->Prop}(hk:kindOf st=κ)
  (hq:∀i∈q,i<N) (ha:arrOf st=q.map pr) (hf:failedOf st=none) (e:q.toList=P++(X++(Y++S))) (sx:X.Pairwise (Le lt)) (sy:Y.Pairwise (Le lt)) (nx:1<=X.length) (ny:1<=Y.length) (p0:(pendingOf st)[i]?=!(P.length,X.length,pw)) (p1:(pendingOf st)[i+1]?=!(P.length+X.length,Y.length,pw'))
  (h:∀(q':Array Nat) C st',arrOf st'=q'.map pr->q'.toList=P++(C++S)->C.Pairwise (Le lt)->C.Perm (X++Y)->kindOf st'=κ->failedOf st'=none->pendingOf st'=((pendingOf st).setIfInBounds i (P.length,X.length+Y.length,pw)).eraseIdxIfInBounds (i+1)->Q true st'):wpS (model prog w) A E s (mergeAt' i) Q st:=by
 have eX:q.toList=P++X++(Y++S):=by rw[e];simp
 have eY:q.toList=(P++X)++Y++S:=by rw[e];simp
 have hsz:q.size=P.length+X.length+Y.length+S.length:=by rw[<- fR,e];simp;lia
 have gX:∀{t},t<X.length->q.getD (P.length+t) 0=X.getD t 0:=λht=>yp eX ht
 have gY:∀{t},t<Y.length->q.getD (P.length+X.length+t) 0=Y.getD t 0:=λht=>by have:=yp eY ht;rwa [eQ]at this
 obtain⟨kd,ar,pd,mg,fl⟩:=st;change ar=q.map pr at ha;change fl=none at hf;change kd=κ at hk;change pd[i]?=_ at p0;change pd[i+1]?=_ at p1;subst ha hf hk;refine i7 (wpS_get ?_);dsimp only;rw[p0,p1];dsimp only;refine i7 (K5 ?_);refine i7 (aO (i:=P.length+X.length) ⋯ ?_);have y0:=gY (t:=0) ny;rw[Nat.add_zero]at y0;refine i7 (gq hc (left:=false) (q:=q) (base:=P.length) (n:=X.length) (hint:=0) rfl hq (in_of hq ⋯) ⋯ nx (λx y h1 h2 h3=>?_) λk h1 h2 h3=>?_)
 .
  rw[gX h2]at h3;rw[gX (t:=x) ⋯];unfold far at h3 ⊢
  simp only[DB,if_false,AZ]at h3 ⊢
  exact ht _ _ _ (Wg hr sx h1 h2) h3
 have A1:∀t,t<k->Le lt (X.getD t 0) (Y.getD 0 0):=λt r=>by
  have:=h2 t r;rw[gX (t:=t) ⋯,y0]at this;unfold far at this;simpa using this
 have A2:∀t,k<=t->t<X.length->lt (Y.getD 0 0) (X.getD t 0)=true:=λt r1 r2=>by
  have:=h3 t r1 r2;rw[gX r2,y0]at this;unfold far at this;simpa using this
 have both:(∀t u,t<X.length->u<Y.length->Le lt (X.getD t 0) (Y.getD u 0))->(X++Y).Pairwise (Le lt):=λz=>oD.mpr #[sx,sy,λx hx y hy=>by
  obtain⟨t,h1,rfl⟩:=r6 hx;obtain⟨u,h2,rfl⟩:=r6 hy;have:=z t u h1 h2;simpa [a9,h1,h2]using this]
 dsimp only;by_cases k0:X.length - k=0
 . rw[tJ (C5.mpr k0)];exact i8 (h q (X++Y) _ rfl (by rw[e];simp) (both λt u r1 r2=>ht _ _ _ (A1 t ⋯) (Wg hr sy (sR _) r2)) (nV _) rfl rfl rfl)
 rw[sK λq=>k0 (C5.mp q),show P.length+k+(X.length - k) - 1=P.length+(X.length - 1)by lia]
 refine i7 (aO (i:=P.length+(X.length - 1)) ⋯ ?_);have x0:=gX (t:=X.length - 1) ⋯;refine i7 (gq hc (left:=true) (q:=q) (base:=P.length+X.length) (n:=Y.length) (hint:=Y.length - 1) rfl hq (in_of hq ⋯) ⋯ ⋯ (λx y r1 r2 r3=>?_) λm q1 q2 q3=>?_)
 .
  rw[gY r2]at r3;rw[gY (t:=x) ⋯];unfold far at r3 ⊢
  simp only[if_true]at r3 ⊢
  cases e:lt (Y.getD x 0) (q.getD (P.length+(X.length - 1)) 0)with
  |true=>rfl
  |false=>have:=ht _ _ _ e (Wg hr sy r1 r2);rw[Le,r3]at this;cases this
 have B1:∀t,t<m->lt (Y.getD t 0) (X.getD (X.length - 1) 0)=true:=λt r=>by
  have:=q2 t r;rw[gY (t:=t) ⋯,x0]at this;unfold far at this;simpa using this
 have B2:∀t,m<=t->t<Y.length->Le lt (X.getD (X.length - 1) 0) (Y.getD t 0):=λt r1 r2=>by
  have:=q3 t r1 r2;rw[gY r2,x0]at this;unfold far at this;simpa using this
 dsimp only;by_cases m0:m=0
 . rw[tJ (C5.mpr m0)];exact i8 (h q (X++Y) _ rfl (by rw[e];simp) (both λt u r1 r2=>ht _ _ _ (Wg hr sx (show t<=X.length - 1 by lia) ⋯) (B2 u ⋯ r2)) (nV _) rfl rfl rfl)
 rw[sK λq=>m0 (C5.mp q)]
 have ex:(q.map pr).extract (P.length+k) (P.length+X.length)=(X.drop k).toArray.map pr:=by have:=yq eX (k:=k) (m:=X.length) (eA _);rw[D8]at this;rw[<- this];simp
 have ey:(q.map pr).extract (P.length+X.length) (P.length+X.length+m)=(Y.take m).toArray.map pr:=by have:=yq eY (k:=0) (m:=m) q1;rw[eQ,List.drop_zero,Nat.add_zero]at this;rw[<- this];simp
 have Yq:∀i∈(X.drop k).toArray,i<N:=λi hi=>hq i (by
  have:i∈q.toList:=by rw[e];simp[CF (EA.mp hi)]
  exact Array.mem_toList_iff.mp this)
 have Yr:∀i∈(Y.take m).toArray,i<N:=λi hi=>hq i (by
  have:i∈q.toList:=by rw[e];simp[ED (EA.mp hi)]
  exact Array.mem_toList_iff.mp this)
 have d0:(X.drop k).toArray.getD 0 0=X.getD k 0:=by simp[a9]
 have d1:(Y.take m).toArray.getD 0 0=Y.getD 0 0:=by simp[a9,show 0<m by lia]
 have d2:(X.drop k).toArray.getD ((X.drop k).toArray.size - 1) 0=X.getD (X.length - 1) 0:=by simp[a9,show k+(X.length - k - 1)=X.length - 1 by lia]
 have g0:lt ((Y.take m).toArray.getD 0 0) ((X.drop k).toArray.getD 0 0)=true:=by rw[d0,d1];exact A2 k (eA _) ⋯
 have gz:∀u,u<(Y.take m).toArray.size->Le lt ((Y.take m).toArray.getD u 0) ((X.drop k).toArray.getD ((X.drop k).toArray.size - 1) 0):=λu hu=>by
  rw[d2];have hu:u<m/\u<Y.length:=by
   have hu:u<min m Y.length:=by simpa using hu
   lia
  have:(Y.take m).toArray.getD u 0=Y.getD u 0:=by simp[a9,hu.1]
  rw[this];exact hl _ _ (B1 u hu.1)
 have n1:1<=(X.drop k).toArray.size:=by simp;lia
 have n2:1<=(Y.take m).toArray.size:=by simp;lia
 have sx':(X.drop k).toArray.toList.Pairwise (Le lt):=sx.drop;have sy':(Y.take m).toArray.toList.Pairwise (Le lt):=sy.take;refine K1 (λst r st'=>∃o:Array Nat,r=o.map pr/\Ae st st'/\o.toList.Pairwise (Le lt)/\o.toList.Perm (X.drop k++Y.take m)) (λ_=>?_) (λ_=>?_) λr st' hr=>?_
 . rw[ex,ey];exact wB hc hr ht hl rfl Yq Yr sx' sy' n1 n2 g0 gz λo st' sg o1 o2=>#[o,rfl,sg,o1,o2]
 . rw[ex,ey];exact wC hc hr ht hl rfl Yq Yr sx' sy' n1 n2 g0 gz λo st' sg o1 o2=>#[o,rfl,sg,o1,o2]
 ·
  refine i7 (C6 (i7 (wpS_get (i8 ?_))));obtain⟨o,rfl,sg,o1,o2⟩:=hr;obtain⟨kd',ar',SM,mg',fl'⟩:=st';obtain⟨e1,e2,e3,e4⟩:=sg;change kd'=kd at e1;change ar'=q.map pr at e2;change SM=(pd.setIfInBounds i (P.length,X.length+Y.length,pw)).eraseIdxIfInBounds (i+1)at e3;change fl'=none at e4;subst e1 e2 e3 e4;have ol:o.toList.length=X.length - k+m:=by rw[o2.length_eq];simp;lia
  have tk:q.toList.take (P.length+k)=P++X.take k:=by rw[eX,kS,Ee,t6 ⋯,o6,y6 h1]
  have dr:q.toList.drop (P.length+k+o.toList.length)=Y.drop m++S:=by rw[ol,eY,kS,List.drop_append,B7 (by rw[eQ];lia),B9,eQ,show P.length+k+(X.length - k+m) - (P.length+X.length)=m by lia,List.drop_append_of_le_length q1]
  have mem:∀{z},z∈o.toList->z∈X.drop k\/z∈Y.take m:=λhz=>kA.mp (o2.mem_iff.mp hz)
  have xl:∀z∈X,Le lt z (X.getD (X.length - 1) 0):=λz hz=>by
   obtain⟨t,h1,rfl⟩:=r6 hz;have:=Wg hr sx (show t<=X.length - 1 by lia) ⋯
   simpa [a9,h1]using this
  have yf:∀z∈Y,Le lt (Y.getD 0 0) z:=λz hz=>by
   obtain⟨t,h1,rfl⟩:=r6 hz;have:=Wg hr sy (sR t) h1;simpa [a9,h1]using this
  have xa:∀z∈X.take k,Le lt z (Y.getD 0 0):=rq (i:=0) (m:=k) (P:=λz=>Le lt z (Y.getD 0 0)) λt _ r _=>A1 t r
  have yb:∀z∈Y.drop m,Le lt (X.getD (X.length - 1) 0) z:=λz hz=>rq (i:=m) (m:=Y.length) (P:=λz=>Le lt (X.getD (X.length - 1) 0) z) (λt r1 r2 _=>B2 t r1 r2) z (by rw[D8];exact hz)
  have cx:=oD.mp ((nS k X).symm▸sx);have cy:=oD.mp ((nS m Y).symm▸sy);refine h (P++X.take k++o.toList++(Y.drop m++S)).toArray (X.take k++(o.toList++Y.drop m)) _ ?_ ⋯ ?_ ?_ rfl rfl rfl
  .
   apply EW;show (List.foldl _ (q.map pr) ((o.map pr).toList.zipIdx)).toList=_;rw[uh (P.length+k) (o.map pr).toList 0 (q.map pr) (by simp;rw[<- fR,ol];lia)]
   rw[Array.toList_map,Array.toList_map,Nat.add_zero,dE,<- List.map_take,<- List.map_drop,tk,dr];simp
  .
   refine oD.mpr #[cx.1,oD.mpr #[o1,cy.2.1,λx hx y hy=>?_],λx hx y hy=>?_]
   .
    rcases mem hx with hx |hx
    . exact ht _ _ _ (xl x (CF hx)) (yb y hy)
    . exact cy.2.2 x hx y hy
   .
    rcases kA.mp hy with hy |hy
    .
     rcases mem hy with hy |hy
     . exact cx.2.2 x hx y hy
     . exact ht _ _ _ (xa x hx) (yf y (ED hy))
    . exact ht _ _ _ (xa x hx) (yf y (CF hy))
  . have:=(o2.append_left (X.take k)).append_right (Y.drop m);rw[kS]at this;refine this.trans (EM ?_);show X.take k++(X.drop k++Y.take m)++Y.drop m=X++Y;rw[<- kS,nS,kS,nS]
end
open PySem PySem.W PyProof.Rows
theorem um{α:Type}{xs:Array α}{P B S:List α}(h:xs.toList=P++(B++S)):(mirror xs P.length (P.length+B.length) ((P.length+B.length - P.length) / 2)).toList=P++(B.reverse++S):=by
 have hz:xs.size=P.length+B.length+S.length:=by rw[<- fR,h];simp;lia
 refine Cs λk=>?_
 rw[tS,getElem?_mirror_all ⋯];by_cases hk:P.length<=k/\k<P.length+B.length
 .
  rw[tJ hk,<- tS,h,eD ⋯,fN ⋯,eD hk.1,fN (by rw[A7];lia),List.getElem?_reverse ⋯]
  congr 1
  lia
 .
  rw[sK hk,<- tS,h];rcases AX k P.length with q |q
  . rw[fN q,fN q]
  . rw[eD q,eD q,eD ⋯,eD (by rw[A7];lia),A7]
theorem uo{α:Type}{xs:Array α}{P B S:List α}{x:α}(h:xs.toList=P++(B++x::S)):(bubble xs (P.length+B.length) B.length).toList=P++(x::(B++S)):=by
 have hz:xs.size=P.length+B.length+(S.length+1):=by rw[<- fR,h];simp;lia
 refine Cs λk=>?_
 have g:∀j,xs[j]?=(P++(B++x::S))[j]?:=λj=>by rw[<- tS,h]
 rw[tS,getElem?_bubble ⋯ _ ⋯,g,g,g];by_cases h1:k=P.length+B.length - B.length
 .
  rw[tJ h1,eD ⋯,eD ⋯,eD ⋯,show P.length+B.length - P.length - B.length=0 by lia,show k - P.length=0 by lia]
  rfl
 .
  rw[sK h1];rcases AX k P.length with q |q
  . rw[sK ⋯,fN q,fN q]
  .
   obtain⟨t,rfl⟩:∃t,k=P.length+(t+1):=#[k - P.length - 1,by lia]
   have e:(P++(x::(B++S)))[P.length+(t+1)]?=(B++S)[t]?:=by rw[eD ⋯,show P.length+(t+1) - P.length=t+1 by lia,List.getElem?_cons_succ]
   rw[e];by_cases h2:P.length+B.length - B.length<P.length+(t+1)/\P.length+(t+1)<=P.length+B.length
   .
    rw[tJ h2,eD ⋯,fN ⋯,fN ⋯]
    congr 1
    lia
   . rw[sK h2,eD ⋯,eD ⋯,eD ⋯,show P.length+(t+1) - P.length - B.length=(t - B.length)+1 by lia,List.getElem?_cons_succ]
section
variable{prog:Program}{w:World}{A:Around}{E:Value->Shared->Prop}{s:Shared}
variable{pr:Nat->Keyed}{lt:Nat->Nat->Bool}{N:Nat}{κ:SortKind}{L:List Nat}{pd:Array (Nat×Nat×Nat)}{st:SortSt}{i j:Nat}
structure Hs(pr:Nat->Keyed)(κ:SortKind)(L:List Nat)(pd:Array (Nat×Nat×Nat))(st:SortSt):Prop where
 a:arrOf st=L.toArray.map pr
 k:kindOf st=κ
 f:failedOf st=none
 p:pendingOf st=pd
theorem yr(hc:ju prog w A E s pr lt N κ){Q:Option Bool->SortSt->Prop}(h:Hs pr κ L pd st)(hL:∀i∈L,i<N)(hi:i<L.length)(hj:j<L.length)(q:Q (!(lt (L.getD i 0) (L.getD j 0))) st):wpS (model prog w) A E s (ltAt' i j) Q st:=by
 have hq:∀i∈L.toArray,i<N:=λi hi=>hL i (EA.mp hi)
 have e:∀i,L.toArray.getD i 0=L.getD i 0:=λi=>by simp[a9]
 rw[ltAt'_eq];refine i7 (wpS_get ?_);rw[h.a];refine i7 (aO hi (i7 (aO hj (hc _ _ (in_of hq hi) (in_of hq hj) h.k ?_))));rw[e,e];exact q
theorem rz{P B S:List Nat}{Q:Unit->SortSt->Prop}(h:Hs pr κ L pd st)(e:L=P++(B++S))(hi:i=P.length)(hj:j=P.length+B.length)(q:∀st',Hs pr κ (P++(B.reverse++S)) pd st'->Q () st'):wpS (model prog w) A E s (reverseSlice' i j) Q st:=by
 rw[reverseSlice'_eq];refine C6 (q _ #[?_,h.k,h.f,h.p]);have:=um (xs:=arrOf st) (P:=P.map pr) (B:=B.map pr) (S:=S.map pr) (by rw[h.a,e];simp)
 rw[dE,dE]at this;subst hi hj;apply EW;rw[this];simp
theorem K6{P B S:List Nat}{x:Nat}{Q:Unit->SortSt->Prop}(h:Hs pr κ L pd st)(e:L=P++(B++x::S))(hi:i=P.length+B.length)(hj:j=P.length)(q:∀st',Hs pr κ (P++(x::(B++S))) pd st'->Q () st'):wpS (model prog w) A E s (moveDown' i j) Q st:=by
 rw[moveDown'_eq];refine C6 (q _ #[?_,h.k,h.f,h.p]);have:=uo (xs:=arrOf st) (P:=P.map pr) (B:=B.map pr) (S:=S.map pr) (x:=pr x) (by rw[h.a,e];simp)
 rw[dE,dE]at this;subst hi hj;rw[o6];apply EW;rw[this];simp
end
open PySem PySem.W PyProof.Rows
theorem lF(P Z:List Nat)(t:Nat):(P++Z).getD (P.length+t) 0=Z.getD t 0:=by rw[a9,a9,eD ⋯,o6]
theorem Af{Z:List Nat}{x:Nat}(h:x<Z.length):(Z.drop x).take 1=[Z.getD x 0]:=by have e:Z.drop x=Z[x]::Z.drop (x+1):=AI h;rw[e];show [Z[x]]=_;simp[a9,h]
theorem pw_get{R:Nat->Nat->Prop}(hr:∀x,R x x){X:List Nat}(h:X.Pairwise R){t u:Nat}(htu:t<=u)(hu:u<X.length):R (X.getD t 0) (X.getD u 0):=by have:=pw_at (A:=X.toArray) hr h htu hu;simpa using this
theorem jx{R:Nat->Nat->Prop}(hr:∀x,R x x)(ht:∀x y z,R x y->R y z->R x z){Z:List Nat}{n:Nat}(h:(Z.take n).Pairwise R)(h1:1<=n)(hn:n<Z.length)(hl:R (Z.getD (n - 1) 0) (Z.getD n 0)):(Z.take (n+1)).Pairwise R:=by
 have e:Z.take (n+1)=Z.take n++[Z.getD n 0]:=by rw[AQ hn];simp[a9,hn]
 rw[e];refine oD.mpr #[h,u8 _ _,λx hx y hy=>?_]
 rw[fA.mp hy];obtain⟨t,q,rfl⟩:=r6 hx;rw[mM]at q;have:=pw_get hr h (show t<=n - 1 by lia) (by rw[mM];lia)
 refine ht _ _ _ ?_ hl;simpa [a9,show n - 1<n by lia,show t<n by lia,show t<Z.length by lia]using this
section
variable{prog:Program}{w:World}{A:Around}{E:Value->Shared->Prop}{s:Shared}
variable{pr:Nat->Keyed}{lt:Nat->Nat->Bool}{N:Nat}{κ:SortKind}{pd:Array (Nat×Nat×Nat)}{st:SortSt}
theorem uq(hc:ju prog w A E s pr lt N κ)(hr:∀x,lt x x=false)(ht:∀x y z,Le lt x y->Le lt y z->Le lt x z)(hl:∀x y,lt x y=true->Le lt x y){P Z:List Nat}{Q:Option Nat->SortSt->Prop}(hs:Hs pr κ (P++Z) pd st)(hN:∀i∈P++Z,i<N)(hZ:1<=Z.length)
  (h:∀st' m Z',Hs pr κ (P++Z') pd st'->1<=m->m<=Z.length->Z'.Perm Z->(Z'.take m).Pairwise (Le lt)->Q (!m) st'):wpS (model prog w) A E s (countRun' P.length Z.length) Q st:=by
 have ask:∀{Z':List Nat}{st':SortSt}{t u a b:Nat}{Q:Option Bool->SortSt->Prop},Hs pr κ (P++Z') pd st'->Z'.Perm Z->a=P.length+t->b=P.length+u->t<Z.length->u<Z.length->Q (!(lt (Z'.getD t 0) (Z'.getD u 0))) st'->wpS (model prog w) A E s (ltAt' a b) Q st':=λ{Z' st' t u a b Q} h1 hp ea eb h2 h3 q=>by
  subst ea eb;refine yr hc h1 (λi hi=>hN i (by rcases kA.mp hi with z |z;exact mP _ z;exact hV _ (hp.mem_iff.mp z))) (by rw[eQ,hp.length_eq];lia) (by rw[eQ,hp.length_eq];lia) ?_
  rw[lF,lF];exact q
 have Fc:∀{x:Nat},1<=x->P.length+x - 1=P.length+(x - 1):=λh=>Nat.add_sub_assoc h _
 refine aU (λx c st'=>st=st'/\c=(none,x)/\(Z.take x).Pairwise (Le lt)) (λc st'=>st=st'/\∃n,c=(none,n)/\1<=n/\n<=Z.length/\(Z.take n).Pairwise (Le lt)/\(n=Z.length\/lt (Z.getD n 0) (Z.getD (n - 1) 0)=true)) ?_ ?_ #[rfl,rfl,by
  match Z,hZ with
  |z::Z,_=>exact u8 _ _] ?_
 . rintro F hF x c st' h1 hx ⟨rfl,rfl,pw⟩;subst hF;exact i7 (ask (t:=x) (u:=x - 1) hs (nV _) rfl (Fc h1) hx (y8 (CB _ _) hx) (dO (λe=>i8 #[rfl,x,rfl,h1,AU hx,pw,.inr e]) λe=>i8 #[rfl,rfl,jx hr ht pw h1 hx e]))
 .
  rintro c st' ⟨rfl,rfl,pw⟩;rw[Nat.max_eq_right hZ]at pw ⊢
  exact#[rfl,_,rfl,hZ,eA _,pw,.inl rfl]
 rintro G hG c st' ⟨rfl,n,rfl,n1,n2,pw,n3⟩;subst hG;have tg:∀x y z,Le lt y x->Le lt z y->Le lt z x:=λx y z h1 h2=>ht _ _ _ h2 h1
 refine bC rfl (λ_=>i8 (h st n Z hs n1 n2 (nV _) pw)) λn0=>?_
 have n3:lt (Z.getD n 0) (Z.getD (n - 1) 0)=true:=n3.resolve_left n0
 extract_lets +onlyGivenNames m1 z0 jp
 refine jv (λR=>∀u Z' st',Hs pr κ (P++Z') pd st'->Z'.Perm Z->(Z'.take (n+1)).Pairwise (λx y=>Le lt y x)->R (jp u) st') ?_ ?_
 .
  intro js;refine aK (λhn=>?_) λhn=>?_
  .
   refine i7 (ask (t:=0) (u:=n - 1) hs (nV _) rfl (Fc n1) hZ (i4 (Nat.sub_lt n1 Nat.one_pos) n2) ?_);refine dO (λ_=>i8 (h st n Z hs n1 n2 (nV _) pw)) λe=>?_
   ·
    have hlt:(Z.take n).length=n:=by rw[mM];lia
    refine i7 (rz (P:=P) (B:=Z.take n) (S:=Z.drop n) hs (by rw[nS]) rfl (by rw[hlt]) λst' hs'=>js () _ st' hs' ?_ ?_)
    .
     have:=(D3 (Z.take n)).append_right (Z.drop n)
     rwa [nS]at this
    .
     refine jx (R:=λx y=>Le lt y x) hr tg ?_ n1 (by simp;lia) ?_
     .
      rw[y6 (by simp;lia),t6 (by simp;lia)]
      exact D7.mpr pw
     .
      have e1:((Z.take n).reverse++Z.drop n).getD n 0=Z.getD n 0:=by
       rw[a9,a9,eD (by simp;lia)]
       simp[hlt]
      have e2:((Z.take n).reverse++Z.drop n).getD (n - 1) 0=Z.getD 0 0:=by
       rw[a9,a9,fN (by simp;lia),List.getElem?_reverse (by rw[hlt];lia),hlt,show n - 1 - (n - 1)=0 by lia]
       simp[show 0<n by lia]
      rw[e1,e2];exact ht _ _ _ (hl _ _ n3) e
  .
   obtain rfl:n=1:=EL (Nat.not_lt.mp hn) n1;refine js () Z st hs (nV _) (jx (R:=λx y=>Le lt y x) hr tg ?_ n1 ⋯ (hl _ _ n3))
   match Z,hZ with
   |z::Z,_=>exact u8 _ _
 have cut:∀{Z2 D B:List Nat}{x:Nat},Z2.Perm Z->Z2.take x=D++B->x<=Z.length->D.length+B.length=x/\Z2=D++(B++Z2.drop x):=λ{Z2 D B x} hp e hx=>by
  refine#[?_,by rw[<- kS,<- e,nS]]
  rw[<- eQ,<- e,mM,hp.length_eq];lia
 have back:∀{D B:List Nat},(D++B).Pairwise (λx y=>Le lt y x)->(∀y∈B,∀z∈B,Le lt y z)->(D++B.reverse).Pairwise (λx y=>Le lt y x):=λ{D B} Ag eq2=>by
  obtain⟨d1,d2,d3⟩:=oD.mp Ag;exact oD.mpr #[d1,D7.mpr (CI.mpr λi j hi hj _=>eq2 _ (BA hi) _ (BA hj)),λy hy z hz=>d3 y hy z (List.mem_reverse.mp hz)]
 intro u Z1 bS hs1 hp1 fall;have l1:Z1.length=Z.length:=hp1.length_eq;refine i7 (wpS_lift (BS #[rfl,?_]));refine aU (λx c st'=>∃Z' D B,c=(none,x,B.length - 1)/\Hs pr κ (P++Z') pd st'/\Z'.Perm Z/\Z'.take x=D++B/\1<=B.length/\(D++B).Pairwise (λx y=>Le lt y x)/\(∀y∈B,∀z∈B,Le lt y z)/\1<=x/\x<=Z.length)
  (λc st'=>∃x Z' D B,c=(none,x,B.length - 1)/\Hs pr κ (P++Z') pd st'/\Z'.Perm Z/\Z'.take x=D++B/\1<=B.length/\(D++B).Pairwise (λx y=>Le lt y x)/\(∀y∈B,∀z∈B,Le lt y z)/\1<=x/\x<=Z.length) ?_ ?_ #[Z1,Z1.take n,[Z1.getD n 0],rfl,hs1,hp1,?_,eA _,?_,?_,by lia,by lia] ?_
 .
  rintro F hF x c st' _ hx ⟨Z2,D,B,rfl,hs2,hp2,e,hB,Ag,eq2,x1,x2⟩;subst hF;have l2:Z2.length=Z.length:=hp2.length_eq;obtain⟨lD,ez⟩:=cut hp2 e x2;have tk:∀D1:List Nat,D1.length=x->(D1++Z2.drop x).take (x+1)=D1++[Z2.getD x 0]:=λD1 h1=>by
   rw[Ee,t6 ⋯,h1,o6,Af ⋯]
  have last:∀y∈D++B,Le lt (Z2.getD (x - 1) 0) y:=λy hy=>by
   rw[<- e]at hy;obtain⟨t,q,rfl⟩:=r6 hy;rw[mM]at q;have:=pw_get (R:=λx y=>Le lt y x) hr (e▸Ag) (show t<=x - 1 by lia) (by rw[mM];lia)
   simpa [a9,show x - 1<x by lia,show t<x by lia,show t<Z2.length by lia]using this
  have O6:Z2.getD (x - 1) 0∈B:=by
   have:Z2.getD (x - 1) 0=B.getD (B.length - 1) 0:=by rw[ez,a9,a9,eD ⋯,fN ⋯,show x - 1 - D.length=B.length - 1 by lia]
   rw[this];simp[a9,show B.length - 1<B.length by lia]
  refine i7 (ask (t:=x) (u:=x - 1) hs2 hp2 rfl (Fc x1) hx (y8 (CB _ _) hx) ?_);refine dO (λe1=>?_) λe1=>?_
  .
   have nx:∀y∈D++B,Le lt (Z2.getD x 0) y:=λy hy=>ht _ _ _ (hl _ _ e1) (last y hy)
   have one:∀y∈[Z2.getD x 0],∀z∈[Z2.getD x 0],Le lt y z:=λy hy z hz=>by rw[fA.mp hy,fA.mp hz];exact hr _
   refine aK (λhb=>?_) λhb=>?_
   .
    refine i7 (rz (P:=P++D) (B:=B) (S:=Z2.drop x) hs2 (by rw[kS,<- ez]) (by rw[eQ];lia) (by rw[eQ];lia) λfy vL=>i8 #[D++(B.reverse++Z2.drop x),D++B.reverse,[Z2.getD x 0],rfl,by rwa [kS]at vL,?_,?_,eA _,?_,one,by lia,by lia])
    . refine List.Perm.trans ?_ hp2;exact (((D3 B).append_right (Z2.drop x)).append_left D).trans (EM ez.symm)
    . rw[<- kS,tk _ (by simp;lia)]
    .
     refine oD.mpr #[back Ag eq2,u8 _ _,λy hy z hz=>?_]
     rw[fA.mp hz];exact nx y ((kA.mp hy).elim (mP _) λq=>hV _ (List.mem_reverse.mp q))
   .
    refine i8 #[Z2,D++B,[Z2.getD x 0],rfl,hs2,hp2,?_,eA _,?_,one,by lia,by lia]
    .
     have:=tk (D++B) (by simp;lia)
     rwa [kS,<- ez]at this
    .
     refine oD.mpr #[Ag,u8 _ _,λy hy z hz=>?_]
     rw[fA.mp hz];exact nx y hy
  .
   refine i7 (ask (t:=x - 1) (u:=x) hs2 hp2 (Fc x1) rfl (y8 (CB _ _) hx) hx ?_);refine dO (λ_=>i8 #[x,Z2,D,B,rfl,hs2,hp2,e,hB,Ag,eq2,x1,x2]) λe2=>?_
   .
    refine i8 #[Z2,D,B++[Z2.getD x 0],by rw[eQ];show _=(none,x+1,B.length+1 - 1);rw[Nat.sub_add_cancel hB,DC],hs2,hp2,?_,by simp,?_,?_,by lia,by lia]
    .
     have:=tk (D++B) (by simp;lia)
     rwa [kS,<- ez,kS]at this
    .
     rw[<- kS];refine oD.mpr #[Ag,u8 _ _,λy hy z hz=>?_]
     rw[fA.mp hz];exact ht _ _ _ e2 (last y hy)
    .
     intro y hy z hz;rcases kA.mp hy with hy |hy <;> rcases kA.mp hz with hz |hz
     . exact eq2 y hy z hz
     . rw[fA.mp hz];exact ht _ _ _ (eq2 y hy _ O6) e1
     . rw[fA.mp hy];exact ht _ _ _ e2 (eq2 _ O6 z hz)
     . rw[fA.mp hy,fA.mp hz];exact hr _
 . rintro c st' ⟨Z',D,B,rfl,r⟩;exact#[_,Z',D,B,rfl,r]
 . rw[AQ ⋯];simp[a9,show n<Z1.length by lia]
 . rw[AQ ⋯]at fall;simpa [a9,show n<Z1.length by lia]using fall
 . intro y hy z hz;rw[fA.mp hy,fA.mp hz];exact hr _
 rintro G hG c st' ⟨x,Z2,D,B,rfl,hs2,hp2,e,hB,Ag,eq2,x1,x2⟩;subst hG;show wpS _ _ _ _ (have jp:=_;if B.length - 1 > 0 then _ else _) Q st'
 extract_lets +onlyGivenNames Ew
 refine jv (λR=>∀u Z3 fy,Hs pr κ (P++Z3) pd fy->Z3.Perm Z->(Z3.take x).Pairwise (λx y=>Le lt y x)->R (Ew u) fy) ?_ ?_
 .
  intro js;refine aK (λhb=>?_) λhb=>?_
  .
   obtain⟨lD,ez⟩:=cut hp2 e x2;refine i7 (rz (P:=P++D) (B:=B) (S:=Z2.drop x) hs2 (by rw[kS,<- ez]) (by rw[eQ];show P.length+x - (B.length - 1+1)=_;lia) (by rw[eQ];show P.length+x=_;lia) λfy vL=>js () (D++(B.reverse++Z2.drop x)) fy (by rwa [kS]at vL) ?_ ?_)
   . exact ((((D3 B).append_right (Z2.drop x)).append_left D).trans (EM ez.symm)).trans hp2
   .
    rw[<- kS,y6 (by simp;lia),t6 (by simp;lia)]
    exact back Ag eq2
  . exact js () Z2 st' hs2 hp2 (e▸Ag)
 intro u Z3 fy vL hp3 f3;have l3:(Z3.take x).length=x:=by rw[mM,hp3.length_eq];lia
 refine i7 (rz (P:=P) (B:=Z3.take x) (S:=Z3.drop x) vL (by rw[nS]) rfl (by rw[l3]) λoB vM=>?_)
 have yt:((Z3.take x).reverse++Z3.drop x).Perm Z:=by have:=(D3 (Z3.take x)).append_right (Z3.drop x);rw[nS]at this;exact this.trans hp3
 have pw4:(((Z3.take x).reverse++Z3.drop x).take x).Pairwise (Le lt):=by
  rw[y6 (by rw[A7,l3];exact eA _),t6 (by rw[A7,l3];exact eA _)]
  exact D7.mpr f3
 generalize (Z3.take x).reverse++Z3.drop x=Z4 at *;refine aU (λy c st'=>oB=st'/\c=(none,y)/\(Z4.take y).Pairwise (Le lt)/\1<=y) (λc st'=>oB=st'/\∃n,c=(none,n)/\1<=n/\n<=Z.length/\(Z4.take n).Pairwise (Le lt)) ?_ ?_ #[rfl,rfl,pw4,x1] ?_
 . rintro F hF y c st' h1 hy ⟨rfl,rfl,pw,y1⟩;subst hF;exact i7 (ask (t:=y) (u:=y - 1) vM yt rfl (Fc y1) hy (y8 (CB _ _) hy) (dO (λ_=>i8 #[rfl,y,rfl,y1,AU hy,pw]) λe=>i8 #[rfl,rfl,jx hr ht pw y1 (by rw[yt.length_eq];exact hy) e,BF _]))
 .
  rintro c st' ⟨rfl,rfl,pw,y1⟩;have e:max x Z.length=Z.length:=Nat.max_eq_right x2;dsimp only at pw y1 ⊢
  rw[e]at pw y1 ⊢
  exact#[rfl,_,rfl,y1,eA _,pw]
 . rintro G hG c st' ⟨rfl,n,rfl,y1,y2,pw⟩;subst hG;exact i8 (h oB n Z4 vM y1 y2 yt pw)
end
open PySem PySem.W PyProof.Rows
section
variable{prog:Program}{w:World}{A:Around}{E:Value->Shared->Prop}{s:Shared}
variable{pr:Nat->Keyed}{lt:Nat->Nat->Bool}{N:Nat}{κ:SortKind}{pd:Array (Nat×Nat×Nat)}{st:SortSt}
theorem gk1{l r:Nat}(a : ¬ l ≥ r):l<=(l+r) / 2/\(l+r) / 2<r:=by lia
theorem Ah(hc:ju prog w A E s pr lt N κ)(hr:∀x,lt x x=false)(ht:∀x y z,Le lt x y->Le lt y z->Le lt x z)(hl:∀x y,lt x y=true->Le lt x y){P Z:List Nat}{n ok:Nat}{Q:Bool->SortSt->Prop}(hs:Hs pr κ (P++Z) pd st)(hN:∀i∈P++Z,i<N)(hn:n<=Z.length)(ok1:1<=ok)(ok2:ok<=n)(pw:(Z.take ok).Pairwise (Le lt))
  (h:∀st' Z',Hs pr κ (P++Z') pd st'->Z'.Perm Z->(Z'.take n).Pairwise (Le lt)->Q true st'):wpS (model prog w) A E s (binarySort' P.length n ok) Q st:=by
 refine aU (λk c st'=>c=(none,⟨⟩)/\1<=k/\∃Z',Hs pr κ (P++Z') pd st'/\Z'.Perm Z/\(Z'.take k).Pairwise (Le lt)) (λc st'=>c=(none,⟨⟩)/\∃Z',Hs pr κ (P++Z') pd st'/\Z'.Perm Z/\(Z'.take n).Pairwise (Le lt)) ?_ ?_ #[rfl,by lia,Z,hs,nV _,by rw[Nat.max_eq_left ok1];exact pw] ?_
 .
  rintro F hF k c bS h1 hk ⟨rfl,k1,Z1,hs1,hp1,Wh⟩;subst hF;have l1:=hp1.length_eq;have hk1:k<Z1.length:=by lia
  have hN1:∀i∈P++Z1,i<N:=λi hi=>hN i (by rcases kA.mp hi with z |z;exact mP _ z;exact hV _ (hp1.mem_iff.mp z))
  have up:∀{t u},t<=u->u<k->Le lt (Z1.getD t 0) (Z1.getD u 0):=λ{t u} h1 h2=>by
   have:=pw_get hr Wh h1 (by rw[mM];lia)
   simpa [a9,show t<k by lia,h2]using this
  have ask:∀{u:Nat}{Q:Option Bool->SortSt->Prop},u<k->Q (!(lt (Z1.getD k 0) (Z1.getD u 0))) bS->wpS (model prog w) A E s (ltAt' (P.length+k) (P.length+u)) Q bS:=λh q=>by
   refine yr hc hs1 hN1 (by rw[eQ];lia) (by rw[eQ];lia) ?_
   rw[lF,lF];exact q
  refine aU (λy c st'=>bS=st'/\∃l r,c=(none,l,r)/\r - l+y<=k/\l<=r/\r<=k/\(∀t,t<l->Le lt (Z1.getD t 0) (Z1.getD k 0))/\(∀t,r<=t->t<k->lt (Z1.getD k 0) (Z1.getD t 0)=true))
   (λc st'=>bS=st'/\∃l,c=(none,l,l)/\l<=k/\(∀t,t<l->Le lt (Z1.getD t 0) (Z1.getD k 0))/\(∀t,l<=t->t<k->lt (Z1.getD k 0) (Z1.getD t 0)=true)) ?_ ?_ #[rfl,0,k,rfl,eA _,sR _,eA _,λt q=>(nomatch q),λt q1 q2=>absurd q2 (Nat.not_lt.mpr q1)] ?_
  .
   rintro F hF y c st' _ hy ⟨rfl,l,r,rfl,h1,h2,h3,h4,h5⟩;subst hF;refine aK (λhlr=>?_) λhlr=>?_
   . obtain rfl:l=r:=EL h2 hlr;exact i8 #[rfl,l,rfl,h3,h4,h5]
   have hm:=gk1 hlr;refine i7 (ask (u:=(l+r) / 2) (i4 hm.2 h3) ?_);generalize (l+r) / 2=m at hm ⊢
   have hmk:=i4 hm.2 h3;refine dO (λe=>?_) λe=>?_
   .
    refine i8 #[rfl,l,m,rfl,(ga9 h1 hm).2,hm.1,AU hmk,h4,λt q1 q2=>?_]
    cases e2:lt (Z1.getD k 0) (Z1.getD t 0)with
    |true=>rfl
    |false=>have:=ht _ _ _ (up q1 q2) e2;rw[Le,e]at this;cases this
   . exact i8 #[rfl,m+1,r,rfl,(ga9 h1 hm).1,hm.2,h3,λt q=>ht _ _ _ (up (CC q) hmk) e,h5]
  .
   rintro c st' ⟨rfl,l,r,rfl,h1,h2,h3,h4,h5⟩;obtain rfl:l=r:=by lia
   exact#[rfl,l,rfl,h3,h4,h5]
  .
   rintro G hG c st' ⟨rfl,l,rfl,h3,h4,h5⟩;subst hG;have lt1:(Z1.take l).length=l:=by rw[mM];lia
   have lt2:((Z1.take k).drop l).length=k - l:=by rw[Bz,mM];lia
   have tk:Z1.take k=Z1.take l++(Z1.take k).drop l:=by
    have:=(nS l (Z1.take k)).symm
    rwa [List.take_take,A6 h3]at this
   have ez:Z1=Z1.take l++((Z1.take k).drop l++Z1.getD k 0::Z1.drop (k+1)):=by
    have e:Z1.drop k=Z1.getD k 0::Z1.drop (k+1):=by simp[hk1]
    rw[<- kS,<- tk,<- e,nS]
   refine i7 (K6 hs1 (by rw[kS,<- ez]) (by rw[eQ,lt1,lt2];lia) (by rw[eQ,lt1]) λfy vL=>i8 #[rfl,by lia,Z1.take l++(Z1.getD k 0::((Z1.take k).drop l++Z1.drop (k+1))),by rwa [kS]at vL,?_,?_])
   . refine List.Perm.trans ?_ hp1;refine List.Perm.trans ?_ (EM ez.symm);exact (List.perm_middle.symm).append_left _
   .
    have e:(Z1.take l++(Z1.getD k 0::((Z1.take k).drop l++Z1.drop (k+1)))).take (k+1)=Z1.take l++(Z1.getD k 0::(Z1.take k).drop l):=by rw[Ee,t6 (i:=k+1) ⋯,lt1,show k+1 - l=(k - l)+1 by lia,List.take_succ_cons,y6 ⋯,t6 (i:=k - l) ⋯]
    rw[e];obtain⟨d1,d2,d3⟩:=oD.mp (tk▸Wh);have a1:=rq (i:=0) (m:=l) (P:=λx=>Le lt x (Z1.getD k 0)) λt _ q _=>h4 t q
    have a2:=rq λt q1 q2 _=>hl _ _ (h5 t q1 q2)
    refine oD.mpr #[d1,y7.mpr #[a2,d2],λx hx y hy=>?_]
    rcases dA.mp hy with rfl |hy
    . exact a1 x hx
    . exact d3 x hx y hy
 . rintro c st' ⟨rfl,k1,Z1,hs1,hp1,Wh⟩;exact#[rfl,Z1,hs1,hp1,by rwa [show max (max ok 1) n=n by lia]at Wh]
 . rintro G hG c st' ⟨rfl,Z1,hs1,hp1,Wh⟩;subst hG;exact i8 (h st' Z1 hs1 hp1 Wh)
end
open PySem PySem.W PyProof.Rows
noncomputable def offs:Nat->List (List Nat)->List (Nat×Nat)
 |_,[]=>[]
 |s,r::rs=>(s,r.length)::offs (s+r.length) rs
theorem jy:∀(s:Nat) (R T:List (List Nat)),offs s (R++T)=offs s R++offs (s+R.flatten.length) T
 |s,[],T=>by simp[offs]
 |s,r::R,T=>by
  show (s,r.length)::offs (s+r.length) (R++T)=_;rw[jy,BO,eQ,Nat.add_assoc];rfl
theorem mS:∀(s:Nat) (R:List (List Nat)),(offs s R).length=R.length
 |_,[]=>rfl
 |s,r::R=>by show (offs (s+r.length) R).length+1=_;rw[mS,nK]
theorem Fd{α β:Type}(f:α->β):∀(l:List α) (j:Nat),(l.eraseIdx j).map f=(l.map f).eraseIdx j
 | [],_=>rfl
 |_::_,0=>rfl
 |x::l,j+1=>by rw[List.eraseIdx_cons_succ,List.map_cons,List.map_cons,List.eraseIdx_cons_succ,Fd f l j]
abbrev ol(x:Nat×Nat×Nat):Nat×Nat:=(x.1,x.2.1)
structure Rs(lt:Nat->Nat->Bool)(R:List (List Nat))(pd:Array (Nat×Nat×Nat)):Prop where
 o:pd.toList.map ol=offs 0 R
 r:∀x∈R,1<=x.length/\x.Pairwise (Le lt)
theorem Rs.len{lt:Nat->Nat->Bool}{R:List (List Nat)}{pd:Array (Nat×Nat×Nat)}(h:Rs lt R pd):pd.size=R.length:=by rw[<- fR,<- dE,h.o,mS]
section
variable{prog:Program}{w:World}{A:Around}{E:Value->Shared->Prop}{s:Shared}
variable{pr:Nat->Keyed}{lt:Nat->Nat->Bool}{N:Nat}{κ:SortKind}{pd:Array (Nat×Nat×Nat)}{st:SortSt}
theorem mU(hc:ju prog w A E s pr lt N κ)(hr:∀x,lt x x=false)(ht:∀x y z,Le lt x y->Le lt y z->Le lt x z)(hl:∀x y,lt x y=true->Le lt x y){R:List (List Nat)}{Z:List Nat}{i:Nat}{Q:Bool->SortSt->Prop}(hs:Hs pr κ (R.flatten++Z) pd st)(rs:Rs lt R pd)(hN:∀i∈R.flatten++Z,i<N)(hi:i+1<R.length)
  (h:∀st' R' SM,Hs pr κ (R'.flatten++Z) SM st'->Rs lt R' SM->R'.length+1=R.length->R'.flatten.Perm R.flatten->Q true st'):wpS (model prog w) A E s (mergeAt' i) Q st:=by
 obtain⟨R1,X,Y,R2,rfl,hi1⟩:∃R1 X Y R2,R=R1++X::Y::R2/\R1.length=i:=by
  refine#[R.take i,R[i],R[i+1],R.drop (i+2),?_,by rw[mM];lia]
  rw[<- AI,<- AI,nS]
 have eo:pd.toList.map ol=offs 0 R1++(R1.flatten.length,X.length)::(R1.flatten.length+X.length,Y.length)::offs (R1.flatten.length+X.length+Y.length) R2:=by rw[rs.o,jy,xI];rfl
 have lo:(offs 0 R1).length=i:=by rw[mS,hi1]
 have at':∀j a b,(pd.toList.map ol)[j]?=!(a,b)->∃c,pd[j]?=!(a,b,c):=λj a b q=>by
  rw[oC,tS]at q;obtain⟨⟨a',b',c⟩,q1,q2⟩:=AH.mp q;exact#[c,by rw[q1];simp_all]
 obtain⟨pw,p0⟩:=at' i _ _ (by rw[eo,eD ⋯,lo,D6];rfl)
 obtain⟨pw',p1⟩:=at' (i+1) _ _ (by rw[eo,eD ⋯,lo,o6];rfl)
 obtain⟨x1,x2⟩:=rs.r X ⋯;obtain⟨y1,y2⟩:=rs.r Y ⋯;refine wD hc hr ht hl (P:=R1.flatten) (S:=R2.flatten++Z) hs.k (λi hi=>hN i (EA.mp hi)) hs.a hs.f ⋯ x2 y2 x1 y1 (by rw[hs.p];exact p0) (by rw[hs.p];exact p1) λq' C st' c1 c2 c3 c4 c5 c6 c7=>?_
 refine h st' (R1++C::R2) _ #[by rw[c1,show q'=(q'.toList).toArray by simp,c2];simp,c5,c6,c7] #[?_,λx hx=>?_] (by simp;lia) ?_
 .
  rw[hs.p];have hsz:i+1<pd.size:=by rw[rs.len];exact hi
  have:((pd.setIfInBounds i (R1.flatten.length,X.length+Y.length,pw)).eraseIdxIfInBounds (i+1)).toList.map ol=((pd.toList.map ol).set i (R1.flatten.length,X.length+Y.length)).eraseIdx (i+1):=by
   have hz2:i+1<(pd.setIfInBounds i (R1.flatten.length,X.length+Y.length,pw)).size:=by rw[Array.size_setIfInBounds];exact hsz
   unfold Array.eraseIdxIfInBounds;rw[dif_pos hz2,Array.toList_eraseIdx,Fd,Array.toList_setIfInBounds,List.map_set]
  rw[this,eo,Cc _ _ ⋯,lo,D6,List.eraseIdx_append_of_length_le ⋯,lo,o6];show offs 0 R1++((R1.flatten.length,X.length+Y.length)::offs (R1.flatten.length+X.length+Y.length) R2)=_;rw[jy,xI];show _=offs 0 R1++((R1.flatten.length,C.length)::offs (R1.flatten.length+C.length) R2);rw[c4.length_eq,eQ,Nat.add_assoc]
 .
  rcases kA.mp hx with hx |hx
  . exact rs.r x (by simp[hx])
  .
   rcases dA.mp hx with rfl |hx
   . exact#[by rw[c4.length_eq,eQ];lia,c3]
   . exact rs.r x (by simp[hx])
 . simp only[List.flatten_append,BO];rw[<- kS X];exact (c4.append_right _).append_left _
theorem md(p:Array (Nat×Nat×Nat))(i c:Nat):(p.modify i λx=>(x.1,x.2.1,c)).toList.map ol=p.toList.map ol:=by
 refine Cs λj=>?_
 rw[oC,oC,tS,tS,Array.getElem?_modify];split
 . cases p[j]? <;> rfl
 . rfl
theorem Fe(hc:ju prog w A E s pr lt N κ)(hr:∀x,lt x x=false)(ht:∀x y z,Le lt x y->Le lt y z->Le lt x z)(hl:∀x y,lt x y=true->Le lt x y){L:List Nat}{Q:Unit->SortSt->Prop}(hs:Hs pr κ L ([].toArray) st)(hN:∀i∈L,i<N)
  (h:∀st' L' SM,Hs pr κ L' SM st'->L'.Perm L->L'.Pairwise (Le lt)->Q () st'):wpS (model prog w) A E s sortRuns' Q st:=by
 have sz:(arrOf st).size=L.length:=by rw[hs.a];simp
 refine i7 (wpS_get ?_);rw[sz]
 extract_lets mr mn lo0
 let I0:=λx (c:Option PUnit×Nat) st'=>∃R Z pd lo,c=(none,lo)/\Hs pr κ (R.flatten++Z) pd st'/\Rs lt R pd/\(R.flatten++Z).Perm L/\lo=R.flatten.length/\x<=lo
 let Q0:=λ(c:Option PUnit×Nat) st'=>∃R pd lo,c=(none,lo)/\Hs pr κ R.flatten pd st'/\Rs lt R pd/\R.flatten.Perm L
 refine aU I0 Q0 ?_ ?_ #[[],L,([].toArray),0,rfl,hs,#[rfl,λx hx=>(nomatch hx)],nV _,rfl,eA _] ?_
 .
  rintro F hF x c bS _ hx ⟨R,Z,SN,lo,rfl,hs1,O7,hp1,rfl,O4⟩;subst hF;have e1:=hp1.length_eq;rw[eQ]at e1;refine aK (λhge=>?_) λhge=>?_
  . obtain rfl:Z=[]:=List.eq_nil_of_length_eq_zero ⋯;rw[pV]at hs1 hp1;exact i8 #[R,SN,_,rfl,hs1,O7,hp1]
  rw[show mr - R.flatten.length=Z.length from Nat.sub_eq_of_eq_add (by rw[Nat.add_comm];exact e1.symm)]
  have mem:∀{R':List (List Nat)}{Z':List Nat},R'.flatten.Perm R.flatten->Z'.Perm Z->∀i∈R'.flatten++Z',i<N:=λh1 h2 i hi=>hN i (hp1.mem_iff.mp ((h1.append h2).mem_iff.mp hi))
  refine i7 (uq hc hr ht hl hs1 (mem (nV _) (nV _)) ⋯ λaL m Z2 hs2 m1 m2 hp2 Ag=>?_)
  dsimp -zeta only
  extract_lets +onlyGivenNames n0 jp
  refine jv (λR'=>∀u n Z3 fy,Hs pr κ (R.flatten++Z3) SN fy->Z3.Perm Z->1<=n->n<=Z.length->(Z3.take n).Pairwise (Le lt)->R' (jp u n) fy) ?_ ?_
  .
   intro js;refine aK (λhm=>?_) λhm=>?_
   .
    refine i7 (wpS_lift (BS #[rfl,?_]));refine i7 (Ah hc hr ht hl hs2 (mem (nV _) hp2) (by rw[hp2.length_eq];lia) m1 ⋯ Ag λfy Z3 vL hp3 pw3=>?_)
    exact js () _ Z3 fy vL (hp3.trans hp2) ⋯ ⋯ pw3
   . exact js () _ Z2 aL hs2 hp2 m1 m2 Ag
  intro u n Z3 fy vL hp3 n1 n2 pw3;refine i7 (wpS_get ?_)
  extract_lets +onlyGivenNames l2 Ew
  refine jv (λR'=>∀u R4 oB,Hs pr κ (R4.flatten++Z3) (pendingOf oB) oB->Rs lt R4 (pendingOf oB)->R4.flatten.Perm R.flatten->R' (Ew u) oB) ?_ ?_
  .
   intro js;split
   .
    let I1:=λ(c:Option PUnit×Unit) st'=>c=(none,())/\∃R4 Wi,Hs pr κ (R4.flatten++Z3) Wi st'/\Rs lt R4 Wi/\R4.flatten.Perm R.flatten
    refine aU (λ_=>I1) I1 ?_ (λ_ _ h=>h) #[rfl,R,SN,vL,O7,nV _] ?_
    .
     rintro F hF y c oB _ hy ⟨rfl,R4,Wi,vM,Jb,yt⟩;subst hF;refine i7 (wpS_get ?_);dsimp only;split
     .
      rename_i a b older heq;have h2:(pendingOf oB).size=R4.length:=by rw[vM.p,Jb.len]
      split
      . exact i8 #[rfl,R4,Wi,vM,Jb,yt]
      refine i7 (mU hc hr ht hl vM Jb (mem yt hp3) ⋯ λxO R5 pd5 h5 r5 _ p5=>?_)
      exact i8 #[rfl,R5,pd5,h5,r5,p5.trans yt]
     . exact i8 #[rfl,R4,Wi,vM,Jb,yt]
    .
     rintro G hG c oB ⟨rfl,R4,Wi,vM,Jb,yt⟩;subst hG;refine i7 (C6 ?_);refine js () R4 _ ?_ ?_ yt
     . exact#[vM.a,vM.k,vM.f,rfl]
     . exact#[(md (pendingOf oB) _ _).trans (by rw[<- Jb.o,<- vM.p]),Jb.r]
   . exact js () R fy (by rw[vL.p];exact vL) (by rw[vL.p];exact O7) (nV _)
  intro u R4 oB vM Jb yt;refine i7 (C6 (i8 #[R4++[Z3.take n],Z3.drop n,(pendingOf oB).push (R.flatten.length,n,0),_,rfl,#[by rw[show (R4++[Z3.take n]).flatten++Z3.drop n=R4.flatten++Z3 by simp];exact vM.a,vM.k,vM.f,rfl],#[?_,λx hx=>?_],?_,?_,by lia]))
  . have l4:=yt.length_eq;rw[CD,AW,Jb.o,jy,xI,l4];show _=offs 0 R4++[(R.flatten.length,(Z3.take n).length)];rw[mM,hp3.length_eq,A6 n2];rfl
  .
   rcases kA.mp hx with hx |hx
   . exact Jb.r x hx
   . rw[fA.mp hx];exact#[by rw[mM,hp3.length_eq];lia,pw3]
  .
   rw[show (R4++[Z3.take n]).flatten++Z3.drop n=R4.flatten++Z3 by simp]
   exact (yt.append hp3).trans hp1
  . show R.flatten.length+n=_;rw[List.flatten_append,eQ,yt.length_eq];simp[hp3.length_eq,A6 n2]
 . rintro c bS ⟨R,Z,SN,lo,rfl,hs1,O7,hp1,rfl,O4⟩;have e:=hp1.length_eq;rw[eQ]at e;obtain rfl:Z=[]:=List.eq_nil_of_length_eq_zero ⋯;rw[pV]at hs1 hp1;exact#[R,SN,_,rfl,hs1,O7,hp1]
 .
  rintro G hG c bS ⟨R,SN,lo,rfl,hs1,O7,hp1⟩;subst hG;refine aU (λx c st'=>c=(none,())/\∃R pd,Hs pr κ R.flatten pd st'/\Rs lt R pd/\R.flatten.Perm L/\(R.length<=1\/R.length+x<=L.length)) (λc st'=>c=(none,())/\∃R pd,Hs pr κ R.flatten pd st'/\Rs lt R pd/\R.flatten.Perm L/\R.length<=1) ?_ ?_ #[rfl,R,SN,hs1,O7,hp1,.inr ?_] ?_
  .
   rintro F hF x c aL _ hx ⟨rfl,R,Ys,hs2,SQ,hp2,h2⟩;subst hF;have sz2:(pendingOf aL).size=R.length:=by rw[hs2.p,SQ.len]
   refine i7 (wpS_get ?_);refine aK (λh1=>i8 #[rfl,R,Ys,hs2,SQ,hp2,sz2▸h1]) λh1=>?_
   replace h1 : ¬ R.length<=1:=sz2▸h1;have go:∀i,i+1<R.length->wpS (model prog w) A E s (mergeAt' i) (λb st'=>b=true/\∃R pd,Hs pr κ R.flatten pd st'/\Rs lt R pd/\R.flatten.Perm L/\(R.length<=1\/R.length+(x+1)<=L.length)) aL:=λi hi=>by
    refine mU hc hr ht hl (by rwa [pV]) SQ (λi hi=>hN i (hp2.mem_iff.mp (by rwa [pV]at hi))) hi λfy R3 pd3 h3 r3 l3 p3=>#[rfl,R3,pd3,by rwa [pV]at h3,r3,p3.trans hp2,by lia]
   refine i7 (wpS_mono (go _ ?_) λb fy #[hb,R3,pd3,h3,r3,p3,l3]=>?_)
   . rw[sz2];split <;> lia
   . subst hb;exact i8 #[rfl,R3,pd3,h3,r3,p3,l3]
  . rintro c aL ⟨rfl,R,Ys,hs2,SQ,hp2,h2⟩;exact#[rfl,R,Ys,hs2,SQ,hp2,by change R.length<=1\/R.length+max 0 L.length<=L.length at h2;lia]
  .
   rw[<- hp1.length_eq];have:∀R:List (List Nat),(∀x∈R,1<=x.length/\x.Pairwise (Le lt))->R.length<=R.flatten.length:=λR=>by
    induction R with
    |nil=>exact λ_=>eA _
    |cons r R ih=>
     intro q;have:=ih λx hx=>q x (a8 _ hx)
     have:=(q r bP).1;rw[BO,eQ,nK];lia
   exact this R O7.r
  .
   rintro G hG c aL ⟨rfl,R,Ys,hs2,SQ,hp2,h2⟩;subst hG;refine i8 (h aL R.flatten Ys hs2 hp2 ?_)
   match R,h2,SQ.r with
   | [],_,_=>exact List.Pairwise.nil
   | [r],_,q=>rw[BO,List.flatten_nil,pV];exact (q r bP).2
end
open L2 PySem.W
section
variable{α:Type}{key:Nat->α}
noncomputable def dm(s:Shared)(a:Addr)(vs:List Value):Shared:={ s with heap:=((s.heap.update a (Obj.mapSeq λ_=>([].toArray))).push (seqObj "tuple" vs.toArray 0)).push (seqObj "list" ([].toArray) 0)}
theorem ur(hb:b≠a)(h:s.heap.get? b=!o):(dm s a vs).heap.get? b=!o:=
 a7 _ (a7 _ ((lS s.heap _ hb.symm).trans h))
theorem uv{a:Addr}{vs:List Value}{n:Nat}{P:PySem.Fin->Shared->Prop}(ho:s.heap.get? a=!(seqObj "list" vs.toArray n))(h2:2<=vs.length)(h64:vs.length<100000)
  (hk:∀Q:SortKind->Shared->Prop,Q κ (dm s a vs)->wpAny (model prog w) A (keyKind' vs.toArray) Q (λ_ _=>False) (dm s a vs))
  (hc:∀i j C,i<vs.length->j<vs.length->C (qLt O key i j) (dm s a vs)->kas_ask prog w A κ vs i j C (dm s a vs))
  (h:∀p:Array Nat,p.Perm (List.range vs.length).toArray->Sy O key p vs.length->P (.done (.ret .none)) { s with heap:=sortedHeap s.heap a vs (p.toList.map λi=>vs.getD i Value.none).toArray}) :
  wpAny (model prog w) A (Builtin.«list.sort» #[[.ref a],[]]) P E s:=by
 obtain⟨e1,vK⟩:∃e1,(s.heap.update a (Obj.mapSeq λ_=>([].toArray))).get? a=!(seqObj "list" ([].toArray) e1):=#[_,get?_update_seq ho (λ_=>([].toArray))]
 have Yt:(dm s a vs).heap.get? a=!(seqObj "list" ([].toArray) e1):=a7 _ (a7 _ vK);have hz:vs.length<=sizeLine:=(by rw[t7];lia)
 rw[list_sort_plain];refine aS (listItems_at ho rfl (aS (listUpdate_at ho rfl (aS (seqEpoch_at vK rfl (aS (wpAny_newTuple (aS (Dx (sB ?_) (sR _))) (by show vs.length<=_;exact hz))))) (by simpa using hz) (sR _))))
 have hn : ¬ vs.toArray.size<2:=by rw[eP];lia
 rw[sK hn,sK hn];refine aS (qS (hk (λk s0=>k=κ/\s0=dm s a vs) #[rfl,rfl]) ?_ λ_ _ z=>z.elim)
 rintro κ _ ⟨rfl,rfl⟩;have as:ju prog w A E (dm s a vs) (λi=>(vs.getD i .none,vs.getD i .none)) (qLt O key) vs.length κ:=λi j hi hj st Q hk hQ=>by
  rw[lt'_eq];refine i7 (wpS_get ?_);rw[hk];refine i7 (wpS_lift (BD (qS (hc i j (λb s'=>s'=dm s a vs/\b=qLt O key i j) hi hj #[rfl,rfl]) ?_ λ_ _ z=>False.elim z)))
  rintro _ _ ⟨rfl,rfl⟩;exact#[rfl,i8 hQ]
 have st0:Hs (λi=>(vs.getD i .none,vs.getD i .none)) κ (List.range vs.length) ([].toArray) (SortSt.mk' κ (vs.toArray.zip vs.toArray) ([].toArray) 7 none):=#[?_,rfl,rfl,rfl]
 refine aS (qS (Fe as (λx=>O.irr _) (λx y z h1 h2=>uf.O5 (O:=O) h1 h2) (λx y h=>uf.le_of_lt (O:=O) h) st0 (λi hi=>w8.mp hi) (Q:=λ_ st'=>failedOf st'=none/\∃p:Array Nat,p.Perm (List.range vs.length).toArray/\Sy O key p vs.length/\(arrOf st').map (·.2)=(p.toList.map λi=>vs.getD i Value.none).toArray) λst' L' SM hs' hp hw=>?_) ?_ λ_ _ z=>z)
 .
  refine#[hs'.f,L'.toArray,Bi.mpr hp,λi j hij hj=>?_,?_]
  .
   have:=pw_get (R:=Le (qLt O key)) (λx=>O.irr _) hw hij (by rw[hp.length_eq,BU];exact hj)
   unfold kAt;rw[show ∀i,L'.toArray.getD i 0=L'.getD i 0 from λi=>by simp[a9],show ∀i,L'.toArray.getD i 0=L'.getD i 0 from λi=>by simp[a9]]
   exact this
  . rw[hs'.a];apply Array.toList_inj.mp;simp
 .
  rintro⟨⟨⟩,st'⟩ s' ⟨rfl,hf,p0,q2,q3,hout⟩;dsimp only at hf hout ⊢
  rw[hout];refine aS (seqEpoch_at Yt rfl (aS (listUpdate_at Yt rfl ?_ (sR _) (by show (List.toArray _).size<=_;rw[eP,dE,fR,q2.size_eq];simp;lia))))
  rw[hf];simp only[bne_self_eq_false];exact dL (h p0 q2 q3)
 .
  apply Array.toList_inj.mp;refine List.ext_getElem ⋯ λi h1 h2=>?_
  simp[a9]at h1 h2 ⊢
  simp[h2]
theorem yu{β:Type}:∀l:List β,(l.zip l).map (·.2)=l
 | []=>rfl
 |x::l=>by rw[List.zip_cons_cons,List.map_cons,yu l]
theorem uw(ho:s.heap.get? a=!(seqObj "list" vs.toArray n))(h2:vs.length<2)
  (h:P (.done (.ret .none)) { s with heap:=sortedHeap s.heap a vs vs.toArray}):wpAny (model prog w) A (Builtin.«list.sort» ⟨[.ref a],[]⟩) P E s:=by
 obtain⟨e1,vK⟩:∃e1,(s.heap.update a (Obj.mapSeq λ_=>([].toArray))).get? a=!(seqObj "list" ([].toArray) e1):=#[_,get?_update_seq ho (λ_=>([].toArray))]
 have Yt:(dm s a vs).heap.get? a=!(seqObj "list" ([].toArray) e1):=a7 _ (a7 _ vK);have hz:vs.length<=sizeLine:=(by rw[t7];lia)
 rw[list_sort_plain];refine aS (listItems_at ho rfl (aS (listUpdate_at ho rfl (aS (seqEpoch_at vK rfl (aS (wpAny_newTuple (aS (Dx (sB ?_) (sR _))) (by show vs.length<=_;exact hz))))) (by simpa using hz) (sR _))))
 have hn:vs.toArray.size<2:=by rw[eP];lia
 dsimp only;rw[tJ hn,tJ hn];refine aS (dL ?_);refine aS (dL ?_);have hout:(arrOf (SortSt.mk' general' (vs.toArray.zip vs.toArray) ([].toArray) 7 none)).map (·.2)=vs.toArray:=by show (vs.toArray.zip vs.toArray).map (·.2)=vs.toArray;apply Array.toList_inj.mp;simp only[Array.toList_map,Array.toList_zip];exact yu vs
 rw[hout];refine aS (seqEpoch_at Yt rfl (aS (listUpdate_at Yt rfl ?_ (sR _) (by show vs.toArray.size<=_;rw[eP];lia))))
 rw[sK ⋯];exact dL h
noncomputable def K7(h:Heap)(vs:List Value):Heap:=((h.push (seqObj "list" ([].toArray) 0)).update h.objs.size (Obj.mapSeq (· ++ vs.toArray))).push (seqObj "list" vs.toArray 0)
theorem pQ(h:Heap)(vs:List Value):((h.push (seqObj "list" ([].toArray) 0)).update h.objs.size (Obj.mapSeq (· ++ vs.toArray))).objs.size=h.objs.size+1:=(Heap.size_update ..).trans (size_push' ..)
theorem lG(h:Heap)(vs:List Value):(K7 h vs).get? (h.objs.size+1)=!(seqObj "list" vs.toArray 0):=by have:=dC ((h.push (seqObj "list" ([].toArray) 0)).update h.objs.size (Obj.mapSeq (· ++ vs.toArray))) (o:=seqObj "list" vs.toArray 0) rfl;rw[pQ]at this;exact this
theorem ux(e:h.get? b=!o):(K7 h vs).get? b=!o/\b≠h.objs.size+1:=by have hb:=fI e;refine#[a7 _ ?_,i6 (AD hb)];rw[lS _ _ (AV hb)];exact a7 _ e
theorem pR(hl:s.heap.IsList l vs.toArray\/IsTup s.heap l vs.toArray)(hz:vs.length<=sizeLine)
  (h:wpAny (model prog w) A.in1.in1 (Builtin.«list.sort» #[[.ref (s⁻¹+1)],[]]) (λf s'=>f=.done (.ret .none)/\Q (.ref (s⁻¹+1)) s') E { s with heap:=K7 s.heap vs}) :
  wpAny (model prog w) A (call (.builtin "sorted") [.ref l]) Q E s:=by
 refine CH kind_sorted plain_sorted entry_sorted (args_sorted1 _) ?_;have go:wpAny (model prog w) A.in1 (collect (.ref l)) (λvs' s'=>vs'=vs/\s'={ s with heap:=(s.heap.push (seqObj "list" ([].toArray) 0)).update s⁻¹ (Obj.mapSeq (· ++ vs.toArray))}) E s:=by
  rcases hl with hl |hl
  . exact collect_list hl #[rfl,rfl] hz
  . exact gZ hl #[rfl,rfl] hz
 refine aS (dL (aS (qS go ?_ λ_ _ z=>z)))
 rintro _ _ ⟨rfl,rfl⟩;refine aS (Dx ?_ hz);rw[pQ];refine aS (sB (wE slot_list_sort #[_,lG _ _,rfl] entry_list_sort (qS h (λf s' hf=>#[_,hf.1,?_]) λ_ _ z=>z) (args_list_sort _)))
 exact dL #[_,rfl,hf.2]
end
theorem jQ:∀a:List Int,HT.lexLt a a=false
 | []=>rfl
 |x::a=>by rw[HT.dc,tJ rfl,jQ a]
theorem uy:∀a b c:List Int,HT.lexLt a b=true->HT.lexLt b c=true->HT.lexLt a c=true
 | [],[],_,h,_=>by symm
 |_::_,[],_,h,_=>by symm
 |_,_::_,[],_,h=>by symm
 | [],_::_,_::_,_,_=>rfl
 |x::a,y::b,z::c,h1,h2=>by
  rw[HT.dc]at h1 h2 ⊢
  by_cases e1:x=y
  .
   rw[tJ e1]at h1;subst e1;by_cases e2:x=z
   .
    rw[tJ e2]at h2 ⊢
    exact uy a b c h1 h2
   .
    rw[sK e2]at h2 ⊢
    exact h2
  .
   rw[sK e1]at h1;by_cases e2:y=z
   . rw[tJ e2]at h2;subst e2;rw[sK e1];exact h1
   . rw[sK e2]at h2;rw[sK ⋯];exact w9 ⋯
theorem pS:∀a b:List Int,HT.lexLt a b=false->HT.lexLt b a=false->a=b
 | [],[],_,_=>rfl
 | [],_::_,h,_=>by symm
 |_::_,[],_,h=>by symm
 |x::a,y::b,h1,h2=>by
  rw[HT.dc]at h1 h2;by_cases e:x=y
  . subst e;rw[tJ rfl]at h1 h2;rw[pS a b h1 h2]
  .
   rw[sK e]at h1;rw[sK (λz=>e z.symm)]at h2
   lia
def rA:uf (~~~0):=#[HT.lexLt,jQ,uy,pS]
section
variable{α:Type}(O:uf α)
noncomputable def Ai(a:α):List α->List α
 | []=>[a]
 |b::l=>if O.lt b a then b::Ai a l else a::b::l
def dF:List α->List α
 | []=>[]
 |a::l=>Ai O a (dF l)
variable{O}
theorem jR(a:α):∀l:List α,(Ai O a l).Perm (a::l)
 | []=>nV _
 |b::l=>by
  unfold Ai;split
  . exact ((jR a l).cons b).trans (List.Perm.swap a b l)
  . exact nV _
theorem iE:∀l:List α,(dF O l).Perm l
 | []=>nV _
 |a::l=>(jR a _).trans ((iE l).cons a)
theorem kK(a:α):∀{l:List α},l.Pairwise O.le->(Ai O a l).Pairwise O.le
 | [],_=>u8 _ _
 |b::l,h=>by
  obtain⟨h1,h2⟩:=y7.mp h;unfold Ai;cases e:O.lt b a with
  |true=>
   refine y7.mpr #[λx hx=>?_,kK a h2]
   rcases dA.mp ((jR a l).mem_iff.mp hx)with rfl |hx
   . exact uf.le_of_lt e
   . exact h1 x hx
  |false=>
   refine y7.mpr #[λx hx=>?_,h]
   rcases dA.mp hx with rfl |hx
   . exact e
   . exact uf.O5 (show O.le a b from e) (h1 x hx)
theorem e9:∀l:List α,(dF O l).Pairwise O.le
 | []=>List.Pairwise.nil
 |a::l=>kK a (e9 l)
theorem wF(hp:m.Perm l)(hs:m.Pairwise O.le):m=dF O l:=
 (hp.trans (iE l).symm).eq_of_pairwise (λx y _ _ h1 h2=>uf.KZ h1 h2) hs (e9 l)
theorem fP{β:Type}(ks:List β)(d:β):(List.range ks.length).map (λi=>ks.getD i d)=ks:=by
 refine List.ext_getElem ⋯ λi h1 h2=>?_
 simp[mB h2]
theorem kL(hp:p.Perm (List.range ks.length).toArray)(hr:Sy O (λi=>ks.getD i d) p ks.length):p.toList.map (λi=>ks.getD i d)=dF O ks:=by
 have hl:=Bi.mp hp;refine wF ((hl.map _).trans (by rw[fP])) ?_
 rw[CI];intro i j hi hj hij;have hs:p.size=ks.length:=by rw[hp.size_eq];simp
 rw[dE,fR]at hi hj;have:=hr i j (AU hij) ⋯;unfold kAt at this;have e1:p.getD i 0=p[i]:=by simp[hi]
 have e2:p.getD j 0=p[j]:=by simp[hj]
 rw[e1,e2]at this;simpa using this
end
open L2 PySem.W
section
theorem Fg(hv:IntsAre vs ns):∀{ws:List Value}{ms: ~~~0} (i:Nat),IntsAre ws ms->fin=decide (ns.length<ms.length)->Q (HT.lexLt ns ms) s->KatLex prog w A true fin Q (vs.zip ws) i s:=by
 induction hv with
 |nil=>
  intro ws ms i hu hf h;refine kat_nil ?_;rw[hf];cases hu with
  |nil=>exact h
  |cons _=>exact h
 |@cons n t vs ns hv ih=>
  intro ws ms i hu hf h;cases hu with
  |nil=>refine kat_nil ?_;rw[hf];exact h
  |@cons m t' us ms hu=>
   refine kat_cons (wpAny_eqBool_int (kat_go (λe=>?_) (λe=>?_)))
   .
    have e':=eq_of_beq e;refine kat_yes (ih (i+1) hu (by rw[hf];simp) ?_)
    rw[HT.dc,tJ e']at h;exact h
   .
    have e':n≠m:=λq=>by rw[q]at e;simp at e
    rw[HT.dc,sK e']at h;refine kat_no ?_;cases i with
    |zero=>exact oneLt_int h
    |succ i=>exact kat_one _ _ (lt_int h)
def Fj(h:Heap)(v:Value)(ns: ~~~0):Prop:=∃a au,v=.ref a/\IsTup h a au/\IntsAre au.toList ns
theorem Fj.keep(x:Fj h v ns)(k:∀b o,h.get? b=!o->h'.get? b=!o):Fj h' v ns:=let #[a,its,e,t,i]:=x;#[a,its,e,t.keeps k,i]
inductive TupIs(h:Heap):List Value->List (~~~0)->Prop
 |nil:TupIs h [] []
 |cons {v:Value}{ns: ~~~0}{vs:List Value}{cE: ~~~5}:Fj h v ns->TupIs h vs cE->TupIs h (v::vs) (ns::cE)
theorem TupIs.keep(k:∀b o,h.get? b=!o->h'.get? b=!o)(t:TupIs h vs cE):TupIs h' vs cE:=by
 induction t with
 |nil=>exact .nil
 |cons a b ih=>exact .cons (a.keep k) ih
theorem TupIs.length(t:TupIs h vs cE):vs.length=cE.length:=by
 induction t with
 |nil=>rfl
 |cons a b ih=>exact congrArg (· + 1) ih
theorem TupIs.at(t:TupIs h vs cE)(hi:i<vs.length):Fj h (vs.getD i .none) (cE.getD i []):=by
 induction t generalizing i with
 |nil=>exact absurd hi (BQ _)
 |cons a b ih=>cases i with
  |zero=>exact a
  |succ i=>exact ih (B6 hi)
theorem TupIs.firsts(t:TupIs h vs cE)(jI:∀ns∈cE,ns≠[]):∃fs:List Value,KatTups h vs fs/\fs.length=vs.length/\∀v∈fs,∃i t,v=.int i t:=by
 induction t with
 |nil=>exact#[[],.nil,rfl,λ_ z=>nomatch z]
 |@cons v ns vs cE a b ih=>
  obtain⟨fs,q1,q2,q3⟩:=ih λns hn=>jI ns (a8 _ hn)
  obtain⟨a,au,e,⟨o,e1,e2,n,e3⟩,hi⟩:=a;subst e;obtain⟨au⟩:=au;cases au with
  |nil=>
   cases ns with
   |nil=>exact absurd rfl (jI [] bP)
   |cons _ _=>cases hi
  |cons v au=>
   cases ns with
   |nil=>cases hi
   |cons m ns=>cases hi;exact#[_::fs,KatTups.cons e1 e2 e3 rfl q1,by rw[nK,nK,q2],λv hv=>(dA.mp hv).elim (λz=>#[_,_,z]) (q3 v)]
theorem Aj:Looks M h (typeOf (.int i t)) (.type "int"):=.now
theorem uz(hl:s.heap.IsList l vs.toArray\/IsTup s.heap l vs.toArray)(ht:TupIs s.heap vs cE)(jI:∀ns∈cE,ns≠[])(h64:vs.length<64)
  (h:∀p:List Nat,p.Perm (List.range vs.length)->p.map (λi=>cE.getD i [])=dF rA cE->Q (.ref (s⁻¹+1)) { s with heap:=sortedAll s.heap vs (p.map λi=>vs.getD i Value.none).toArray}) :
  wpAny (model prog w) A (call (.builtin "sorted") [.ref l]) Q E s:=by
 have hz:vs.length<=sizeLine:=by rw[t7];lia
 refine pR hl hz ?_;have aM:=ht.length;by_cases h2:vs.length<2
 .
  refine uw (lG _ _) h2 #[rfl,?_];have:=h (List.range vs.length) (nV _) (by
   rw[aM]
   match cE,aM with
   | [],_=>rfl
   | [x],_=>rfl
   |_::_::_,hl2=>rw[hl2,nK,nK]at h2;lia)
  rw[fP]at this;exact this
 .
  have keep:∀b o,s.heap.get? b=!o->(dm { s with heap:=K7 s.heap vs} (s⁻¹+1) vs).heap.get? b=!o:=λb o e=>ur (ux (vs:=vs) e).2 (ux e).1
  have ht':=ht.keep keep;refine uv (κ:=tuples' true) (O:=rA) (key:=λi=>cE.getD i []) (lG _ _) ⋯ ⋯ (λQ' hq=>?_) (λi j C hi hj hC=>?_) λp hp hr=>#[rfl,?_]
  . obtain⟨fs,q1,q2,q3⟩:=ht'.firsts jI;exact kat_kind (T:=.type "int") q1 ⋯ (λv hv=>by obtain⟨i,t,rfl⟩:=q3 v hv;exact Aj) ⋯ hq
  . obtain⟨a,its,e,⟨o,e1,e2,n,e3⟩,q⟩:=ht'.at hi;obtain⟨b,ou,e',⟨o2,e4,e5,n2,e6⟩,q'⟩:=ht'.at hj;show wpAny _ _ (keyLt' (tuples' true) (vs.getD i Value.none) (vs.getD j Value.none)) C _ _;rw[e,e'];refine kat_lt e1 e3 e4 e6 (Fg q 0 q' ?_ hC);rw[<- q.length,<- q'.length];simp
  . rw[aM]at hp hr;exact h p.toList (by rw[aM];exact (Bi.mp hp).trans ⋯) (kL hp hr)
end
section
def kM:List D->Option (~~~5)
 | []=>![]
 |.tup l::ds=>match bu l,kM ds with |!(n::ns),!cE=>!((n::ns)::cE) |_,_=>none
 |_::_=>none
inductive kN(K:Frag)(H:Hp):List V->List (~~~0)->Prop
 |nil:kN K H [] []
 |cons {a:Addr}{ns: ~~~0}{vs:List V}{cE: ~~~5}:fG K H a (ns.map V.int)->kN K H vs cE->kN K H (.ref a::vs) (ns::cE)
theorem kN.real(I:L2.Inv X aj σ H s)(t:kN X.K H xs cE):∀{its:List Value},Vals xs its->TupIs s.heap its cE:=by
 induction t with
 |nil=>intro its r;cases r;exact .nil
 |cons q _ ih=>
  intro its r;cases r with
  |cons r rs=>cases r;obtain⟨ou,r2,p,_⟩:=I.tuple q;exact .cons #[_,_,rfl,p,by simpa using intsAre_of r2] (ih rs)
theorem jS(h:Vals xs us):∀{i:Nat},i<xs.length->RelV (xs.getD i .non) (us.getD i .none):=by
 induction h with
 |nil=>intro i hi;exact absurd hi (BQ _)
 |cons r _ ih=>
  intro i hi;cases i with
  |zero=>exact r
  |succ i=>exact ih (by simpa using hi)
theorem jT(h:Vals xs us):∀{p:List Nat},(∀i∈p,i<xs.length)->Vals (p.map λi=>xs.getD i .non) (p.map λi=>us.getD i .none)
 | [],_=>.nil
 |i::p,hp=>.cons (jS h (hp i bP)) (jT h λj hj=>hp j (a8 _ hj))
theorem rB:bV X (.builtin "sorted") (λxs H Q=>∃p ys cE,xs=[.ref p]/\(bD X.K H p ys\/fG X.K H p ys)/\kN X.K H ys cE/\(∀ns∈cE,ns≠[])/\ys.length<64/\
  ∀q (o:List Nat),H q=none->(∀i∈o,i<ys.length)->o.map (λi=>cE.getD i [])=dF rA cE->Q (.ref q) (upd H q (.lst (o.map λi=>ys.getD i .non)))):=by
 intro aj s σ H xs us Q I r h;obtain⟨p,ys,cE,rfl,hq,ht,jI,hl,q⟩:=h;obtain⟨u,rfl,rx⟩:=vals1 r;cases rx;have fin:∀its:List Value,Vals ys its->(s.heap.IsList p its.toArray\/IsTup s.heap p its.toArray)->wpAny (~~~2) X.A (call (.builtin "sorted") [.ref p]) (EP X aj σ Q) X.xe s:=λits r' pl=>by
  have aM:=r'.length;refine uz pl (ht.real I r') jI ⋯ λo ho hs=>?_
  obtain⟨ep,he⟩:=sortedAll_at s.heap its (o.map λi=>its.getD i Value.none).toArray
  have hin:∀i∈o,i<ys.length:=λi hi=>by rw[aM];exact w8.mp (ho.mem_iff.mp hi)
  have hol:o.length=ys.length:=by rw[ho.length_eq,BU,aM]
  refine#[.ref (s⁻¹+1),_,I.laid (λb ob e=>sortedAll_old e) (BI _) ?_,rfl,q _ o (I.hok.fresh (BI _)) hin hs]
  refine#[by rw[dE,t7];lia,_,ep,jT r' hin,he]
 rcases hq with hq |hq
 . obtain⟨its,r',pl,hz⟩:=I.list hq;exact fin its r' (.inl pl.isList)
 . obtain⟨its,r',pl,hz⟩:=I.tuple hq;exact fin its r' (.inr pl)
theorem K8(e:bu l=!ns):l=ns.map .int:=by
 induction l generalizing ns with
 |nil=>cases e;rfl
 |cons d l ih=>cases d with
  |int i=>
   have e:(match bu l with |some ns=>!(i::ns) |none=>none)=!ns:=e
   cases e2:bu l with
   |none=>rw[e2]at e;cases e
   |some ms=>rw[e2]at e;cases e;rw[List.map_cons,<- ih e2]
  |_=>cases e
theorem Ak{K:Frag}{M:List Addr}{H:Hp}{l:List D}{xs:List V}{cE: ~~~5}(q:aG K M H l xs)(e:kM l=!cE):kN K H xs cE/\(∀ns∈cE,ns≠[])/\l=cE.map λns=>.tup (ns.map .int):=by
 induction l generalizing xs cE with
 |nil=>cases q;cases e;exact#[.nil,λ_ z=>(nomatch z),rfl]
 |cons d l ih=>cases q with |cons r q=>cases d with
  |tup m=>
   unfold kM at e;split at e
   .
    rename_i n ns cE e1 e2;cases e;obtain⟨t1,t2,t3⟩:=ih q e2;cases r with
    |tup ha rr=>
     have:=bx rr e1;subst this;refine#[.cons ha.sq t1,λx hx=>(dA.mp hx).elim (λz=>by rw[z];exact List.cons_ne_nil _ _) (t2 x),?_]
     rw[List.map_cons,<- t3,K8 e1]
   . cases e
  |_=>cases e
theorem aG.pick{K:Frag}{M:List Addr}{H:Hp}{ds:List D}{vs:List V}(h:aG K M H ds vs):∀{o:List Nat},(∀i∈o,i<vs.length)->aG K M H (o.map λi=>ds.getD i .non) (o.map λi=>vs.getD i .non)
 | [],_=>.nil
 |i::o,ho=>by
  refine .cons ?_ (h.pick λj hj=>ho j (a8 _ hj))
  have hi:=ho i bP;have hd:i<ds.length:=by rw[h.length];exact hi
  obtain⟨v,e1,e2⟩:=h.get (i:=i) (d:=ds[i]) (by simp[hd])
  have q1:ds.getD i .non=ds[i]:=by simp[hd]
  have q2:vs.getD i .non=v:=by rw[a9,e1];rfl
  show Rep K M H (ds.getD i .non) (vs.getD i .non);rw[q1,q2];exact e2
theorem wG{d:D}{l:List D}{cE: ~~~5}(hK:z.K=X.K)(h:bF d=!l)(hi:kM l=!cE)(hl:cE.length<64):CallD X z (.builtin "sorted") [d] (.new ((dF rA cE).map λns=>.tup (ns.map .int))):=by
 refine#[_,rB,λg σ As M H vs Q s p k=>?_]
 obtain⟨v,rfl,pv⟩:=p.one;have main:∀(a:Addr) (xs:List V),aG z.K M H l xs->(bD X.K H a xs\/fG X.K H a xs)->∃p ys cE,[V.ref a]=[.ref p]/\(bD X.K H p ys\/fG X.K H p ys)/\kN X.K H ys cE/\(∀ns∈cE,ns≠[])/\ys.length<64/\
   ∀q (o:List Nat),H q=none->(∀i∈o,i<ys.length)->o.map (λi=>cE.getD i [])=dF rA cE->Q (.ref q) (upd H q (.lst (o.map λi=>ys.getD i .non))):=λa xs rr hq=>by
  obtain⟨t1,t2,t3⟩:=Ak rr hi;have aM:xs.length=cE.length:=by rw[<- rr.length,t3,dE]
  refine#[a,xs,cE,rfl,hq,hK▸t1,t2,by lia,λq o hf hin hs=>?_]
  have e:((dF rA cE).map λns=>D.tup (ns.map .int))=o.map λi=>l.getD i .non:=by
   rw[<- hs,List.map_map];refine AL λi hi=>?_
   have:i<cE.length:=by rw[<- aM];exact hin i hi
   rw[t3];simp[this]
  have rr':=(rr.pick hin).stay (ao.aW (o:=.lst (o.map λi=>xs.getD i .non)) hf)
  refine k _ _ As (q::M) (s.aW hf) (ao.aW hf) #[q,_,rfl,bP,λhA=>s.fresh hf (s.sub q hA),s.bW hf,aC,?_]
  rw[e];exact rr'
 cases d with
 |lst m=>symm;obtain⟨a,xs,rfl,e1,e2⟩:=pv.list;exact main a xs e2 (.inl (bD.of e1))
 |tup m=>symm;obtain⟨a,xs,rfl,e1,e2⟩:=pv.tup;exact main a xs e2 (.inr (hK▸e1.sq))
 |fix m=>symm;obtain⟨a,xs,rfl,e1,e2⟩:=pv.fix;exact main a xs e2 (.inl (hK▸e1.sq))
 |_=>symm
end
open L2 PySem.W
noncomputable def gJ(n:Int): ~~~0->Int
 | []=>n
 |m::l=>gJ (if m<n then m else n) l
noncomputable def fc(n:Int): ~~~0->Int
 | []=>n
 |m::l=>fc (if m > n then m else n) l
theorem rC:∀(l: ~~~0) (n:Int),gJ n l<=n/\(∀x∈l,gJ n l<=x)/\(gJ n l=n\/gJ n l∈l)
 | [],n=>#[Int.le_refl _,λ_ z=>(nomatch z),.inl rfl]
 |m::l,n=>by
  obtain⟨h1,h2,h3⟩:=rC l (if m<n then m else n)
  unfold gJ;refine#[?_,λx hx=>?_,?_]
  . split at h1 <;> split <;> lia
  .
   rcases dA.mp hx with rfl |hx
   . split at h1 <;> split <;> lia
   . exact h2 x hx
  .
   rcases h3 with h3 |h3
   .
    by_cases hm:m<n
    . rw[tJ hm]at h3 ⊢;exact .inr (by rw[h3];exact bP)
    . rw[sK hm]at h3 ⊢;exact .inl h3
   . exact .inr (a8 _ h3)
theorem rD:∀(l: ~~~0) (n:Int),n<=fc n l/\(∀x∈l,x<=fc n l)/\(fc n l=n\/fc n l∈l)
 | [],n=>#[Int.le_refl _,λ_ z=>(nomatch z),.inl rfl]
 |m::l,n=>by
  obtain⟨h1,h2,h3⟩:=rD l (if m > n then m else n)
  unfold fc;refine#[?_,λx hx=>?_,?_]
  . split at h1 <;> split <;> lia
  .
   rcases dA.mp hx with rfl |hx
   . split at h1 <;> split <;> lia
   . exact h2 x hx
  .
   rcases h3 with h3 |h3
   .
    by_cases hm:m > n
    . rw[tJ hm]at h3 ⊢;exact .inr (by rw[h3];exact bP)
    . rw[sK hm]at h3 ⊢;exact .inl h3
   . exact .inr (a8 _ h3)
theorem Fo(n:Int)(l: ~~~0):(n::l).getD (argBest (λi j=>decide ((n::l).getD i 0<(n::l).getD j 0)) l.length) 0=gJ n l:=by
 obtain⟨h1,h2⟩:=argBest_lt (λi=>(n::l).getD i 0) l.length
 obtain⟨m1,m2,m3⟩:=rC l n;generalize argBest (λi j=>decide ((n::l).getD i 0<(n::l).getD j 0)) l.length=k at h1 h2 ⊢
 have hmem:(n::l).getD k 0∈n::l:=by
  have:k<(n::l).length:=by rw[nK];lia
  rw[a9,mB this];exact BA _
 have a:gJ n l<=(n::l).getD k 0:=by
  rcases dA.mp hmem with e |e
  . rw[e];exact m1
  . exact m2 _ e
 have b:(n::l).getD k 0<=gJ n l:=by
  have:=m3.elim (λe=>by rw[e];exact bP) (a8 _)
  obtain⟨j,hj,e⟩:=r6 this;have q:=h2 j (by rw[nK]at hj;lia)
  rw[show (n::l).getD j 0=gJ n l by rw[a9,mB hj];exact e]at q
  exact q
 lia
theorem Fp(n:Int)(l: ~~~0):(n::l).getD (argBest (λi j=>decide ((n::l).getD i 0 > (n::l).getD j 0)) l.length) 0=fc n l:=by
 obtain⟨h1,h2⟩:=argBest_gt (λi=>(n::l).getD i 0) l.length
 obtain⟨m1,m2,m3⟩:=rD l n;generalize argBest (λi j=>decide ((n::l).getD i 0 > (n::l).getD j 0)) l.length=k at h1 h2 ⊢
 have hmem:(n::l).getD k 0∈n::l:=by
  have:k<(n::l).length:=by rw[nK];lia
  rw[a9,mB this];exact BA _
 have a:(n::l).getD k 0<=fc n l:=by
  rcases dA.mp hmem with e |e
  . rw[e];exact m1
  . exact m2 _ e
 have b:fc n l<=(n::l).getD k 0:=by
  have:=m3.elim (λe=>by rw[e];exact bP) (a8 _)
  obtain⟨j,hj,e⟩:=r6 this;have q:=h2 j (by rw[nK]at hj;lia)
  rw[show (n::l).getD j 0=fc n l by rw[a9,mB hj];exact e]at q
  exact q
 lia
section
variable{X:Cx}{z:Z}
theorem gw{h h':Heap}{o:Obj}(hk:∀b ob,b∉[h.objs.size]->(h.push o).get? b=!ob->h'.get? b=!ob):∀b ob,h.get? b=!ob->h'.get? b=!ob:=λb ob e=>
 hk b ob (λhm=>by
  have:b=h.objs.size:=by simpa using hm
  exact absurd (fI e) (by rw[this];exact yA _)) (a7 _ e)
theorem Al(hc:X.calm=true):bV X (.builtin "min") (λxs H Q=>∃(p:Addr) (n:Int) (l: ~~~0),xs=[.ref p]/\(bD X.K H p ((n::l).map V.int)\/fG X.K H p ((n::l).map V.int))/\Q (.int (gJ n l)) H):=by
 intro aj s σ H xs us Q I r h;obtain⟨p,n,l,rfl,hp,q⟩:=h;obtain⟨u,rfl,rx⟩:=vals1 r;cases rx;have hh:X.A.in1.handled=none:=I.ok.hd hc;have fin:∀(its:List Value) (v:Value) (h':Heap) (tk:Nat),Vals ((n::l).map V.int) its->its[argBest (λi j=>decide ((n::l).getD i 0<(n::l).getD j 0)) (its.length - 1)]?=!v->(∀b o,s.heap.get? b=!o->h'.get? b=!o)->EP X aj σ Q v { s with heap:=h',toks:=tk}:=by
  intro its v h' tk rv hv hk;have aM:its.length=l.length+1:=by rw[<- rv.length,dE,nK]
  rw[aM,DC]at hv;obtain⟨t,rfl⟩:=dD rv hv;exact#[.int (gJ n l),H,I.kept hk,#[t,by rw[Fo]],q]
 rcases hp with hp |hp
 .
  obtain⟨its,rv,pl,hz⟩:=I.list hp;have hlt:p<s⁻¹:=by obtain⟨_,e,_⟩:=pl.isList;exact fI e
  refine call_min_walk (AR pl.isList ?_);refine#[s⁻¹,_,_,_,_,_,_,rfl,EV hh s⁻¹ p (i6 hlt) its.toArray,#[#[_,dC _ rfl,rfl,rfl],pl.isList.push _],λb hb=>?_,by rw[eP,<- rv.length];exact BF _,CmpOf.ints_lt (λi=>(n::l).getD i 0) (λi v hv=>dD rv (by simpa using hv)),λv h' tk hP hk=>fin its v h' tk rv (by simpa using hP) (gw hk)]
  simp only[dA,nN,A8]at hb;rcases hb with rfl |rfl
  . exact v0 (t9 _) (oQ _ _).symm
  . exact v0 (AD hlt) (oQ _ _).symm
 .
  obtain⟨its,rv,pl,hz⟩:=I.tuple hp;have hlt:p<s⁻¹:=by obtain⟨_,e,_⟩:=pl;exact fI e
  have Ei:=pl;refine call_min_walk (AF Ei ?_);refine#[s⁻¹,_,_,_,_,_,_,rfl,Walks.tuple hh s⁻¹ p (i6 hlt) its.toArray,#[#[_,dC _ rfl,rfl,rfl],IsTup.keeps Ei λb o e=>a7 _ e],λb hb=>?_,by rw[eP,<- rv.length];exact BF _,CmpOf.ints_lt (λi=>(n::l).getD i 0) (λi v hv=>dD rv (by simpa using hv)),λv h' tk hP hk=>fin its v h' tk rv (by simpa using hP) (gw hk)]
  simp only[dA,nN,A8]at hb;rcases hb with rfl |rfl
  . exact v0 (t9 _) (oQ _ _).symm
  . exact v0 (AD hlt) (oQ _ _).symm
theorem Am(hc:X.calm=true):bV X (.builtin "max") (λxs H Q=>∃(p:Addr) (n:Int) (l: ~~~0),xs=[.ref p]/\(bD X.K H p ((n::l).map V.int)\/fG X.K H p ((n::l).map V.int))/\Q (.int (fc n l)) H):=by
 intro aj s σ H xs us Q I r h;obtain⟨p,n,l,rfl,hp,q⟩:=h;obtain⟨u,rfl,rx⟩:=vals1 r;cases rx;have hh:X.A.in1.handled=none:=I.ok.hd hc;have fin:∀(its:List Value) (v:Value) (h':Heap) (tk:Nat),Vals ((n::l).map V.int) its->its[argBest (λi j=>decide ((n::l).getD i 0 > (n::l).getD j 0)) (its.length - 1)]?=!v->(∀b o,s.heap.get? b=!o->h'.get? b=!o)->EP X aj σ Q v { s with heap:=h',toks:=tk}:=by
  intro its v h' tk rv hv hk;have aM:its.length=l.length+1:=by rw[<- rv.length,dE,nK]
  rw[aM,DC]at hv;obtain⟨t,rfl⟩:=dD rv hv;exact#[.int (fc n l),H,I.kept hk,#[t,by rw[Fp]],q]
 rcases hp with hp |hp
 .
  obtain⟨its,rv,pl,hz⟩:=I.list hp;have hlt:p<s⁻¹:=by obtain⟨_,e,_⟩:=pl.isList;exact fI e
  refine call_max_walk (AR pl.isList ?_);refine#[s⁻¹,_,_,_,_,_,_,rfl,EV hh s⁻¹ p (i6 hlt) its.toArray,#[#[_,dC _ rfl,rfl,rfl],pl.isList.push _],λb hb=>?_,by rw[eP,<- rv.length];exact BF _,CmpOf.ints_gt (λi=>(n::l).getD i 0) (λi v hv=>dD rv (by simpa using hv)),λv h' tk hP hk=>fin its v h' tk rv (by simpa using hP) (gw hk)]
  simp only[dA,nN,A8]at hb;rcases hb with rfl |rfl
  . exact v0 (t9 _) (oQ _ _).symm
  . exact v0 (AD hlt) (oQ _ _).symm
 .
  obtain⟨its,rv,pl,hz⟩:=I.tuple hp;have hlt:p<s⁻¹:=by obtain⟨_,e,_⟩:=pl;exact fI e
  have Ei:=pl;refine call_max_walk (AF Ei ?_);refine#[s⁻¹,_,_,_,_,_,_,rfl,Walks.tuple hh s⁻¹ p (i6 hlt) its.toArray,#[#[_,dC _ rfl,rfl,rfl],IsTup.keeps Ei λb o e=>a7 _ e],λb hb=>?_,by rw[eP,<- rv.length];exact BF _,CmpOf.ints_gt (λi=>(n::l).getD i 0) (λi v hv=>dD rv (by simpa using hv)),λv h' tk hP hk=>fin its v h' tk rv (by simpa using hP) (gw hk)]
  simp only[dA,nN,A8]at hb;rcases hb with rfl |rfl
  . exact v0 (t9 _) (oQ _ _).symm
  . exact v0 (AD hlt) (oQ _ _).symm
theorem uA(hK:z.K=X.K)(h:bF d=!l)(hi:bu l=!ns)(pv:Pk z.K M H d v):∃a,v=.ref a/\(bD X.K H a (ns.map V.int)\/fG X.K H a (ns.map V.int)):=by
 cases d with
 |lst m=>symm;obtain⟨a,xs,rfl,e1,e2⟩:=pv.list;have:=bx e2 hi;subst this;exact#[a,rfl,.inl (bD.of e1)]
 |tup m=>symm;obtain⟨a,xs,rfl,e1,e2⟩:=pv.tup;have:=bx e2 hi;subst this;exact#[a,rfl,.inr (hK▸e1.sq)]
 |fix m=>symm;obtain⟨a,xs,rfl,e1,e2⟩:=pv.fix;have:=bx e2 hi;subst this;exact#[a,rfl,.inl (hK▸e1.sq)]
 |_=>symm
theorem K9(hc:X.calm=true)(hK:z.K=X.K)(h:bF d=!l)(hi:bu l=!(n::ns)):CallD X z (.builtin "min") [d] (.dat (.int (gJ n ns))):=by
 refine#[_,Al hc,λg σ As M H vs Q s p k=>?_]
 obtain⟨v,rfl,pv⟩:=p.one;obtain⟨a,rfl,q⟩:=uA hK h hi pv;exact#[a,n,ns,rfl,q,k _ _ As M s (ao.refl _ _) (.int _)]
theorem La(hc:X.calm=true)(hK:z.K=X.K)(h:bF d=!l)(hi:bu l=!(n::ns)):CallD X z (.builtin "max") [d] (.dat (.int (fc n ns))):=by
 refine#[_,Am hc,λg σ As M H vs Q s p k=>?_]
 obtain⟨v,rfl,pv⟩:=p.one;obtain⟨a,rfl,q⟩:=uA hK h hi pv;exact#[a,n,ns,rfl,q,k _ _ As M s (ao.refl _ _) (.int _)]
end
open L2 PySem.W
open L2 PySem.W SeqAt
open L2 PySem.W SeqAt
open L2 PySem.W SeqAt
open L2 PySem.W SeqAt
section
theorem eW.of (h:∀(aj: ~~~1) (s:Shared) (σ:Sg) (As M:List Addr) (H:Hp) (Post:Value->Shared->Prop),L2.Inv X aj σ H s->S z g σ As M H->
  (∀v s1,(∀(R:It->Hp->Prop),(∀J H' aB M',S z g1 σ aB M' H'->ao M H M' H'->Jt J au z.K M' H'->R J H')->wpAny (~~~2) X.A (pyIter v) (PIE X aj σ tg R) X.xe s1)->Post v s1)->wpAny (~~~2) X.A (eval iter X.env) Post X.xe s):eW X z tg iter g au g1:=
 #[λσ H R=>∃As M,S z g σ As M H/\(∀J H' aB M',S z g1 σ aB M' H'->ao M H M' H'->Jt J au z.K M' H'->R J H'),by rintro aj s σ H R I ⟨As,M,st,k⟩;exact h aj s σ As M H _ I st λv s1 q=>q R k,λσ As M H R s k=>#[As,M,s,k]]
end
open L2 PySem.W SeqAt
section
theorem wH(hit:s.heap.IsTupleIter it t i)(ht:s.heap.IsTuple t au)(hx:au[i]?=!x)(hQ:∀h',h'.IsTupleIter it t (i+1)->Heap.SameBut it s.heap h'->Q x { s with heap:=h'}):wpAny (model prog w) A (Builtin.SmallTypes.nextOf (.ref it)) Q E s:=by obtain⟨o,ho,hc,hd⟩:=id hit;obtain⟨ol,hol,_,nl,hdl⟩:=ht;refine aS (yY hit.typeIs Bn (wE Bn hit.typeIs F.entry_tuple_iterator_next ?_ (F.args_tuple_iterator_next_1 _)));show wpAny _ _ (field (.ref it) 0 >>= _) _ _ s;refine aS (Ap ho hd rfl ?_);refine aS (Ap ho hd rfl ?_);refine aS (AB hol hdl ?_);simp only[AS,hx];refine aS (AK ho hd ⋯ (dL #[x,rfl,dL (hQ _ #[_,oP _ ho (xL (rV hd _)),(CA ..).trans hc,?_] (sT ..))]));rw[rV hd];simp[rawInt]
theorem oK(hh:A.handled=none)(hit:s.heap.IsTupleIter it t i)(ht:s.heap.IsTuple t au)(hx:au[i]?=none)
  (hE:∀h' e,Heap.ExtBut it s.heap h'->(∃o,h'.get? e=!o/\o.cls=.type "StopIteration")->E (.ref e) { s with heap:=h'}):wpAny (model prog w) A (Builtin.SmallTypes.nextOf (.ref it)) Q E s:=by
 obtain⟨o,ho,hc,hd⟩:=id hit;obtain⟨ol,hol,_,nl,hdl⟩:=ht;refine aS (yY hit.typeIs Bn (wE Bn hit.typeIs F.entry_tuple_iterator_next ?_ (F.args_tuple_iterator_next_1 _)));show wpAny _ _ (field (.ref it) 0 >>= _) _ _ s;refine aS (Ap ho hd rfl ?_);refine aS (Ap ho hd rfl ?_);refine aS (AB hol hdl ?_);simp only[AS,hx];refine aS (BS (aS (AK ho hd ⋯ ?_)));refine aS ?_;refine aS (wT (aS (D4 (by first |rfl | (simp only[firstArgMember];rfl)) (wT ?_ (by size_fits)))) (by size_fits))
 refine aS (wpAny_handled ?_)
 first |rw[show A.in1.handled=none from hh] |rw[hh]
 exact aS (dL (wpAny_throw (hE _ _ (((sT ..).extBut.push _).push _) #[_,dC _ rfl,rfl])))
theorem SX(hh:A.handled=none)(it t:Addr)(jI:t≠it)(au:Array Value):Draws prog w A it [it,t] au.size (λi v=>au[i]?=!v) (λi h=>h.IsTupleIter it t i/\h.IsTuple t au) where
 live:=λ_ _ st=>let #[o,ho,_]:=st.1;#[o,ho]
 frame:=λ_ _ _ st hk=>by
  obtain⟨⟨o,ho,r⟩,⟨o',ho',r'⟩⟩:=st;exact#[#[o,hk it ⋯ o ho,r],#[o',hk t ⋯ o' ho',r']]
 item:=λi s Q E hi st hQ=>wH st.1 st.2 (x:=au[i]) (by simp[hi]) λh' hit' hs'=>hQ _ h' s.toks (by simp[hi]) #[hit',IsTup.extBut st.2 hs'.extBut jI] hs'
 done:=λs Q E st hE=>oK hh st.1 st.2 ⋯ hE
theorem uB(l:Addr)(au:Array Value)(n:Nat)(dct:Option Addr)(sl:Array (Option Value)) :
  Meets (Builtin.«enumerate.__new__» #[[.type "enumerate",.ref l],[]]) (λ_ R s=>s.heap.get? l=some { cls:=.type "tuple",dict:=dct,data:=.seq au n,slots:=sl}/\R (.ok (.ret (.ref (s.heap.push { cls:=.type "tuple_iterator",data:=.fields ([.ref l,.int 0 0].toArray)}).objs.size)))
    { s with heap:=(s.heap.push { cls:=.type "tuple_iterator",data:=.fields ([.ref l,.int 0 0].toArray)}).push { cls:=.type "enumerate",data:=.fields ([.none,.bool false,.ref s⁻¹,rawInt 0,.none,.none].toArray)}}):=
 .of_wp λprog w A R s h=>by
  obtain⟨hp,g,d,tk,os⟩:=s;obtain⟨hl,h⟩:=h;have hsub:=sub_enumerate;have hL:Heap.IsTuple (Shared.heap #[hp,g,d,tk,os]) l au:=#[_,hl,rfl,n,rfl]
  wp_walk using AutoSeq1.wpAny_loadPart' hl
  refine wpAny_stack_any λst=>dL ?_
  split
  . rename_i c _ _ _ _ _;cases (c==Value.type "enumerate") <;> (wp_walk using AutoSeq1.wpAny_loadPart' hl,AF hL;exact#[_,rfl,h])
  .
   wp_walk using AutoSeq1.wpAny_loadPart' hl,AF hL
   exact#[_,rfl,h]
theorem wI(hL:s.heap.IsTuple l au)
  (h:∀h',IsEnum h' (s⁻¹+1) s⁻¹ 0 .none->h'.IsTupleIter s⁻¹ l 0->h'.objs.size=s⁻¹+2->(∀b o,s.heap.get? b=!o->h'.get? b=!o)->Q (.ref (s⁻¹+1)) { s with heap:=h'}) :
  wpAny (model prog w) A (call (.type "enumerate") [.ref l]) Q E s:=by
 obtain⟨⟨c,dct,dt,sl⟩,hl,hc,n,hd⟩:=hL;cases (show c=.type "tuple" from hc)
 cases (show dt=.seq au n from hd)
 refine callType_new F.called_enumerate ⋯ (F.typeCall_enumerate_1 _) (F.newCall_enumerate_1 _) (λobj=>F.args_object_init_2 obj _) F.entry_enumerate_new (uB l au n dct sl) #[hl,?_]
 generalize hq:s.heap.push { cls:=.type "tuple_iterator",data:=.fields ([.ref l,.int 0 0].toArray)}=h1;have hz:h1.objs.size=s⁻¹+1:=by rw[<- hq];exact oQ ..
 have hi:h1.get? s⁻¹=some { cls:=.type "tuple_iterator",data:=.fields ([.ref l,.int 0 0].toArray)}:=by rw[<- hq];exact dC _ rfl
 have he:IsEnum (h1.push { cls:=.type "enumerate",data:=.fields ([.none,.bool false,.ref s⁻¹,rawInt 0,.none,.none].toArray)}) h1.objs.size s⁻¹ 0 .none:=dC h1 rfl;rw[hz]at he ⊢
 exact#[#[_,he,rfl],h _ he #[_,a7 _ hi,rfl,rfl] (by rw[oQ,hz]) λb o x=>a7 _ (by rw[<- hq];exact a7 _ x)]
end
open L2 PySem.W SeqAt
def lz(tp:Bool)(K:Frag)(H:Hp)(a:Addr)(xs:List V):Prop:=match tp with |true=>fG K H a xs |false=>bD K H a xs
def yw(tp:Bool)(h:Heap)(it a:Addr)(i:Nat):Prop:=match tp with |true=>h.IsTupleIter it a i |false=>h.IsListIter it a i
def Yu(tp:Bool)(h:Heap)(a:Addr)(its:List Value):Prop:=match tp with |true=>h.IsTuple a its.toArray |false=>h.IsList a its.toArray
section
theorem lz.real(I:L2.Inv X aj σ H s)(h:lz tp X.K H a xs):∃its:List Value,Vals xs its/\Yu tp s.heap a its/\xs.length<=sizeLine:=by
 cases tp with
 |true=>exact I.tuple h
 |false=>obtain⟨its,r,pl,hz⟩:=I.list h;exact#[its,r,pl.isList,hz]
theorem lz.inj(I:L2.Inv X aj σ H s)(h:lz tp X.K H a xs)(h':lz tp X.K H a ys):xs=ys:=by
 cases tp with
 |true=>exact I.oY h h'
 |false=>exact I.sZ h h'
theorem yw.obj(x:yw tp h it a i):∃o vs,h.get? it=!o/\o.data=.fields vs:=by
 cases tp with
 |true=>obtain⟨o,e,_,d⟩:=(show h.IsTupleIter it a i from x);exact#[o,_,e,d]
 |false=>obtain⟨o,e,_,d⟩:=(show h.IsListIter it a i from x);exact#[o,_,e,d]
theorem yw.keep(x:yw tp h it a i)(k:∀o,h.get? it=!o->h'.get? it=!o):yw tp h' it a i:=by
 cases tp with
 |true=>obtain⟨o,e,d⟩:=(show h.IsTupleIter it a i from x);exact#[o,k o e,d]
 |false=>obtain⟨o,e,d⟩:=(show h.IsListIter it a i from x);exact#[o,k o e,d]
theorem jU(hh:A.handled=none)(jI:a≠it)(its:List Value):Draws prog w A it [it,a] its.length (λi v=>its[i]?=!v) (λi h=>yw tp h it a i/\Yu tp h a its):=by
 cases tp with
 |true=>have:=SX (prog:=prog) (w:=w) hh it a jI its.toArray;simp only[List.getElem?_toArray]at this;exact this
 |false=>have:=Draws.list (prog:=prog) (w:=w) hh it a jI its.toArray;simp only[List.getElem?_toArray]at this;exact this
end
theorem Fq{prog:Program}{w:World}{A:Around}{it:Addr}{fp:List Addr}{n:Nat}{P:Nat->Value->Prop}{St:Nat->Heap->Prop}(D:Draws prog w A it fp n P St)(c:Nat):Draws prog w A it fp (c+n) (λi v=>∃j,i=c+j/\P j v) (λi h=>∃j,i=c+j/\St j h) where
 live:=λ_ _ st=>by obtain⟨j,_,st⟩:=st;exact D.live j _ st
 frame:=λ_ _ _ st k=>by obtain⟨j,e,st⟩:=st;exact#[j,e,D.frame j _ _ st k]
 item:=λi s Q E hi st hQ=>by
  obtain⟨j,rfl,st⟩:=st;exact D.item j s Q E (Nat.lt_of_add_lt_add_left hi) st λx h' tk p s' sb=>hQ x h' tk #[j,rfl,p] #[j+1,rfl,s'] sb
 done:=λs Q E st hE=>by
  obtain⟨j,e,st⟩:=st;cases EN e;exact D.done s Q E st hE
section
variable{X:Cx}{aj: ~~~1}{σ:Sg}{H:Hp}{s:Shared}
theorem Inv.S0{h':Heap}{t':Nat}{ch:List Addr}(I:L2.Inv X aj σ H s)(hf:∀b∈ch,jc X aj H b)(k:∀b o,b∉ch->s.heap.get? b=!o->h'.get? b=!o):L2.Inv X aj σ H { s with heap:=h',toks:=t'}:=by
 have nH:∀b u,H b=!u->b∉ch:=λb u e z=>by rw[(hf b z).1]at e;cases e
 refine I.step (λb hb=>?_) (λb o _ _ hc e _=>k b o hc e) (λb o _ _ hc e _=>#[o.slots,k b o hc e]) (λ_ _ _ _ n=>n) (λb o hc e=>#[o,k b o hc e]) (λ_ _ e=>e) (λ_ _ _ e=>e) (λb ps e=>#[([].toArray),by rw[e];simp]) (λm hm=>?_) (λb u e=>?_) I.bare
 . obtain⟨f0,f1,f2,f3,f4,f5⟩:=hf b hb;exact#[f3,f1,f4,f5]
 . obtain⟨o,es,ep,ho,rr⟩:=hm;exact#[o,es,ep,k _ o (λz=>(hf _ z).2.1 rfl) ho,rr]
 .
  refine (I.hok b u e).stay (λc w hc q=>k c w (λz=>?_) q) (λ_ q=>q) λ_ _ q=>q
  rcases hc with rfl |hc
  . exact nH _ _ e z
  . exact nH _ _ hc z
theorem Inv.Ft{h':Heap}{t':Nat}{ch:List Addr}{xs:List V}{its:List Value}(I:L2.Inv X aj σ H s)(hf:∀b∈ch,jc X aj H b)(k:∀b o,b∉ch->s.heap.get? b=!o->h'.get? b=!o)(hz:xs.length<=sizeLine)(rv:Vals xs its)(ht:fJ h' s⁻¹ its.toArray) :
  L2.Inv X aj σ (upd H s⁻¹ (.tup xs)) { s with heap:=h',toks:=t'}:=by
 have nH:∀b u,H b=!u->b∉ch:=λb u e z=>by rw[(hf b z).1]at e;cases e
 have fr:=I.hok.fresh (eA _);have nn:∀b u,H b=!u->b≠s⁻¹:=λb u e z=>by rw[z,fr]at e;cases e
 refine I.step (λb hb=>?_) (λb o _ _ hc e _=>k b o hc e) (λb o _ _ hc e _=>#[o.slots,k b o hc e]) (λb o _ e n=>by rw[az (i6 (fI e))];exact n) (λb o hc e=>#[o,k b o hc e]) (λb _ e=>by rw[az (nn _ _ e)];exact e) (λb _ _ e=>by rw[az (nn _ _ e)];exact e) (λb ps e=>#[([].toArray),by rw[az (nn _ _ e),e];simp]) (λm hm=>?_) (λb u e=>?_) I.bare
 . obtain⟨f0,f1,f2,f3,f4,f5⟩:=hf b hb;exact#[f3,f1,f4,f5]
 . obtain⟨o,es,ep,ho,rr⟩:=hm;exact#[o,es,ep,k _ o (λz=>(hf _ z).2.1 rfl) ho,rr]
 .
  by_cases hb:b=s⁻¹
  . subst hb;rw[aC]at e;cases e;exact#[hz,its,rv,ht]
  .
   rw[az hb]at e;refine (I.hok b u e).stay (λc w hc q=>k c w (λz=>?_) q) (λc q=>by rw[az (nn _ _ q)];exact q) λc _ q=>by rw[az (nn _ _ q)];exact q
   rcases hc with rfl |hc
   . exact nH _ _ e z
   . exact nH _ _ hc z
end
theorem lz.uC(I:L2.Inv X aj σ H s)(h:lz tp X.K H u us)(f:jc X aj H c):u≠c:=λz=>by
 subst z;have inK:∀o,X.K.lookup u=!o->False:=λo e=>by
  have e0:=I.ok.mod.vR u o e;rcases f.2.2.2.1 with q |q
  . exact I.ok.sX u o e0 q
  . exact absurd (i4 (fI (I.ok.bs u o e0).1) q) (yA _)
 cases tp with
 |true=>
  rcases (show fG X.K H u us from h)with (h |⟨o,h⟩) |h
  . rw[f.1]at h;symm
  . rw[f.1]at h;symm
  . obtain⟨o,_,_,h,_⟩:=h;exact inK _ h
 |false=>
  rcases (show bD X.K H u us from h)with (h |⟨o,h⟩) |h
  . rw[f.1]at h;symm
  . rw[f.1]at h;symm
  . obtain⟨o,_,_,h,_⟩:=h;exact inK _ h
def Ite(tp:Bool)(K:Frag)(a:Addr)(c:Nat):It:=
 #[λi H=>∃xs x,lz tp K H a xs/\xs[i]?=!x,λi H x H'=>∃p y,(∀xs,lz tp K H a xs->xs[i]?=!y)/\H p=none/\x=.ref p/\H'=upd H p (.tup [.int ((c+i:Nat):Int),y]),λi H=>∃xs,lz tp K H a xs/\xs.length=i]
theorem Ao{P:Program}{w:World}{K:Frag}{tp:Bool}{es:List Expr}{k:Nat}{pos:Pos}(e it a:Addr)(c:Nat)(hei:e≠it):Turn P w K (.Tuple es k pos) (Ite tp K a c) [e,it] e (λi h=>(∃old,IsEnum h e it ((c+i:Nat):Int) old)/\yw tp h it a i) where
 mem:=by simp
 obj:=λi h st b hb=>by
  obtain⟨⟨old,he⟩,hi⟩:=st;rcases dA.mp hb with rfl |hb
  . exact#[_,he,λv z=>nomatch (show Data.fields _=Data.cell v from z)]
  . cases fA.mp hb;obtain⟨o,vs,e1,e2⟩:=hi.obj;exact#[o,e1,λv z=>by rw[e2]at z;cases z]
 keep:=λi h h' st k=>by
  obtain⟨⟨old,he⟩,hi⟩:=st;exact#[#[old,k e ⋯ _ he],hi.keep λo q=>k it ⋯ o q]
 item:=by
  intro X hP hw hK hc i aj s σ H E I hf st hg;subst hP hw hK;obtain⟨⟨old,he⟩,hi⟩:=st;obtain⟨xs,x,hq,hx⟩:=hg;obtain⟨its,rv,hat,hz⟩:=hq.real I;have hae:a≠e:=lz.uC I hq (hf e ⋯);have hai:a≠it:=lz.uC I hq (hf it ⋯);have hlt:i<its.length:=by rw[<- rv.length];exact (eJ.mp hx).1
  refine wpAny_pyNext_enum_itemD (Fq (jU (tp:=tp) (A:=X.A.in1) (I.ok.hd hc) hai its) c) he #[i,rfl,hi,hat] (Nat.add_lt_add_left hlt c) hei (by simp[hei,wP hae]) λu h1 tk hu hout bT ht hsz hkp=>#[_,rfl,?_]
  obtain⟨j,ej,hu⟩:=hu;cases EN ej;obtain⟨j,ej,bT⟩:=bT;cases EN (show c+(i+1)=c+j from ej)
  refine wpAny_letOwnedTupleGo_enum hout λh2 he2 hs2=>?_
  replace hs2:Heap.SameBut e h1 h2:=hs2;obtain⟨u',e1,ru⟩:=rv.get hx;rw[hu]at e1;cases e1;have hpe:=AV (fI he);obtain⟨oi0,_,ei0,_⟩:=hi.obj;have I3:=Inv.Ft (t':=tk+1) I (h':=h2) hf (xs:=[.int ((c+i:Nat):Int),x]) (its:=[.int ((c+i:Nat):Int) tk,u]) (λb o hb q=>by
   simp only[dA,nN,A8,not_or]at hb;exact (hs2.2 b hb.1).trans (hkp b o hb.1 hb.2 q)) (by rw[t7];show 2<=16777216;decide) (.cons #[tk,rfl] (.cons ru .nil)) #[_,(hs2.2 _ hpe).trans ht,#[rfl,_,rfl],rfl]
  have hfr:=I.hok.fresh (eA _);refine#[.ref s⁻¹,_,I3,rfl,#[_,x,λys hy=>by rw[hy.inj I hq];exact hx,hfr,rfl,rfl],#[#[u,he2],bT.1.keep λo q=>(hs2.2 it (wP hei)).trans q],λb hb=>?_]
  have hbn:b≠s⁻¹:=λz=>by
   rcases dA.mp hb with rfl |hb
   . exact hpe z.symm
   . cases fA.mp hb;exact absurd (fI ei0) (by rw[z];exact yA _)
  rw[az hbn];exact (hf b hb).1
 done:=by
  intro X hP hw hK hc i aj s σ H E I hf st hg;subst hP hw hK;obtain⟨⟨old,he⟩,hi⟩:=st;obtain⟨xs,hq,hx⟩:=hg;obtain⟨its,rv,hat,hz⟩:=hq.real I;obtain⟨g0,g1,g2,g3,g4,g5⟩:=hf it ⋯;have hai:a≠it:=lz.uC I hq (hf it ⋯);have hl:i=its.length:=by rw[<- rv.length];exact hx.symm
  subst hl;exact wpAny_pyNext_enum_endD (Fq (jU (tp:=tp) (A:=X.A.in1) (I.ok.hd hc) hai its) c) he #[_,rfl,hi,hat] λh' eb=>#[rfl,I.turned (λb o hb q=>eb b o hb q) g0 g1 g3 g4 g5]
 self:=λA i s Q E st h=>by
  obtain⟨⟨old,he⟩,_⟩:=st;exact wpAny_pyIter_enum he h
section
def pU(l:List D):List D:=l.zipIdx.map λp=>.tup [.int (p.2:Nat),p.1]
theorem Aq{l:List D}{n:Nat}{d:D}(h:(pU l)[n]?=!d):∃x,l[n]?=!x/\d=.tup [.int n,x]:=by
 unfold pU at h;rw[oC]at h;cases e:l.zipIdx[n]? with
 |none=>rw[e]at h;symm
 |some q=>
  rw[e]at h;symm;rw[List.getElem?_zipIdx]at e;cases e2:l[n]? with
  |none=>rw[e2]at e;cases e
  |some x=>rw[e2]at e;cases e;exact#[x,rfl,by simp]
theorem Ar(l:List D):(pU l).length=l.length:=by simp[pU]
theorem Lb{d:D}{l:List D}(hK:z.K=X.K)(ha:cu X z [e] g [.dat d] g1)(hs:bF d=!l)(hg:Gl X "enumerate")(hm:X.mg "enumerate"=none)(bT:starEach [e] X.env=[(false,eval e X.env)]) :
  eW X z (.Tuple es k pos) (.Call (.Name "enumerate" p) [e] [] rp) g (pU l) g1:=by
 refine eW.of λaj s σ As M H Post I stt kk=>?_
 refine Call_ (eK I hg hm boot_enumerate (An (ha.run I stt λvs us s1 H1 aN M1 I1 r1 q1 q2 q3=>?_) bT rfl))
 cases q3 with
 |dat rp0 R=>
  cases R;obtain⟨u,rfl,ru⟩:=vals1 r1;have main:∀(tp:Bool) (a:Addr) (xs:List V) (its:List Value),u=.ref a->Yu tp s1.heap a its->aG z.K M1 H1 l xs->(∀M2 H2,ao M1 H1 M2 H2->lz tp X.K H2 a xs)->
    (∀Q:Value->Shared->Prop,(∀h',IsEnum h' (s1⁻¹+1) s1⁻¹ 0 .none->yw tp h' s1⁻¹ a 0->h'.objs.size=s1⁻¹+2->(∀b o,s1.heap.get? b=!o->h'.get? b=!o)->Q (.ref (s1⁻¹+1)) { s1 with heap:=h'})->
     wpAny (~~~2) X.A (call (.type "enumerate") [.ref a]) Q X.xe s1)->wpAny (~~~2) X.A (call (.type "enumerate") [u]) Post X.xe s1:=λtp a xs its hu hat rr hsq hcall=>by
   subst hu;refine hcall _ λh' he hi hsz hk=>kk _ _ λR kR=>?_
   refine wpAny_pyIter_enum he ?_;have I2:=I1.kept (t':=s1.toks) hk;refine#[_,[s1⁻¹+1,s1⁻¹],_,Ite tp X.K a 0,H1,rfl,I2,Ao _ _ a 0 (Nat.succ_ne_self _),#[#[_,he],hi],λb hb=>?_,kR _ H1 aN M1 q1 q2 λM2 H2 aL=>?_]
   .
    rcases dA.mp hb with rfl |hb
    . exact I1.qH (BI _) (I1.hok.fresh (BI _))
    . cases fA.mp hb;exact I1.qH (eA _) (I1.hok.fresh (eA _))
   .
    have Iz:=rr.stay aL;refine#[λn d hd=>?_,xs,hsq M2 H2 aL,by rw[Ar];exact rr.length.symm]
    obtain⟨x,e1,rfl⟩:=Aq hd;obtain⟨v,e2,e3⟩:=Iz.get e1;refine#[#[xs,v,hsq M2 H2 aL,e2],λy H' hy z' g' σ' aB hz' s'=>?_]
    obtain⟨p,y',w1,w3,rfl,rfl⟩:=hy;rw[xI];have w2:=w1 xs (hsq M2 H2 aL);rw[e2]at w2;cases w2;refine#[s'.laid w3,ao.laid w3,.tup (.inl #[s'.fresh w3,.inl aC]) (.cons (.int _) (.cons (e3.stay (ao.laid w3)) .nil))]
  cases rp0 with
  |@lst _ a xs hb rr=>cases hs;cases ru;obtain⟨its,rv,pl,hz⟩:=I1.list (bD.of hb.2);exact main false a xs its rfl pl.isList rr (λM2 H2 aL=>bD.of (aL _ _ hb.2 hb.1).1) λQ h=>call_enumerate_list pl.isList h
  |@tup _ a xs hb rr=>
   cases hs;cases ru;obtain⟨its,rv,pl,hz⟩:=I1.tuple (hK▸hb.sq);refine main true a xs its rfl pl rr (λM2 H2 aL=>?_) λQ h=>wI pl h
   have:TupAt z.K M2 H2 a xs:=by
    rcases hb with ⟨na,hr⟩ |hk
    . exact .inl (aL.rd na hr)
    . exact .inr hk
   exact hK▸this.sq
  |@fix _ a xs hb rr=>
   cases hs;cases ru;obtain⟨its,rv,pl,hz⟩:=I1.list (hK▸hb.sq);refine main false a xs its rfl pl.isList rr (λM2 H2 aL=>?_) λQ h=>call_enumerate_list pl.isList h
   have:kG z.K M2 H2 a xs:=by
    rcases hb with ⟨na,o,hr⟩ |hk
    . exact .inl #[(aL _ _ hr na).2,o,(aL _ _ hr na).1]
    . exact .inr hk
   exact hK▸this.sq
  |_=>cases hs
end
open L2 PySem.W SeqAt
end Ev
namespace HT
open PySem PyProof.Rows
end HT
namespace Ev
open L2
section
noncomputable abbrev m1(j:Nat)(p1 p3:Pos):Expr:=.UnaryOp .USub (.Constant (.int 1) j p1) p3
theorem S8{e:Expr}{te:TE}{r:V->Hp->VK->Prop}(he:PE X e te)
  (hr:∀(aj: ~~~1) (s:Shared) (σ:L2.St) (H:Hp) (x:V) (v vs:Value) (sl:Addr) (Q:VK),L2.Inv X aj σ H s->RelV x v->s.heap.IsSliceOf sl .none .none vs->IsPart vs (!(-1))->r x H Q->
   ∃T id,typeLookup (.type T) "__getitem__"=pure (!(.builtin id))/\s.TypeIs v T/\wpAny (~~~2) X.A (getItem v (.ref sl)) (EP X aj σ Q) X.xe s)
  (pm:∀(aj: ~~~1) (s:Shared) (σ:L2.St) (H:Hp),L2.Inv X aj σ H s->wpAny (~~~2) X.A (eval (m1 j p1 p3) X.env) (λu s'=>L2.Inv X aj σ H s'/\IsPart u (!(-1))) X.xe s) :
  PE X (.Subscript e (.Slice none none (!(m1 j p1 p3)) p2) pos) (λσ H Q=>te σ H λx H1=>r x H1 Q):=by
 intro aj s σ H Q I h;refine Subscript_ (bA (he aj s σ H _ I h) ?_);rintro v s1 ⟨x,H1,I1,r1,q1⟩;refine wpAny_Slice ?_;refine dL (dL ?_);refine PySem.evalPart_some_step (bA (pm aj s1 σ H1 I1) ?_);rintro u s2 ⟨I2,pu⟩;have I4:L2.Inv X aj σ H1 { s2 with heap:=s2.heap.push { cls:=.type "slice",data:=.fields ([.none,.none,u].toArray)}}:=I2.kept λb ob q=>a7 _ q
 obtain⟨T,id,hT,ht,hg⟩:=hr aj { s2 with heap:=s2.heap.push { cls:=.type "slice",data:=.fields ([.none,.none,u].toArray)}} σ H1 x v u s2⁻¹ Q I4 r1 (Heap.IsSliceOf.new ..) pu q1;exact tail_any ht hT hg (by with_unfolding_all rfl)
theorem pm1(aj: ~~~1)(s:Shared)(σ:L2.St)(H:Hp)(I:L2.Inv X aj σ H s):wpAny (~~~2) X.A (eval (m1 j p1 p3) X.env) (λu s'=>L2.Inv X aj σ H s'/\IsPart u (!(-1))) X.xe s:=
 bA ((Ot CW (qE)) aj s σ H (λv H'=>v=.int (-1)/\H'=H) I #[1,rfl,rfl,rfl]) (by
  rintro u s' ⟨v,H',I',r,e1,e2⟩;subst e1 e2;obtain⟨t,rfl⟩:=r;exact#[I',.int _ t])
theorem Lc{r:R}{l:List D}(hK:z.K=X.K)(h:aA X z a g r g1)(hp:pk r g1=!(.lst l)):aA X z (.Subscript a (.Slice none none (!(m1 j p1 p3)) p2) pos) g (.new l.reverse) g1:=by
 obtain⟨t,q,k⟩:=h;refine#[_,S8 (r:=λx H Q=>∃b xs,x=.ref b/\bD X.K H b xs/\∀p,H p=none->Q (.ref p) (upd H p (.lst xs.reverse))) q (λaj s σ H x v vs sl Q I rx hs ps hx=>?_) pm1,λσ As M H Q s kk=>k σ As M H _ s λv H1 aN M1 s1 bS R=>?_]
 .
  obtain⟨b,xs,rfl,hx,hq⟩:=hx;cases rx;obtain⟨its,r,ht,hz⟩:=I.list hx;have aM:=r.length;refine#["list",_,slot_list_getitem.lookup,ht.isList.typeIs,?_];refine wpAny_getItem_list_slice ht.isList hs .none .none ps ⋯ ?_ (by rw[eP,<- aM];exact hz)
  rw[PySem.W.krv_pick];refine#[.ref s⁻¹,_,I.laid (λb ob q=>a7 _ q) (eA _) ?_,rfl,hq _ (I.hok.fresh (eA _))]
  exact#[by rw[A7];exact hz,its.reverse,0,r.reverse,dC _ rfl]
 .
  obtain⟨b,xs,rfl,e1,e2⟩:=(s1.pk (ao.refl _ _) R hp).list;refine#[b,xs,rfl,bD.of e1,λp hp=>?_]
  exact kk _ _ aN (p::M1) (s1.aW hp) (bS.trans (ao.aW hp)) #[p,xs.reverse,rfl,bP,λhA=>s1.fresh hp (s1.sub p hA),s1.bW hp,aC,e2.reverse.stay (ao.aW hp)]
end
open L2 PySem.W SeqAt
section
structure Wj(r tI tO i j a b:Addr):Prop where
 n1:tI≠r/\tO≠r/\i≠r/\j≠r/\a≠r/\b≠r
 n2:tI≠tO/\i≠tO/\j≠tO/\a≠tO/\b≠tO
 n3:tI≠i/\tI≠j/\i≠j
 n4:a≠i/\b≠i/\a≠j/\b≠j
section
theorem Fv{Q:Value->Shared->Prop}(N:Wj r tI tO i j a b)(D1:Draws prog w A i [i,a] n f S1)(D2:Draws prog w A j [j,b] m g S2)(hk1:k<n)(hk2:k<m)
  (er:IsZip s.heap r tI tO .none) (eI:IsPair s.heap tI (.ref i) (.ref j)) (eO:IsPair s.heap tO c d) (t1:S1 k s.heap) (t2:S2 k s.heap)
  (hQ:∀u v h' tk,f k u->g k v->IsZip h' r tI tO (rawInt s⁻¹)->IsPair h' tO u v->S1 (k+1) h'->S2 (k+1) h'->IsPair h' s⁻¹ u v->h'.objs.size=s⁻¹+1->
   (∀x o,x≠r->x≠tO->x≠i->x≠j->s.heap.get? x=!o->h'.get? x=!o)->Q (.ref s⁻¹) { s with heap:=h',toks:=tk}) :
  wpAny (model prog w) A (Builtin.«zip.__next__» #[[.ref r],[]]) (λfin s'=>∃v,fin=.done (.ret v)/\Q v s') E s:=by
 obtain⟨⟨p1,p2,p3,p4,p5,p6⟩,⟨q1,q2,q3,q4,q5⟩,⟨u1,u2,u3⟩,⟨v1,v2,v3,v4⟩⟩:=N;refine aS (m:=field (.ref r) 2) (Ap er rfl rfl ?_);refine aS (Ap er rfl rfl (aS (AB eI rfl ?_)));refine aS ?_;refine aS (Ap er rfl rfl (dL ?_));refine aS (BS (aS (Ap er rfl rfl (aS (BH er ⋯ λha Jc ka=>?_)))))
 replace Jc:IsZip ha r tI tO .ellipsis:=Jc;refine aS ?_;have t1a:=D1.frame k _ _ t1 λx hx o e=>(ka.2 x (by rcases dA.mp hx with z |z;exact z▸p3;exact (fA.mp z)▸p5)).trans e
 have t2a:=D2.frame k _ _ t2 λx hx o e=>(ka.2 x (by rcases dA.mp hx with z |z;exact z▸p4;exact (fA.mp z)▸p6)).trans e
 refine aS (aS (EH (aS (D1.item k { s with heap:=ha} _ _ hk1 t1a λu hb tk1 fu t1b kb=>dL ?_))))
 have Yv:=(kb.2 _ (wP q2)).trans ((ka.2 _ p2).trans eO);refine aS (AB Yv rfl (aS (wpAny_updateSeq_pair Yv λhc eOc kc=>?_)))
 replace eOc:IsPair hc tO u d:=eOc;refine aS (D5 (dL ?_));have t1c:=D1.frame _ _ _ t1b λx hx o e=>(kc.2 x (by rcases dA.mp hx with z |z;exact z▸q2;exact (fA.mp z)▸q4)).trans e
 have t2c:=D2.frame k _ _ t2a λx hx o e=>by
  have hx:x=j\/x=b:=by rcases dA.mp hx with z |z;exact .inl z;exact .inr (fA.mp z)
  rw[kc.2 x (by rcases hx with rfl |rfl;exact q3;exact q5),kb.2 x (by rcases hx with rfl |rfl;exact wP u3;exact v2)]
  exact e
 refine aS (aS (EH (aS (D2.item k { s with heap:=hc,toks:=tk1} _ _ hk2 t2c λv hd tk2 gv t2d kd=>dL ?_))))
 have eOd:=(kd.2 _ (wP q3)).trans eOc;refine aS (AB eOd rfl (aS (wpAny_updateSeq_pair eOd λhe eOe ke=>?_)))
 replace eOe:IsPair he tO u v:=eOe;refine aS (D5 (dL (dL ?_)));refine aS (AB eOe rfl (aS (wpAny_newTuple ?_)));have sz:he.objs.size=s⁻¹:=by rw[ke.1,kd.1,kc.1,kb.1];exact ka.1
 have ere:IsZip he r tI tO .ellipsis:=by show he.get? r=_;rw[ke.2 _ (wP p2),kd.2 _ (wP p4),kc.2 _ (wP p2),kb.2 _ (wP p3)];exact Jc
 have old:∀x o,x≠r->x≠tO->x≠i->x≠j->s.heap.get? x=!o->he.get? x=!o:=λx o x1 x2 x3 x4 e=>by
  rw[ke.2 _ x2,kd.2 _ x4,kc.2 _ x2,kb.2 _ x3];exact (ka.2 _ x1).trans e
 have t1e:=D1.frame _ _ _ t1c λx hx o e=>by
  have hx:x=i\/x=a:=by rcases dA.mp hx with z |z;exact .inl z;exact .inr (fA.mp z)
  rw[ke.2 x (by rcases hx with rfl |rfl;exact q2;exact q4),kd.2 x (by rcases hx with rfl |rfl;exact u3;exact v3)]
  exact e
 have t2e:=D2.frame _ _ _ t2d λx hx o e=>(ke.2 x (by rcases dA.mp hx with z |z;exact z▸q3;exact (fA.mp z)▸q5)).trans e
 refine aS ?_;have erf:IsZip (he.push { cls:=.type "tuple",data:=.seq ([u,v].toArray)}) r tI tO .ellipsis:=a7 _ ere;refine aS (BH erf ⋯ λhg erg kg=>?_)
 replace erg:IsZip hg r tI tO (rawInt he.objs.size):=erg;refine BH erg ⋯ λhh erh kh=>?_
 replace erh:IsZip hh r tI tO (rawInt he.objs.size):=erh;have up:∀x o,x≠r->he.get? x=!o->hh.get? x=!o:=λx o x1 e=>by rw[kh.2 _ x1,kg.2 _ x1];exact a7 _ e
 have rlt:=fI ere;have new:IsPair hh he.objs.size u v:=by show hh.get? _=_;rw[kh.2 _ (AV rlt),kg.2 _ (AV rlt)];exact dC _ rfl
 have szh:hh.objs.size=he.objs.size+1:=by rw[kh.1,kg.1,oQ]
 have fr1:∀x o,x=i\/x=a->he.get? x=!o->hh.get? x=!o:=λx o hx e=>up x o (by rcases hx with rfl |rfl;exact p3;exact p5) e
 have fr2:∀x o,x=j\/x=b->he.get? x=!o->hh.get? x=!o:=λx o hx e=>up x o (by rcases hx with rfl |rfl;exact p4;exact p6) e
 rw[sz]at erh new szh;refine dL #[_,rfl,?_];rw[sz];exact hQ u v hh tk2 fu gv erh (up _ _ p2 eOe) (D1.frame _ _ _ t1e λx hx o e=>fr1 x o (by rcases dA.mp hx with z |z;exact .inl z;exact .inr (fA.mp z)) e)
  (D2.frame _ _ _ t2e λx hx o e=>fr2 x o (by rcases dA.mp hx with z |z;exact .inl z;exact .inr (fA.mp z)) e) new szh λx o x1 x2 x3 x4 e=>up x o x1 (old x o x1 x2 x3 x4 e)
theorem Ld(N:Wj r tI tO i j a b)(D1:Draws prog w A i [i,a] n f S1)(D2:Draws prog w A j [j,b] m g S2)(hk:k=n\/(k<n/\k=m))
  (er:IsZip s.heap r tI tO .none) (eI:IsPair s.heap tI (.ref i) (.ref j)) (eO:IsPair s.heap tO c d) (t1:S1 k s.heap) (t2:S2 k s.heap)
  (hE:∀h' e tk,(∀x o,x≠r->x≠tO->x≠i->x≠j->s.heap.get? x=!o->h'.get? x=!o)->(∃o,h'.get? e=!o/\o.cls=.type "StopIteration")->E (.ref e) { s with heap:=h',toks:=tk}) :
  wpAny (model prog w) A (Builtin.«zip.__next__» #[[.ref r],[]]) Q E s:=by
 obtain⟨⟨p1,p2,p3,p4,p5,p6⟩,⟨q1,q2,q3,q4,q5⟩,⟨u1,u2,u3⟩,⟨v1,v2,v3,v4⟩⟩:=N;refine aS (m:=field (.ref r) 2) (Ap er rfl rfl ?_);refine aS (Ap er rfl rfl (aS (AB eI rfl ?_)));refine aS ?_;refine aS (Ap er rfl rfl (dL ?_));refine aS (BS (aS (Ap er rfl rfl (aS (BH er ⋯ λha Jc ka=>?_)))))
 replace Jc:IsZip ha r tI tO .ellipsis:=Jc;refine aS ?_;have t1a:=D1.frame k _ _ t1 λx hx o e=>(ka.2 x (by rcases dA.mp hx with z |z;exact z▸p3;exact (fA.mp z)▸p5)).trans e
 have t2a:=D2.frame k _ _ t2 λx hx o e=>(ka.2 x (by rcases dA.mp hx with z |z;exact z▸p4;exact (fA.mp z)▸p6)).trans e
 have stop:∀(hb:Heap) (e:Addr) (tk:Nat),IsZip hb r tI tO .ellipsis->(∃o,hb.get? e=!o/\o.cls=.type "StopIteration")->e≠r:=by rintro hb e tk z ⟨o,h1,h2⟩ q;rw[q,z]at h1;cases h1;exact absurd (show Value.type "zip"=.type "StopIteration" from h2) ⋯
 rcases hk with rfl |⟨hk1,rfl⟩
 .
  refine aS (aS (EH (aS (D1.done { s with heap:=ha} _ _ t1a λhb e kb ex=>?_))))
  have erb:=kb _ _ (wP p3) Jc;have ner:=stop hb e s.toks erb ex;obtain⟨oe,x1,x2⟩:=ex;refine BH erb ⋯ λhc _ kc=>?_
  exact hE hc e s.toks (λx o y1 y2 y3 y4 z=>(kc.2 _ y1).trans (kb _ _ y3 ((ka.2 _ y1).trans z))) #[oe,(kc.2 _ ner).trans x1,x2]
 .
  refine aS (aS (EH (aS (D1.item k { s with heap:=ha} _ _ hk1 t1a λu hb tk1 fu t1b kb=>dL ?_))))
  have Yv:=(kb.2 _ (wP q2)).trans ((ka.2 _ p2).trans eO);refine aS (AB Yv rfl (aS (wpAny_updateSeq_pair Yv λhc eOc kc=>?_)))
  refine aS (D5 (dL ?_));have t2c:=D2.frame k _ _ t2a λx hx o e=>by
   have hx:x=j\/x=b:=by rcases dA.mp hx with z |z;exact .inl z;exact .inr (fA.mp z)
   rw[kc.2 x (by rcases hx with rfl |rfl;exact q3;exact q5),kb.2 x (by rcases hx with rfl |rfl;exact wP u3;exact v2)]
   exact e
  refine aS (aS (EH (aS (D2.done { s with heap:=hc,toks:=tk1} _ _ t2c λhd e kd ex=>?_))))
  have erd:=kd _ _ (wP p4) (by rw[kc.2 _ (wP p2),kb.2 _ (wP p3)];exact Jc)
  have ner:=stop hd e s.toks erd ex;obtain⟨oe,x1,x2⟩:=ex;refine BH erd ⋯ λhe _ ke=>?_
  exact hE he e tk1 (λx o y1 y2 y3 y4 z=>(ke.2 _ y1).trans (kd _ _ y4 (by rw[kc.2 _ y2,kb.2 _ y3];exact (ka.2 _ y1).trans z))) #[oe,(ke.2 _ ner).trans x1,x2]
end
section
theorem Fw{Q:Option Value->Shared->Prop}(N:Wj r tI tO i j a b)(D1:Draws prog w A.in1 i [i,a] n f S1)(D2:Draws prog w A.in1 j [j,b] m g S2)(hk1:k<n)(hk2:k<m)
  (er:IsZip s.heap r tI tO .none) (eI:IsPair s.heap tI (.ref i) (.ref j)) (eO:IsPair s.heap tO c d) (t1:S1 k s.heap) (t2:S2 k s.heap)
  (hQ:∀u v h' tk,f k u->g k v->IsZip h' r tI tO (rawInt s⁻¹)->IsPair h' tO u v->S1 (k+1) h'->S2 (k+1) h'->IsPair h' s⁻¹ u v->h'.objs.size=s⁻¹+1->
   (∀x o,x≠r->x≠tO->x≠i->x≠j->s.heap.get? x=!o->h'.get? x=!o)->Q (!(.ref s⁻¹)) { s with heap:=h',toks:=tk}):wpAny (model prog w) A (pyNext (.ref r)) Q E s:=by
 have ty:s.TypeIs (.ref r) "zip" :=#[_,er,rfl];exact aS (BD (yY ty F.slot_zip_next (wE F.slot_zip_next ty F.entry_zip_next
  (Fv N D1 D2 hk1 hk2 er eI eO t1 t2 λu v h' tk b1 b2 b3 b4 b5 b6 b7 b8 b9=>dL (hQ u v h' tk b1 b2 b3 b4 b5 b6 b7 b8 b9)) (F.args_zip_next_1 _))))
theorem uD(N:Wj r tI tO i j a b)(D1:Draws prog w A.in1 i [i,a] n f S1)(D2:Draws prog w A.in1 j [j,b] m g S2)(hk:k=n\/(k<n/\k=m))
  (er:IsZip s.heap r tI tO .none) (eI:IsPair s.heap tI (.ref i) (.ref j)) (eO:IsPair s.heap tO c d) (t1:S1 k s.heap) (t2:S2 k s.heap)
  (hQ:∀h' tk,(∀x o,x≠r->x≠tO->x≠i->x≠j->s.heap.get? x=!o->h'.get? x=!o)->Q none { s with heap:=h',toks:=tk}):wpAny (model prog w) A (pyNext (.ref r)) Q E s:=by
 have ty:s.TypeIs (.ref r) "zip" :=#[_,er,rfl];refine aS (BD (yY ty F.slot_zip_next (wE F.slot_zip_next ty F.entry_zip_next
  (Ld N D1 D2 hk er eI eO t1 t2 λh' e tk kp ex=>?_) (F.args_zip_next_1 _))))
 obtain⟨o,x1,x2⟩:=ex;exact aS (B4 #[o,x1,x2] isSubtype_stop (dL (hQ _ tk kp)))
end
end
open L2 PySem.W SeqAt
noncomputable def Itz(tp:Bool)(K:Frag)(a b:Addr):It:=
 #[λi H=>∃xs ys x y,lz tp K H a xs/\lz tp K H b ys/\xs[i]?=!x/\ys[i]?=!y,λi H x H'=>∃p u v,(∀xs,lz tp K H a xs->xs[i]?=!u)/\(∀ys,lz tp K H b ys->ys[i]?=!v)/\H p=none/\x=.ref p/\H'=upd H p (.tup [u,v]),
  λi H=>∃xs ys,lz tp K H a xs/\lz tp K H b ys/\(i=xs.length\/(i<xs.length/\i=ys.length))]
theorem yx{tp:Bool}{r tI tO i j a b:Addr}{n:Nat}{h:Heap}(st:IsZip h r tI tO .none/\IsPair h tI (.ref i) (.ref j)/\(∃c d,IsPair h tO c d)/\yw tp h i a n/\yw tp h j b n):∀x∈[r,tI,tO,i,j],∃o,h.get? x=!o/\∀v,o.data≠.cell v:=λx hx=>by
 obtain⟨er,eI,⟨c,d,eO⟩,t1,t2⟩:=st;simp only[dA,nN,A8]at hx;rcases hx with rfl |rfl |rfl |rfl |rfl
 . exact#[_,er,λv z=>nomatch (show Data.fields _=Data.cell v from z)]
 . exact#[_,eI,λv z=>nomatch (show Data.seq _ _=Data.cell v from z)]
 . exact#[_,eO,λv z=>nomatch (show Data.seq _ _=Data.cell v from z)]
 . obtain⟨o,vs,e1,e2⟩:=t1.obj;exact#[o,e1,λv z=>by rw[e2]at z;cases z]
 . obtain⟨o,vs,e1,e2⟩:=t2.obj;exact#[o,e1,λv z=>by rw[e2]at z;cases z]
theorem Fy{P:Program}{w:World}{K:Frag}{tp:Bool}{es:List Expr}{k:Nat}{pos:Pos}(r tI tO i j a b:Addr)(A1:tI≠r/\tO≠r/\i≠r/\j≠r)(A2:tI≠tO/\i≠tO/\j≠tO)(A3:tI≠i/\tI≠j/\i≠j) :
  Turn P w K (.Tuple es k pos) (Itz tp K a b) [r,tI,tO,i,j] r (λn h=>IsZip h r tI tO .none/\IsPair h tI (.ref i) (.ref j)/\(∃c d,IsPair h tO c d)/\yw tp h i a n/\yw tp h j b n) where
 mem:=by simp
 obj:=λn h st x hx=>yx st x hx
 keep:=λn h h' st kp=>by
  obtain⟨er,eI,⟨c,d,eO⟩,t1,t2⟩:=st;exact#[kp r ⋯ _ er,kp tI ⋯ _ eI,#[c,d,kp tO ⋯ _ eO],t1.keep λo q=>kp i ⋯ o q,t2.keep λo q=>kp j ⋯ o q]
 item:=by
  intro X hP hw hK hc n aj s σ H E I hf st hg;subst hP hw hK;obtain⟨er,eI,⟨c,d,eO⟩,t1,t2⟩:=id st;obtain⟨xs,ys,x,y,qx,qy,gx,gy⟩:=hg;obtain⟨Yw,rx,Yx,zx⟩:=qx.real I;obtain⟨Yy,ry,Yz,zy⟩:=qy.real I;have nf:∀{u:Addr}{us:List V}{c:Addr},lz tp X.K H u us->c∈[r,tI,tO,i,j]->u≠c:=λh hc=>lz.uC I h (hf _ hc)
  have N:Wj r tI tO i j a b:=#[#[A1.1,A1.2.1,A1.2.2.1,A1.2.2.2,nf qx ⋯,nf qy ⋯],#[A2.1,A2.2.1,A2.2.2,nf qx ⋯,nf qy ⋯],A3,#[nf qx ⋯,nf qy ⋯,nf qx ⋯,nf qy ⋯]];have l1:n<Yw.length:=by rw[<- rx.length];exact (eJ.mp gx).1
  have l2:n<Yy.length:=by rw[<- ry.length];exact (eJ.mp gy).1
  refine Fw N (jU (A:=X.A.in1) (I.ok.hd hc) (nf qx ⋯) Yw) (jU (A:=X.A.in1) (I.ok.hd hc) (nf qy ⋯) Yy) l1 l2 er eI eO #[t1,Yx] #[t2,Yz] λu v h1 tk fu gv Jc eO1 s1 s2 new sz kp=>#[_,rfl,?_]
  refine wpAny_letOwnedTupleGo_zip Jc λh2 er2 k2=>?_
  obtain⟨u',e1,ru⟩:=rx.get gx;obtain⟨v',e2,rv⟩:=ry.get gy;rw[fu]at e1;cases e1;rw[gv]at e2;cases e2;have pr:=AV (fI er);have kk:∀x o,x∉[r,tO,i,j]->s.heap.get? x=!o->h2.get? x=!o:=λx o hx e=>by
   simp only[dA,nN,A8,not_or]at hx;exact (k2.2 x hx.1).trans (kp x o hx.1 hx.2.1 hx.2.2.1 hx.2.2.2 e)
  have J:=Inv.Ft (t':=tk) I (λc hc=>hf c (by simp only[dA,nN]at hc ⊢;rcases hc with h |h |h |h <;> simp[h])) kk (by rw[t7];show 2<=16777216;decide) (.cons ru (.cons rv .nil)) #[_,(k2.2 _ pr).trans new,#[rfl,_,rfl],rfl]
  have eI2:=kk _ _ (by simp[A1.1,A2.1,A3.1,A3.2.1]) eI
  refine#[.ref s⁻¹,_,J,rfl,#[_,x,y,λzs hz=>by rw[hz.inj I qx];exact gx,λzs hz=>by rw[hz.inj I qy];exact gy,I.hok.fresh (eA _),rfl,rfl],#[er2,eI2,#[u,v,(k2.2 _ A1.2.1).trans eO1],s1.1.keep λo q=>(k2.2 _ A1.2.2.1).trans q,s2.1.keep λo q=>(k2.2 _ A1.2.2.2).trans q],λc hc=>?_]
  have hcn:c≠s⁻¹:=λz=>by
   obtain⟨o,e,_⟩:=yx st c hc;exact absurd (fI e) (by rw[z];exact yA _)
  rw[az hcn];exact (hf c hc).1
 done:=by
  intro X hP hw hK hc n aj s σ H E I hf st hg;subst hP hw hK;obtain⟨er,eI,⟨c,d,eO⟩,t1,t2⟩:=st;obtain⟨xs,ys,qx,qy,hn⟩:=hg;obtain⟨Yw,rx,Yx,zx⟩:=qx.real I;obtain⟨Yy,ry,Yz,zy⟩:=qy.real I;have nf:∀{u:Addr}{us:List V}{c:Addr},lz tp X.K H u us->c∈[r,tI,tO,i,j]->u≠c:=λh hc=>lz.uC I h (hf _ hc)
  have N:Wj r tI tO i j a b:=#[#[A1.1,A1.2.1,A1.2.2.1,A1.2.2.2,nf qx ⋯,nf qy ⋯],#[A2.1,A2.2.1,A2.2.2,nf qx ⋯,nf qy ⋯],A3,#[nf qx ⋯,nf qy ⋯,nf qx ⋯,nf qy ⋯]];refine uD N (jU (A:=X.A.in1) (I.ok.hd hc) (nf qx ⋯) Yw) (jU (A:=X.A.in1) (I.ok.hd hc) (nf qy ⋯) Yy) (by rw[<- rx.length,<- ry.length];exact hn) er eI eO #[t1,Yx] #[t2,Yz] λh1 tk kp=>#[rfl,?_]
  exact Inv.S0 I (ch:=[r,tO,i,j]) (λc hc=>hf c (by simp only[dA,nN]at hc ⊢;rcases hc with h |h |h |h <;> simp[h])) λx o hx e=>by
   simp only[dA,nN,A8,not_or]at hx;exact kp x o hx.1 hx.2.1 hx.2.2.1 hx.2.2.2 e
 self:=λA n s Q E st h=>wpAny_pyIter_zip st.1 h
open L2 PySem.W SeqAt
section
noncomputable abbrev YB(h:Heap)(a:Addr):Heap:=h.push { cls:=.type "tuple_iterator",data:=.fields ([.ref a,.int 0 0].toArray)}
abbrev zT2(h:Heap)(a b:Addr):Heap:=(YB h a).push { cls:=.type "tuple_iterator",data:=.fields ([.ref b,.int 0 0].toArray)}
abbrev zT3(h:Heap)(a b:Addr):Heap:=(zT2 h a b).push { cls:=.type "tuple",data:=.seq ([.ref h.objs.size,.ref (YB h a).objs.size].toArray)}
abbrev zT4(h:Heap)(a b:Addr):Heap:=(zT3 h a b).push { cls:=.type "tuple",data:=.seq ([.none,.none].toArray)}
abbrev Wk (h:Heap) (a b:Addr):Heap:=(zT4 h a b).push { cls:=.type "zip",data:=.fields ([.none,.bool false,.bool false,.ref (zT2 h a b).objs.size,.ref (zT3 h a b).objs.size].toArray)}
theorem wJ(a b:Addr)(xs ys:Array Value) :
  Meets (Builtin.«zip.__new__» #[[.type "zip",.ref a,.ref b],[]]) (λ_ R s=>s.heap.IsTuple a xs/\s.heap.IsTuple b ys/\R (.ok (.ret (.ref (zT4 s.heap a b).objs.size))) { s with heap:=Wk s.heap a b}):=
 .of_wp λprog w A R s h=>by
  obtain⟨hp,g,d,tk,os⟩:=s;obtain⟨ta,tb,h⟩:=h;have hsub:=sub_zip;have T1:Heap.IsTuple (Shared.heap #[hp,g,d,tk,os]) a xs:=ta;have T2:Heap.IsTuple (Shared.heap #[YB hp a,g,d,tk,os]) b ys:=by obtain⟨o,e,rr⟩:=tb;exact#[o,a7 _ e,rr]
  wp_walk using AF T1,AF T2
  exact#[_,rfl,h]
theorem Au(ta:s.heap.IsTuple a xs)(tb:s.heap.IsTuple b ys)
  (h:∀h',IsZip h' (s⁻¹+4) (s⁻¹+2) (s⁻¹+3) .none->IsPair h' (s⁻¹+2) (.ref s⁻¹) (.ref (s⁻¹+1))->
   IsPair h' (s⁻¹+3) .none .none->h'.IsTupleIter s⁻¹ a 0->h'.IsTupleIter (s⁻¹+1) b 0->h'.objs.size=s⁻¹+5->
   (∀c o,s.heap.get? c=!o->h'.get? c=!o)->Q (.ref (s⁻¹+4)) { s with heap:=h'}) :
  wpAny (model prog w) A (call (.type "zip") [.ref a,.ref b]) Q E s:=by
 refine callType_new F.called_zip ⋯ (F.typeCall_zip_2 _ _) (F.newCall_zip_2 _ _) (λobj=>F.args_object_init_3 obj _ _) F.entry_zip_new (wJ a b xs ys) #[ta,tb,?_]
 have s1:(YB s.heap a).objs.size=s⁻¹+1:=oQ ..;have s2:(zT2 s.heap a b).objs.size=s⁻¹+2:=by rw[oQ,s1]
 have s3:(zT3 s.heap a b).objs.size=s⁻¹+3:=by rw[oQ,s2]
 have s4:(zT4 s.heap a b).objs.size=s⁻¹+4:=by rw[oQ,s3]
 have o5:(Wk s.heap a b).get? (zT4 s.heap a b).objs.size=!_:=dC _ rfl;have o4:(Wk s.heap a b).get? (zT3 s.heap a b).objs.size=!_:=a7 _ (dC _ rfl);have o3:(Wk s.heap a b).get? (zT2 s.heap a b).objs.size=!_:=a7 _ (a7 _ (dC _ rfl));have o2:(Wk s.heap a b).get? (YB s.heap a).objs.size=!_:=a7 _ (a7 _ (a7 _ (dC _ rfl)));have o1:(Wk s.heap a b).get? s⁻¹=!_:=a7 _ (a7 _ (a7 _ (a7 _ (dC _ rfl))));rw[s4]at o5 ⊢
 rw[s2,s3]at o5;rw[s2,s1]at o3;rw[s3]at o4;rw[s1]at o2;exact#[#[_,o5,rfl],h _ o5 o3 o4 #[_,o1,rfl,rfl] #[_,o2,rfl,rfl] (by rw[oQ,s4]) λc o e=>a7 _ (a7 _ (a7 _ (a7 _ (a7 _ e))))]
end
noncomputable def rE(l m:List D):List D:=(l.zip m).map λp=>.tup [p.1,p.2]
theorem Fz{l m:List D}{n:Nat}{d:D}(h:(rE l m)[n]?=!d):∃x y,l[n]?=!x/\m[n]?=!y/\d=.tup [x,y]:=by
 unfold rE at h;rw[oC]at h;cases e:(l.zip m)[n]? with
 |none=>rw[e]at h;symm
 |some q=>rw[e]at h;symm;obtain⟨h1,h2⟩:=CM.mp e;exact#[q.1,q.2,h1,h2,rfl]
theorem FG(l m:List D):(rE l m).length=min l.length m.length:=by simp[rE]
section
def isTup:D->Bool
 |.tup _=>true
 |_=>false
theorem Rep.sqX{K:Frag}{M:List Addr}{H:Hp}{d:D}{v:V}{l:List D}(r:Rep K M H d v)(h:bF d=!l):∃a xs,v=.ref a/\aG K M H l xs/\∀M2 H2,ao M H M2 H2->lz (isTup d) K H2 a xs:=by
 cases r with
 |@lst _ a xs hb rr=>symm;exact#[a,xs,rfl,rr,λM2 H2 st=>bD.of (st _ _ hb.2 hb.1).1]
 |@tup _ a xs hb rr=>
  symm;refine#[a,xs,rfl,rr,λM2 H2 st=>?_]
  have:TupAt K M2 H2 a xs:=by
   rcases hb with ⟨na,hr⟩ |hk
   . exact .inl (st.rd na hr)
   . exact .inr hk
  exact this.sq
 |@fix _ a xs hb rr=>
  symm;refine#[a,xs,rfl,rr,λM2 H2 st=>?_]
  have:kG K M2 H2 a xs:=by
   rcases hb with ⟨na,o,hr⟩ |hk
   . exact .inl #[(st _ _ hr na).2,o,(st _ _ hr na).1]
   . exact .inr hk
  exact this.sq
 |_=>symm
theorem Av(ta:Yu tp s.heap a xs)(tb:Yu tp s.heap b ys)
  (h:∀h',IsZip h' (s⁻¹+4) (s⁻¹+2) (s⁻¹+3) .none->IsPair h' (s⁻¹+2) (.ref s⁻¹) (.ref (s⁻¹+1))->
   IsPair h' (s⁻¹+3) .none .none->yw tp h' s⁻¹ a 0->yw tp h' (s⁻¹+1) b 0->h'.objs.size=s⁻¹+5->
   (∀c o,s.heap.get? c=!o->h'.get? c=!o)->Q (.ref (s⁻¹+4)) { s with heap:=h'}):wpAny (model prog w) A (call (.type "zip") [.ref a,.ref b]) Q E s:=by
 cases tp with
 |true=>exact Au ta tb h
 |false=>exact call_zip_2 ta tb h
theorem S9{d1 d2:D}{l m:List D}(hK:z.K=X.K)(ha:cu X z [e1,e2] g [.dat d1,.dat d2] g1)(h1:bF d1=!l)(h2:bF d2=!m)(hkd:isTup d1=isTup d2)(hg:Gl X "zip")(hm:X.mg "zip"=none)(bT:starEach [e1,e2] X.env=(false,eval e1 X.env)::starEach [e2] X.env)(gI:(backTo rp (starEach [e2] X.env)).any (·.1)=false) :
  eW X z (.Tuple es k pos) (.Call (.Name "zip" p) [e1,e2] [] rp) g (rE l m) g1:=by
 refine eW.of λaj s σ As M H Post I stt kk=>?_
 refine Call_ (eK I hg hm boot_zip (An (ha.run I stt λvs us s1 H1 aN M1 I1 r1 q1 q2 q3=>?_) bT gI))
 cases q3 with
 |dat rp1 R=>cases R with
  |dat rp2 R=>
   cases R;obtain⟨u1,u2,rfl,ru1,ru2⟩:=vals2 r1;obtain⟨a,xs,rfl,rr1,sq1⟩:=rp1.sqX h1;obtain⟨b,ys,rfl,Iz,sq2⟩:=rp2.sqX h2;cases ru1;cases ru2;rw[<- hkd]at sq2;have sa:=hK▸sq1 M1 H1 (ao.refl _ _);have sb:=hK▸sq2 M1 H1 (ao.refl _ _);obtain⟨Yw,_,Yx,_⟩:=sa.real I1;obtain⟨Yy,_,Yz,_⟩:=sb.real I1;refine Av Yx Yz λh' er eI eO t1 t2 hsz hk=>kk _ _ λR kR=>?_
   refine wpAny_pyIter_zip er ?_;have I2:=I1.kept (t':=s1.toks) hk;refine#[_,[s1⁻¹+4,s1⁻¹+2,s1⁻¹+3,s1⁻¹,s1⁻¹+1],_,Itz (isTup d1) X.K a b,H1,rfl,I2,Fy (s1⁻¹+4) (s1⁻¹+2) (s1⁻¹+3) s1⁻¹ (s1⁻¹+1) a b (by refine#[?_,?_,?_,?_] <;> (intro q;have q:=q;lia)) (by refine#[?_,?_,?_] <;> (intro q;have q:=q;lia)) (by refine#[?_,?_,?_] <;> (intro q;have q:=q;lia)),#[er,eI,#[_,_,eO],t1,t2],λc hc=>?_,kR _ H1 aN M1 q1 q2 λM2 H2 aL=>?_]
   .
    have hle:s1⁻¹<=c:=by simp only[dA,nN,A8]at hc;rcases hc with rfl |rfl |rfl |rfl |rfl <;> lia
    exact I1.qH hle (I1.hok.fresh hle)
   .
    have s1':=hK▸sq1 M2 H2 aL;have s2':=hK▸sq2 M2 H2 aL;have R1:=rr1.stay aL;have R2:=Iz.stay aL;refine#[λn d hd=>?_,xs,ys,s1',s2',?_]
    .
     obtain⟨x,y,f1,f2,rfl⟩:=Fz hd;obtain⟨vx,e2,e3⟩:=R1.get f1;obtain⟨vy,e4,e5⟩:=R2.get f2;refine#[#[xs,ys,vx,vy,s1',s2',e2,e4],λw H' hy z' g' σ' aB hz' s'=>?_]
     obtain⟨p,u,v,w1,w2,w3,rfl,rfl⟩:=hy;have w1:=w1 xs s1';have w2:=w2 ys s2';rw[e2]at w1;cases w1;rw[e4]at w2;cases w2;exact#[s'.laid w3,ao.laid w3,.tup (.inl #[s'.fresh w3,.inl aC]) (.cons (e3.stay (ao.laid w3)) (.cons (e5.stay (ao.laid w3)) .nil))]
    . rw[FG,rr1.length,Iz.length];lia
end
end Ev
namespace L2
def yy(T:List Addr)(H:Hp):Prop:=∀b,(b∈T/\H b=!(.k9 ([].toArray)))\/(b∉T/\(H b=none\/∃o xs,H b=!(.fB o (.lst xs))))
theorem Aw{P:Program}{w:World}{K:Frag}{mg mb:Str->Option Value}{CX:zF}{k:Nat}{fa a:Addr}{fd:FuncData}{x:Str}{sp:Sp}{s₁:Shared}{vs:List Value}{ns: ~~~0}{T:List Addr}
  (KX:K.In s₁.heap) (hT:∀q∈T,(∃c,s₁.heap.TableAt c q ([].toArray))/\K.lookup q=none) (hns:s₁.heap.Ns mainGlobals mg) (hb:s₁.heap.Ns builtinsNs mb) (hbb:∀x:Str,x≠ "__name__" ->mb x=bootBuiltins x) (hlim:s₁.heap.NoLimit) (hg:s₁.gens = ([].toArray))
  (ha:s₁.heap.get? a=some { cls:=.type "list",data:=.seq vs.toArray}) (hi:IntsAre vs ns) (hl:ns.length<=sizeLine) (hr:bK k callerA)
  (F:∀base:Heap,K.In base->base.Ns mainGlobals mg->iu P w K mg base CX k fa fd [x] sp) (hbind:∀(s:Shared) (u:Value),BindsTo s fd #[[u],[]] [(x,u)])
  (V6:∀H:Hp,yy T H->bD K H a (ns.map V.int)->sp [.ref a] H (λv _=>v=.bl true) λ_ _ _=>False)
  (hCX:∀H e s',CX [] H s₁ (λ_ _ _=>False) e s'->False) :
  codeAny (model P w) callerA (.call (.ref fa) #[[.ref a],[]]) (λr s'=>r=.ok (.ret (.bool true))/\OldK s₁.heap s'.heap/\s'.os=s₁.os/\AllBare s'.gens) s₁:=by
 have rv:=pG hi;have lenV:=hi.length;have aT:a∉T:=λh=>by
  obtain⟨⟨c,_,e⟩,_⟩:=hT a h;rw[ha]at e;cases e
 have core:∀H:Hp,yy T H->bD K H a (ns.map V.int)->jM P w H s₁.heap->(∀b,H b≠none->b=a\/b∈T)->(H a≠none->K.lookup a=none)->
   codeAny (model P w) callerA (.call (.ref fa) #[[.ref a],[]]) (λr s'=>r=.ok (.ret (.bool true))/\OldK s₁.heap s'.heap/\s'.os=s₁.os/\AllBare s'.gens) s₁:=by
  intro H hO hS hok hA hK;have yz:∀{b:Addr}{o:Obj},s₁.heap.get? b=!o->H b=none->(qA s₁.heap H).get? b=!o:=λe n=>Cz e n
  have Xx:∀{b:Addr}{o:Obj}{es:Array DictEntry}{ep:Nat},s₁.heap.get? b=!o->o.data=.dict es ep->H b=none:=λ{b o es ep} e d=>by
   cases q:H b with
   |none=>rfl
   |some u=>
    rcases hA b (by rw[q];simp)with e' |e'
    . subst e';rw[ha]at e;cases e;have d':=d;cases d'
    . obtain⟨⟨c,_,e2⟩,_⟩:=hT b e';rw[e]at e2;cases e2;have d':=d;cases d'
  have nsK:∀{b:Addr}{m:Str->Option Value},s₁.heap.Ns b m->(qA s₁.heap H).Ns b m:=λ{b m} #[o,es,ep,e,d,r]=>#[o,es,ep,yz e (Xx e d),d,r]
  have O8:K.In (qA s₁.heap H):=λb o e=>yz (KX b o e) (by
   cases q:H b with
   |none=>rfl
   |some u=>
    rcases hA b (by rw[q];simp)with e' |e'
    . subst e';rw[hK (by rw[q];simp)]at e;cases e
    .
     rw[(hT b e').2]at e;cases e)
  have hM:Mod K mg (qA s₁.heap H):=#[O8,nsK hns,#[mb,nsK hb,hbb],let #[mc,h1,h2]:=hlim;#[mc,nsK h1,h2]]
  have e0:De P w K mg (qA s₁.heap H) callerA [] s₁ H:=#[rfl,hM,λb o e=>Jl e,Nat.le_of_eq (zA _ _),trivial,λb hb=>absurd (show b∈([]:List Addr)from hb) ⋯,hok,.of_eq hg]
  refine B8 ((F _ O8 (nsK hns)).run callerA [] s₁ H #[[.ref a],[]] [.ref a] [.ref a] _ _ hr e0 (hbind s₁ (.ref a)) (.cons rfl .nil) (V6 H hO hS)) λr s' h=>?_
  cases r with
  |error e=>exact (hCX H e s' h).elim
  |ok fl=>
   cases fl with
   |next=>exact False.elim h
   |brk=>exact False.elim h
   |cont=>exact False.elim h
   |ret u=>
    obtain⟨v,H',os,bare,un,Lf,r',q⟩:=h;have q':=q;subst q';obtain rfl:u=Value.bool true:=r';have tabs:∀b∈T,∀o,s₁.heap.get? b=!o->∃more,o={ cls:=.none,data:=.fields ([].toArray)}/\s'.heap.get? b=some { cls:=.none,data:=.fields more}:=λb hb o e=>by
     obtain⟨⟨c,_,e2⟩,_⟩:=hT b hb;rw[e]at e2;cases e2;rcases hO b with ⟨_,z⟩ |⟨z,_⟩
     . obtain⟨more,z2⟩:=un.iW b _ z;exact#[_,rfl,Lf b _ z2]
     . exact absurd hb z
    have rest:∀b,b∉T->∀o,s₁.heap.get? b=!o->s'.heap.get? b=!o:=λb hb o e=>by
     cases q:H b with
     |none=>exact un.keep b o e q (by intro z;exact absurd (show b∈([]:List Addr)from z) ⋯) ⋯
     |some u=>
      rcases hO b with ⟨z,_⟩ |⟨_,z⟩
      . exact absurd z hb
      .
       rcases z with z |⟨ob,xs,z⟩
       . rw[q]at z;cases z
       . have z2:=un.iV b ob _ z;obtain⟨e1,_⟩:=hok b _ z;obtain⟨e2,_⟩:=Lf b _ z2;rw[e]at e1;cases e1;exact e2
    refine#[rfl,#[λb o e=>?_,λb o e=>?_],os,bare]
    .
     by_cases hb:b∈T
     . obtain⟨more,rfl,e2⟩:=tabs b hb o e;obtain⟨⟨c,t⟩,_⟩:=hT b hb;exact .inr (.inl #[t.isCodeTable,rfl,([].toArray),more,rfl,by rw[e2];simp])
     . exact .inl (rest b hb o e)
    .
     by_cases hb:b∈T
     . obtain⟨more,rfl,e2⟩:=tabs b hb o e;exact#[_,e2]
     . exact#[_,rest b hb o e]
 have FH:∀b∈T,s₁.heap.get? b=some { cls:=.none,data:=.fields ([].toArray)}:=λb hb=>by
  obtain⟨⟨c,_,e2⟩,_⟩:=hT b hb;exact e2
 cases hk:K.lookup a with
 |some o=>
  have e:=KX a o hk;rw[ha]at e;cases e;refine core (λb=>if b∈T then some (.k9 ([].toArray))else none) (λb=>?_) (.inr #[_,vs.toArray,_,hk,rfl,rfl,rfl,by rw[eP,lenV];exact hl,by simpa using rv]) (λb u z=>?_) (λb z=>?_) λz=>absurd (sK aT) z
  .
   by_cases hb:b∈T
   . exact .inl #[hb,tJ hb]
   . exact .inr #[hb,.inl (sK hb)]
  .
   by_cases hb:b∈T
   . have z':=(tJ hb).symm.trans z;cases z';exact FH b hb
   . have z':=(sK hb).symm.trans z;cases z'
  .
   by_cases hb:b∈T
   . exact .inr hb
   . exact absurd (sK hb) z
 |none=>
  refine core (λb=>if b∈T then some (.k9 ([].toArray))else if b=a then some (.fB { cls:=.type "list",data:=.seq vs.toArray} (.lst (ns.map V.int)))else none) (λb=>?_) (.inl (.inr #[{ cls:=.type "list",data:=.seq vs.toArray},(sK aT).trans (tJ rfl)])) (λb u z=>?_) (λb z=>?_) λ_=>hk
  .
   by_cases hb:b∈T
   . exact .inl #[hb,tJ hb]
   .
    refine .inr #[hb,?_];by_cases hb2:b=a
    . exact .inr #[_,_,(sK hb).trans (tJ hb2)]
    . exact .inl ((sK hb).trans (sK hb2))
  .
   by_cases hb:b∈T
   . have z':=(tJ hb).symm.trans z;cases z';exact FH b hb
   .
    have z1:=(sK hb).symm.trans z;by_cases hb2:b=a
    . have z':=(tJ hb2).symm.trans z1;cases z';subst hb2;exact#[ha,by rw[dE];exact hl,vs,_,rv,ha]
    . have z':=(sK hb2).symm.trans z1;cases z'
  .
   by_cases hb:b∈T
   . exact .inr hb
   .
    by_cases hb2:b=a
    . exact .inl hb2
    . exact absurd ((sK hb).trans (sK hb2)) z
end L2
namespace Ev
open L2
abbrev jV(p:Addr)(o:Obj):HO:=.ext λh=>h.get? p=!o
section
theorem S.grow(s:S z g σ As M H){q:Addr}{qn:Str}{ps:Array Value}{pos:Pos}{c:Addr}(hq:(q,qn)∈z.T)(hu:∀p∈z.T,p.1=q->p.2=qn)(hp:H q=!(.k9 ps))(ht:TriplesOk ps.toList)(hc:H c=!(fC qn c))
  (ok:TriplesOk (ps ++ ([rawInt pos.line,rawInt pos.col,.ref c].toArray)).toList) (am:∀pos' cv,codeAmong pos' (ps ++ ([rawInt pos.line,rawInt pos.col,.ref c].toArray)).toList=!cv->codeAmong pos' ps.toList=!cv\/cv=.ref c) :
  S z g σ As M (upd H q (.k9 (ps ++ ([rawInt pos.line,rawInt pos.col,.ref c].toArray)))) where
 sl:=s.sl.stay (ao.write (s.fH _ (s.tm _ hq))) λa ha u e=>by
  rcases s.live a (s.sub a ha)with ⟨o,e2,gr⟩ |e2
  . rw[az (λz=>by rw[z,hp]at e2;cases e2;exact gr)];exact e
  .
   exact absurd e2 (λw=>by
    have:∃xs,H a=!(.lst xs):=by
     have key:∀{g:G}{σ:Sg}{As:List Addr},Slots z.K M H g σ As->∀a∈As,∃xs,H a=!(.lst xs):=λq=>by
      induction q with
      |nil=>intro a h;symm
      |no _ ih=>exact ih
      |dat _ _ ih=>exact ih
      |own e _ _ ih=>intro a h;rcases dA.mp h with rfl |h;exact#[_,e];exact ih a h
     exact key s.sl a ha
    obtain⟨xs,e3⟩:=this;exact s.Oz e3 w)
 nd:=s.nd
 sub:=s.sub
 own:=s.own
 live:=λm hm=>by
  rcases s.live m hm with ⟨o,e,gr⟩ |e
  . exact .inl #[o,by rw[az (λz=>by rw[z,hp]at e;cases e;exact gr)];exact e,gr]
  . exact .inr e
 keep:=λb u e hb hT=>by
  rw[az (λz=>hT (by rw[z];exact i9.mpr #[_,hq,rfl]))];exact s.keep b u e hb hT
 fH:=s.fH
 m0:=s.m0
 bm:=s.bm
 gU:=s.gU
 tab:=λp h=>by
  have lam:∀d Wn,H d=!(fC Wn d)->upd H q (.k9 (ps ++ ([rawInt pos.line,rawInt pos.col,.ref c].toArray))) d=!(fC Wn d):=λd Wn e=>by
   rw[az (λz=>by rw[z,hp]at e;cases e)];exact e
  by_cases e:p.1=q
  .
   obtain⟨p1,p2⟩:=p;have e1:=e;have e2:=hu _ h e;subst e1;subst e2;refine#[_,aC,ok,λpos' cv ec=>?_]
   rcases am pos' cv ec with ec |rfl
   . obtain⟨ps',h1,_,h3⟩:=s.tab _ h;rw[hp]at h1;cases h1;obtain⟨d,e1,e2⟩:=h3 pos' cv ec;exact#[d,e1,lam d _ e2]
   . exact#[c,rfl,lam c _ hc]
  .
   obtain⟨ps',h1,h2,h3⟩:=s.tab p h;refine#[ps',by rw[az e];exact h1,h2,λpos' cv ec=>?_]
   obtain⟨d,e1,e2⟩:=h3 pos' cv ec;exact#[d,e1,lam d _ e2]
 tm:=s.tm
 tt:=s.tt
end
theorem rF(h:TriplesOk l):TriplesOk (l++[.int i a,.int j b,v]):=by
 fun_induction TriplesOk l with
 |case1=>trivial
 |case2 _ _ _ _ _ rest ih=>exact ih h
 |case3=>exact h.elim
theorem wK(h:TriplesOk l)(e:codeAmong pos (l++[.int i a,.int j b,v])=!cv):codeAmong pos l=!cv\/cv=v:=by
 fun_induction TriplesOk l with
 |case1=>
  simp only[B9,codeAmong]at e;split at e
  . exact .inr (wS e).symm
  . cases e
 |case2 line _ col _ c rest ih=>
  simp only[List.cons_append,codeAmong]at e ⊢
  split at e
  . rename_i q;rw[tJ q];exact .inl e
  . rename_i q;rw[sK q];exact ih h e
 |case3=>exact h.elim
section
theorem yC(hok:jM P w H h)(hq:H q=!(.k9 ps))(hq':H' q=!(.k9 (ps++more)))(k:∀b o,b≠q->h.get? b=!o->h'.get? b=!o)(tq:∃o,h'.get? q=!o)
  (kH:∀b,b<h.objs.size->b≠q->H' b=H b):Un fs [] H H' h h' where
 keep:=λb o e n _ _=>k b o (λz=>by rw[z,hq]at n;cases n) e
 slot:=λb o e n _ _=>#[o.slots,k b o (λz=>by rw[z,hq]at n;cases n) e]
 free:=λb o e n _=>by rw[kH b (fI e) (λz=>by rw[z,hq]at n;cases n)];exact n
 there:=λb o e _=>by
  by_cases hb:b=q
  . subst hb;exact tq
  . exact#[o,k b o hb e]
 tups:=λb xs e=>by rw[kH b (hok.lt e) (λz=>by rw[z,hq]at e;cases e)];exact e
 iV:=λb o u e=>by rw[kH b (hok.lt e) (λz=>by rw[z,hq]at e;cases e)];exact e
 iW:=λb ps' e=>by
  by_cases hb:b=q
  . subst hb;rw[hq]at e;cases e;exact#[_,hq']
  . rw[kH b (hok.lt e) hb];exact#[([].toArray),by rw[e];simp]
end
section
theorem FJ(e:h.get? p=!o):bR P w H h p (jV p o):=#[e,#[o,e],λ_ _ e k=>k _ e]
theorem Lg(e:h.CodeRec (.ref c) q):bR P w H h c (fC q c):=by
 refine#[e,?_,λh1 h2 e k=>?_]
 . obtain⟨c',o,vs,t,e1,e2,_⟩:=e;cases e1;exact#[o,e2]
 . obtain⟨c',o,vs,t,e1,e2,e3⟩:=e;cases e1;exact#[c,o,vs,t,rfl,k _ e2,e3]
theorem FN(I:L2.Inv X aj σ H s)(hs:S z g σ As M H)(hq:(q,qn)∈z.T)(hu:∀p∈z.T,p.1=q->p.2=qn)(hcode:X.env.code=.ref c)(C:PySem.W.CodeHd X.base c q)(hqn:X.env.qual ++ "<lambda>"=qn)
  (hb:X.base.BuiltinsAt X.mg q) (YC:mainGlobals≠q) (hdef:defaultsOf params X.env=([],[])) (B:bN X.env.scope scope)
  (h:∀(p c':Addr) (iQ:Value) (cl:List (Str×Addr)) (H':Hp) (s':Shared),L2.Inv X aj σ H' s'->S z g σ As M H'->ao M H M H'->p∉M->
   H' p=!(jV p (PySem.W.kla_obj "<lambda>" qn params body scope cl ((X.mg "__name__").getD .none) c' iQ))->H' c'=!(fC qn c')->
   (∀x c,cl.lookup x=!c->X.env.cells.lookup x=!c/\(x,NameKind.free)∈scope.names)->(∀y∈scope.names,y.2=.free->∃c,cl.lookup y.1=!c)->(∀b xs,H b=!(.lst xs)->H' b=!(.lst xs))->Q (.ref p) s') :
  wpAny (~~~2) X.A (eval (.Lambda params body scope pos) X.env) Q E s:=by
 refine PySem.W.kla_eval hdef ?_;rw[hqn];obtain⟨ps,hp,ht,hcs⟩:=hs.tab _ hq;have hP:=I.hok q _ hp;obtain⟨cl,hcl,Jd,Tc⟩:=lW λy hy e=>I.ok.has y.1 (by
  rcases B.free y hy e with e |e
  . exact .inl e
  .
   exact .inr e)
 have qlt:=fI hP;cases hf:codeAmong pos ps.toList with
 |some cv=>
  obtain⟨c',rfl,hc'⟩:=hcs pos cv hf;refine PySem.W.kla_makeFunctionHit hcl I.ok.glob (I.ok.mod.glob.keeps I.bk) hcode (C.keeps I.bk) hP ht hf (hb.keeps I.bk) λiQ h' tk hk hsz=>?_
  have hk2:∀b o,s.heap.get? b=!o->(h'.push (PySem.W.kla_obj "<lambda>" qn params body scope cl ((X.mg "__name__").getD .none) c' iQ)).get? b=!o:=λb o e=>a7 _ (hk b o e)
  have fr:=I.hok.fresh hsz;have kH:∀b,b<s⁻¹->b≠q->upd H h'.objs.size (jV h'.objs.size (PySem.W.kla_obj "<lambda>" qn params body scope cl ((X.mg "__name__").getD .none) c' iQ)) b=H b:=λb hb _=>az (i6 (i4 hb hsz))
  have Wn:=i6 (i4 qlt hsz);refine h _ c' iQ cl (upd H h'.objs.size (jV h'.objs.size (PySem.W.kla_obj "<lambda>" qn params body scope cl ((X.mg "__name__").getD .none) c' iQ))) _ (I.call' rfl
   (yC (more:=([].toArray)) I.hok hp (by rw[az Wn,hp];simp) (λb o _ e=>hk2 b o e) #[_,hk2 _ _ hP] kH) (I.hok.laid hk2 hsz (FJ (dC _ rfl))) I.bare λb z=>nomatch z) (hs.laid fr) (ao.laid fr) (hs.fresh fr) aC ?_ Jd Tc λb xs e=>by rw[az (aH e fr)];exact e
  rw[az (λz=>by rw[z,fr]at hc';cases hc')];exact hc'
 |none=>
  refine PySem.W.kla_makeFunction hcl I.ok.glob (I.ok.mod.glob.keeps I.bk) hcode (C.keeps I.bk) hP ht hf YC (hb.keeps I.bk) λc' iQ h' tk hx hc1 hc2 YD hP'=>?_
  have hsz:=AU (y8 hc1 hc2);have hk2:∀b o,b≠q->s.heap.get? b=!o->(h'.push (PySem.W.kla_obj "<lambda>" qn params body scope cl ((X.mg "__name__").getD .none) c' iQ)).get? b=!o:=λb o ne e=>a7 _ (hx b o ne e)
  have frc:=I.hok.fresh hc1;have frp:=I.hok.fresh hsz;have qc:=i6 (i4 qlt hc1);have qp:=i6 (i4 qlt hsz);have cp:=i6 hc2;have s1:=hs.laid (o:=fC qn c') frc;have e1:upd H c' (fC qn c') q=!(.k9 ps):=by rw[az qc];exact hp
  have s2:=s1.grow (pos:=pos) hq hu e1 ht aC (by rw[CY];exact rF ht) (λpos' cv e=>wK ht (by rw[CY]at e;exact e))
  have YF:upd (upd H c' (fC qn c')) q (.k9 (ps ++ ([rawInt pos.line,rawInt pos.col,.ref c'].toArray))) h'.objs.size=none:=by rw[az qp.symm,az cp.symm];exact frp
  have s3:=s2.laid (o:=jV h'.objs.size (PySem.W.kla_obj "<lambda>" qn params body scope cl ((X.mg "__name__").getD .none) c' iQ)) YF;have kH:∀b,b<s⁻¹->b≠q->upd (upd (upd H c' (fC qn c')) q (.k9 (ps ++ ([rawInt pos.line,rawInt pos.col,.ref c'].toArray)))) h'.objs.size (jV h'.objs.size (PySem.W.kla_obj "<lambda>" qn params body scope cl ((X.mg "__name__").getD .none) c' iQ)) b=H b:=λb hb ne=>by
   rw[az (i6 (i4 hb hsz)),az ne,az (i6 (i4 hb hc1))]
  have hq3:upd (upd (upd H c' (fC qn c')) q (.k9 (ps ++ ([rawInt pos.line,rawInt pos.col,.ref c'].toArray)))) h'.objs.size (jV h'.objs.size (PySem.W.kla_obj "<lambda>" qn params body scope cl ((X.mg "__name__").getD .none) c' iQ)) q=!(.k9 (ps ++ ([rawInt pos.line,rawInt pos.col,.ref c'].toArray))):=by rw[az qp];exact aC
  have hc3:upd (upd (upd H c' (fC qn c')) q (.k9 (ps ++ ([rawInt pos.line,rawInt pos.col,.ref c'].toArray)))) h'.objs.size (jV h'.objs.size (PySem.W.kla_obj "<lambda>" qn params body scope cl ((X.mg "__name__").getD .none) c' iQ)) c'=!(fC qn c'):=by rw[az cp,az qc.symm];exact aC
  have hP2:=a7 (PySem.W.kla_obj "<lambda>" qn params body scope cl ((X.mg "__name__").getD .none) c' iQ) hP';have Lf:jM X.prog X.w (upd (upd (upd H c' (fC qn c')) q (.k9 (ps ++ ([rawInt pos.line,rawInt pos.col,.ref c'].toArray)))) h'.objs.size (jV h'.objs.size (PySem.W.kla_obj "<lambda>" qn params body scope cl ((X.mg "__name__").getD .none) c' iQ))) (h'.push (PySem.W.kla_obj "<lambda>" qn params body scope cl ((X.mg "__name__").getD .none) c' iQ)):=λb u e=>by
   by_cases b1:b=h'.objs.size
   . subst b1;rw[aC]at e;cases e;exact FJ (dC _ rfl)
   .
    by_cases b2:b=q
    . subst b2;rw[hq3]at e;cases e;exact hP2
    .
     by_cases b3:b=c'
     .
      subst b3;rw[hc3]at e;cases e;exact Lg (by
       obtain⟨d,o,vs,t,e1,e2,e3⟩:=YD;exact#[d,o,vs,t,e1,a7 _ e2,e3])
     .
      rw[az b1,az b2,az b3]at e;refine (I.hok b u e).stay (λd o hd eo=>hk2 d o (λz=>?_) eo) (λd ed=>?_) λd xs ed=>?_
      .
       rcases hd with hd |hd
       . exact b2 (hd▸z)
       . rw[z,hp]at hd;cases hd
      . rw[kH d (I.hok.lt ed) (λz=>by rw[z,hp]at ed;cases ed)];exact ed
      . rw[kH d (I.hok.lt ed) (λz=>by rw[z,hp]at ed;cases ed)];exact ed
  refine h _ c' iQ cl _ _ (I.call' rfl
   (yC I.hok hp hq3 hk2 #[_,hP2] kH) Lf I.bare λb z=>nomatch z) s3 ?_ (hs.fresh frp) aC hc3 Jd Tc λb xs e=>by rw[az (aH e frp),az (λz=>by rw[z,hp]at e;cases e),az (aH e frc)];exact e
  exact ((ao.laid frc).trans (ao.write (hs.fH _ (hs.tm _ hq)))).trans (ao.laid YF)
end
noncomputable def uE(X:Cx)(N:List Str)(qual:Str)(scope:Scope)(p:Addr)(cd:Value)(cl:List (Str×Addr))(s:Shared)(H:Hp)(xe:Value->Shared->Prop):Cx where
 prog:=X.prog
 w:=X.w
 K:=X.K
 mg:=X.mg
 base:=X.base
 A:=X.A.deeper (PySem.W.envX qual scope s⁻¹ p cd cl)
 N:=N
 s₀:=s
 H₀:=H
 env:=PySem.W.envX qual scope s⁻¹ p cd cl
 outer:=X.stack
 stack:=PySem.W.envX qual scope s⁻¹ p cd cl::X.stack
 ex:=[]
 calm:=true
 fn:=λ_=>false
 pn:=[]
 xe:=xe
structure rG(N:List Str)(σ:Sg)(scope:Scope)(cl:List (Str×Addr))(H:Hp)(h:Heap):Prop where
 inj:∀x y c,cl.lookup x=!c->cl.lookup y=!c->x=y
 has:∀x,scope.names.lookup x=some .cell\/scope.names.lookup x=some .free->∃c,cl.lookup x=!c
 cell:∀x c,cl.lookup x=!c->H c=none/\∃v,h.IsCell c v
 loc:∀(i:Nat) (x:Str) (v:V),N[i]?=!x->σ[i]?=!(!v)->sW scope x->scope.names.lookup x=some .free/\∃u c,RelV v u/\cl.lookup x=!c/\h.IsCell c (!u)
 len:σ.length=N.length
section
theorem Lh(I:L2.Inv X aj σ H s)(hc:X.calm=true)(hk:scope.kind=.function)(C:rG N σ0 scope cl H s.heap)(hk₁:∀b o,s.heap.get? b=!o->h₁.get? b=!o)(hns:h₁.Ns s⁻¹ m) :
  L2.Inv (uE X N qual scope p cd cl s H xe) [] σ0 H { s with heap:=h₁,toks:=tk}:=by
 have e0:=I.Jw;refine#[#[e0.mod,hk,rfl,rfl,eA _,C.inj,C.has,(λ_ _ h=>nomatch h),λ_=>I.ok.hd hc,Around.frames_deeper e0.frames,.inr #[rfl,rfl],(λb z=>nomatch z),e0.bs,e0.CG,(λ_ _ _ z=>nomatch z),(λb z=>nomatch z),e0.iX,e0.Jo],
  rfl,e0.bare,Un.kept hk₁,#[m,hns,λi x v h1 h2 h3=>?_],λx c e=>?_,e0.hok.fresh (eA _),λx c e=>(C.cell x c e).1,(λp hp=>nomatch hp),e0.hok.kept hk₁,C.len]
 . obtain⟨f,u,c,r,e1,e2⟩:=C.loc i x v h1 h2 h3;exact#[u,r,.inr #[.inr f,c,e1,e2.keeps hk₁]]
 . obtain⟨v,q⟩:=(C.cell x c e).2;exact#[v,q.keeps hk₁]
theorem FP{z:Z}{g g':G}{As M:List Addr}{body:Expr}{params:Arguments}{pm iQ:Value}{c' C:Addr}{R:Result->Shared->Prop}(I:L2.Inv X aj σ H s)(hc:X.calm=true)(hroom:X.A.depth<recursionLimit)
  (hp:s.heap.get? p=!(PySem.W.kla_obj "<lambda>" qual params body scope cl pm c' iQ)) (YD:s.heap.CodeRec (.ref c') qual) (hpar:bindArgs (PySem.W.kla_fn "<lambda>" qual params body scope cl pm (.ref c') iQ) #[[],[]]=pure [])
  (hco:scope.isCoroutine=false) (hgen:scope.isGenerator=false) (hk:scope.kind=.function) (hnc:∀x∈scope.names,x.2≠.cell) (Cl:rG N σ0 scope cl H s.heap) (hS:S z g σ0 As M H)
  (hb:∀xe,PassesOwn (~~~2) (X.A.deeper (PySem.W.envX qual scope s⁻¹ p (.ref c') cl)) (PySem.W.envX qual scope s⁻¹ p (.ref c') cl) xe->Cg (uE X N qual scope p (.ref c') cl s H xe) z body g C g')
  (hR:∀x H1 aN M1 s'',Ce X.prog X.w X.stack H s (λc o h=>c=.ref C/\o=none/\h=H1) (.ref x) s''->S z g' σ0 aN M1 H1->ao M H M1 H1->R (.error (.ref x)) s'') :
  codeAny (~~~2) X.A (.call (.ref p) #[[],[]]) R s:=by
 refine PySem.W.kla_callFunE hroom hp rfl hco hgen rfl YD ?_;rw[hpar];refine dL (wpAny_newFunctionEnv hnc (λy hy=>nomatch hy) (λh₁ hns hsb=>#[(I.nolimit).fresh _ hsb,?_]) hk)
 have hk₁:∀b o,s.heap.get? b=!o->h₁.get? b=!o:=λb o e=>hsb.extBut b o (i6 (fI e)) (a7 _ e)
 refine PySem.W.kla_codeExpr ?_;obtain⟨t,q,k⟩:=hb (λe' s'=>wpAny (~~~2) (X.A.deeper (PySem.W.envX qual scope s⁻¹ p (.ref c') cl)) (leaving (PySem.W.envX qual scope s⁻¹ p (.ref c') cl) e') (λ_ s''=>R (.error e') s'') (λe'' s''=>R (.error e'') s'') s') PassesOwn.leaving
 have J:=Lh (qual:=qual) (p:=p) (cd:=.ref c') (σ0:=σ0) (tk:=s.toks+([]:List (Str×Value)).length) (xe:=λe' s'=>wpAny (~~~2) (X.A.deeper (PySem.W.envX qual scope s⁻¹ p (.ref c') cl)) (leaving (PySem.W.envX qual scope s⁻¹ p (.ref c') cl) e') (λ_ s''=>R (.error e') s'') (λe'' s''=>R (.error e'') s'') s') I hc hk Cl hk₁ hns
 refine qS (q [] _ σ0 H (λ_ _=>False) J (k σ0 As M H _ hS λpins1 s1 H1 aN M1 x I1 S1 st fl=>?_)) (λv s' h=>?_) λ_ _ h=>h
 . exact pP I1 rfl rfl rfl fl λs'' cx=>hR x H1 aN M1 s'' cx S1 st
 . obtain⟨_,_,_,_,h⟩:=h;exact h.elim
end
section
theorem Inv.cnl(I:L2.Inv X [] σ H s):∀y c,X.env.cells.lookup y=!c->c≠X.env.locals:=λy c e q=>by
 obtain⟨v,o,h1,h2⟩:=I.cell y c e;obtain⟨m,⟨o',es,ep,h3,h4,_⟩,_⟩:=I.loc;rw[q,h3]at h1;cases h1;rw[h4]at h2;cases h2
theorem Inv.touch(I:L2.Inv X [] σ H s)(hp:X.pn=[])(hT:X.s₀.heap.get? T=none)(hH:H T=none)(hf:∃o vs,s.heap.get? T=!o/\o.data=.fields vs)(k:∀b o,b≠T->s.heap.get? b=!o->h'.get? b=!o)(kT:∃o,h'.get? T=!o) :
  L2.Inv X [] σ H { s with heap:=h'}:=by
 obtain⟨oT,ts,eT,dT⟩:=hf;have Li:∀b o,X.s₀.heap.get? b=!o->b≠T:=λb o e q=>by rw[q,hT]at e;cases e
 have YG:∀b o,s.heap.get? b=!o->(∀vs,o.data≠.fields vs)->b≠T:=λb o e d q=>by rw[q,eT]at e;cases e;exact d _ dT
 have cellK:∀c v,s.heap.IsCell c v->h'.IsCell c v:=by rintro c v ⟨o,e,d⟩;exact#[o,k c o (YG c o e λvs q=>by rw[d]at q;cases q) e,d]
 obtain⟨m,⟨o,es,ep,e,d,r⟩,hlk⟩:=I.loc;refine#[I.ok,I.os,I.bare,#[λb o e n hb hx=>?_,λb o e n hb hx=>?_,I.base.free,λb o e hx=>?_,I.base.tups,I.base.iV,I.base.iW],#[m,#[o,es,ep,k _ _ (YG _ _ e λvs q=>by rw[d]at q;cases q) e,d,r],λi y v h1 h2 h3=>?_],λy c e=>?_,I.free,I.cG,λp hp2=>?_,λb u e=>?_,I.len]
 . exact k b o (Li b o e) (I.base.keep b o e n hb hx)
 . obtain⟨sl,e1⟩:=I.base.slot b o e n hb hx;exact#[sl,k b _ (Li b o e) e1]
 . obtain⟨o',e1⟩:=I.base.there b o e hx;exact#[o',k b _ (Li b o e) e1]
 . obtain⟨u,r,q⟩:=hlk i y v h1 h2 h3;exact#[u,r,q.imp id (by rintro⟨q1,c,q2,q3⟩;exact#[q1,c,q2,cellK c _ q3])]
 . obtain⟨v,q⟩:=I.cell y c e;exact#[v,cellK c v q]
 . rw[hp]at hp2;cases hp2
 .
  refine (I.hok b u e).stay (λc w hc q=>k c w (λz=>?_) q) (λ_ q=>q) λ_ _ q=>q
  subst z;rcases hc with rfl |hc
  . rw[hH]at e;cases e
  . rw[hH]at hc;cases hc
theorem uF(I:L2.Inv X [] σ H s)(hp:X.pn=[])(fl:sQ X.s₀.heap x C H s.heap)(h:∀s',L2.Inv X [] σ H s'->sQ X.s₀.heap x C H s'.heap->Q () s') :
  wpAny M A (setFlight (.ref x) none) Q E s:=by
 obtain⟨⟨oe,vs,he,hc,bM,hd,hsz,hT⟩,Wd,O4⟩:=id fl;rcases hT with hT |⟨T,oT,ts,h1,Sj,hTn,hTH,IK,IV,h3⟩
 . refine aS (Ap he hd hT ?_);exact dL (h s I fl)
 .
  refine aS (Ap he hd h1 ?_);refine AK IK IV (A9.mp h3).1 ?_;have other:∀b,b≠T->(s.heap.update T (Obj.mapFields (·.setIfInBounds 3 Value.none))).get? b=s.heap.get? b:=λb hb=>lS _ _ (wP hb)
  have YH:=rV IV (·.setIfInBounds 3 Value.none);have Yj:=oP (Obj.mapFields (·.setIfInBounds 3 Value.none)) IK (xL YH);refine h _ (Inv.touch I hp hTn hTH #[oT,ts,IK,IV] (λb o hb e=>(other b hb).trans e) #[_,Yj]) #[#[oe,vs,(other x (wP Sj)).trans he,hc,bM,hd,hsz,.inr #[T,_,_,h1,Sj,hTn,hTH,Yj,YH,?_]],Wd,O4]
  have:=(A9.mp h3).1;simp[this]
theorem Inv.Td(I:L2.Inv X [] σ H s)(hp:X.pn=[])(fl:sQ X.s₀.heap x C H s.heap):L2.Inv X [] σ (upd H x (wg C x)) s:=by
 obtain⟨⟨oe,vs,he,hc,bM,hd,hsz,hT⟩,Wd,O4⟩:=id fl;have Li:∀b o,X.s₀.heap.get? b=!o->b≠x:=λb o e q=>by rw[q,Wd]at e;cases e
 have YG:∀b o,s.heap.get? b=!o->(∀vs,o.data≠.fields vs)->b≠x:=λb o e d q=>by rw[q,he]at e;cases e;exact d _ hd
 have YJ:∀b u,H b=!u->b≠x:=λb u e q=>by rw[q,O4]at e;cases e
 refine#[I.ok,I.os,I.bare,#[I.base.keep,I.base.slot,λb o e n hx=>?_,I.base.there,λb xs e=>?_,λb o u e=>?_,λb ps e=>?_],I.loc,I.cell,?_,λy c e=>?_,λp hp2=>?_,λb u e=>?_,I.len]
 . rw[az (Li b o e)];exact I.base.free b o e n hx
 . have:=I.base.tups b xs e;rw[az (YJ _ _ this)];exact this
 . have:=I.base.iV b o u e;rw[az (YJ _ _ this)];exact this
 . obtain⟨more,this⟩:=I.base.iW b ps e;exact#[more,by rw[az (YJ _ _ this)];exact this]
 . obtain⟨m,⟨o,es,ep,e,d,_⟩,_⟩:=I.loc;rw[az (YG _ _ e λvs q=>by rw[d]at q;cases q)];exact I.free
 . obtain⟨v,o,e1,d⟩:=I.cell y c e;rw[az (YG _ _ e1 λvs q=>by rw[d]at q;cases q)];exact I.cG y c e
 . rw[hp]at hp2;cases hp2
 .
  by_cases hb:b=x
  .
   subst hb;rw[aC]at e;cases e;refine#[#[oe,he,hc,?_,bM],#[oe,he],by rintro h1 h2 ⟨o,q,r⟩ k;exact#[o,k o q,r]]
   unfold PySem.W.notCls;rw[hd]
  . rw[az hb]at e;exact (I.hok b u e).stay (λ_ _ _ q=>q) (λc q=>by rw[az (YJ _ _ q)];exact q) λc xs q=>by rw[az (YJ _ _ q)];exact q
abbrev Cx.marked(X:Cx)(e:Value)(E:Value->Shared->Prop):Cx:={ X with A:=X.A.mark (!e),calm:=false,xe:=E}
theorem Inv.marked(I:L2.Inv X aj σ H s)(e:Value)(E:Value->Shared->Prop):L2.Inv (Cx.marked X e E) aj σ H s:=
 #[#[I.ok.mod,I.ok.kind,I.ok.glob,I.ok.blt,I.ok.above,I.ok.inj,I.ok.has,I.ok.Qa,(λh=>nomatch h),I.ok.frames,I.ok.stk,I.ok.V4,I.ok.bs,I.ok.CG,I.ok.sX,I.ok.vU,I.ok.iX,I.ok.Jo],I.os,I.bare,I.base,I.loc,I.cell,I.free,I.cG,I.pin,I.hok,I.len]
theorem Inv.unmarked(ok:X.Ok)(I:L2.Inv (Cx.marked X e E) aj σ H s):L2.Inv X aj σ H s:=
 #[ok,I.os,I.bare,I.base,I.loc,I.cell,I.free,I.cG,I.pin,I.hok,I.len]
theorem Inv.gone(I:L2.Inv X [] σ H s)(hp:X.pn=[])(hN:X.N.Nodup)(hi:X.N[i]?=!n)(hlk:∀(j:Nat) (y:Str) (v:V),X.N[j]?=!y->σ[j]?=!(!v)->sW X.env.scope y->∃u,RelV v u/\Look X.env s.heap m y u)
  {h':Heap}{w:Option Value}{tk:Nat} (hn':h'.Ns X.env.locals (λy=>if y=n then w else m y)) (hs:Heap.SameBut X.env.locals s.heap h'):L2.Inv X [] (σ.set i none) H { s with heap:=h',toks:=tk}:=by
 have Li:∀b o,X.s₀.heap.get? b=!o->b≠X.env.locals:=λb o e=>i6 (i4 (fI e) I.ok.above)
 refine#[I.ok,I.os,I.bare,#[λb o e n hb hx=>?_,λb o e n hb hx=>?_,I.base.free,λb o e hx=>?_,I.base.tups,I.base.iV,I.base.iW],#[_,hn',λj y v h1 h2 h3=>?_],λy c e=>?_,I.free,I.cG,λp hp2=>?_,λb u e=>?_,by rw[BN];exact I.len]
 . exact (hs.2 b (Li b o e)).trans (I.base.keep b o e n hb hx)
 . obtain⟨sl,e1⟩:=I.base.slot b o e n hb hx;exact#[sl,(hs.2 b (Li b o e)).trans e1]
 . obtain⟨o',e1⟩:=I.base.there b o e hx;exact#[o',(hs.2 b (Li b o e)).trans e1]
 .
  by_cases hj:j=i
  .
   subst hj;have hl:j<σ.length:=by rw[I.len];exact (eJ.mp h1).1
   rw[nE hl]at h2;cases h2
  .
   rw[gN (wP hj)]at h2;obtain⟨u,r,q⟩:=hlk j y v h1 h2 h3;refine#[u,r,?_];have hyn:y≠n:=λq=>hj (lQ hN h1 (q▸hi))
   rcases q with ⟨k,e⟩ |⟨k,c,e,z⟩
   . exact .inl #[k,by show (if y=n then w else m y)=!u;rw[sK hyn];exact e]
   . exact .inr #[k,c,e,z.sameBut hs (Inv.cnl I y c e)]
 . obtain⟨v,q⟩:=I.cell y c e;exact#[v,q.sameBut hs (Inv.cnl I y c e)]
 . rw[hp]at hp2;cases hp2
 .
  refine (I.hok b u e).stay (λc w hc q=>(hs.2 c (λz=>?_)).trans q) (λ_ q=>q) λ_ _ q=>q
  subst z;rcases hc with hc |hc
  . rw[<- hc,I.free]at e;cases e
  . rw[I.free]at hc;cases hc
end
end Ev
namespace PySem
section
theorem gK{h:Heap}{g:Array GenState}{d:Drawn}{t:Nat}{os:OsState}{e:Addr}{oe:Obj}{Q:Bool->Shared->Prop}
  (hC:h.get? C=!(excClassObj nm q C N bs bm hdct sn sub ab col dd k0 k1 k2 k3 k5 newId)) (hD:h.get? D=!(excClassObj nm' q' D N' bs' bm' YK sn' sub' ab' col' dd' k0' k1' k2' k3' k5' newId'))
  (he:h.get? e=!oe) (hcls:oe.cls=.ref C) (hbase:bm'.contains (.type "BaseException")=true) (hup:(Value.ref C::bm).contains (.ref D)=true)
  (hq:Q true #[h,g,d,t,os]):wpAny M A (excMatches (.ref e) (.ref D)) Q E #[h,g,d,t,os]:=by
 have hcB:(Value.ref D::bm').contains (.type "BaseException")=true:=by rw[List.contains_cons,hbase,Bool.or_true]
 have f:=tc_notTuple
 repeat (first | (with_reducible refine wpAny_loadPart_at he ?_;rw[hcls]) |with_reducible refine wpAny_loadPart_at hD ?_ | (with_reducible refine wpAny_isSubtype_exc hD ?_;rw[hcB]) | (with_reducible refine wpAny_isSubtype_exc hC ?_;rw[hup]) |wp_step)
 exact hq
end
end PySem
namespace Ev
open L2
noncomputable def rH(K:Frag)(C D:Addr):Bool:=match K.lookup C with
 |!#[_,_,.cls cd,_]=>cd.mro.contains (.ref D)
 |_=>false
theorem wL{M:Model}{A:Around}{E:Value->Shared->Prop}{K:Frag}{h:Heap}{g:Array GenState}{d:Drawn}{t:Nat}{os:OsState}{e C D:Addr}{oe:Obj}{Q:Bool->Shared->Prop}(vR:K.In h)(qC:dj K C)(qD:dj K D)(up:rH K C D=true)
  (he:h.get? e=!oe) (hc:oe.cls=.ref C) (hq:Q true #[h,g,d,t,os]):wpAny M A (excMatches (.ref e) (.ref D)) Q E #[h,g,d,t,os]:=by
 obtain⟨bm,N,nm,qn,bs,hdct,sn,sub,ab,col,dd,k0,k1,k2,k3,k5,mN,hC,_,_,TC⟩:=rm vR qC;have hup:(Value.ref C::bm).contains (.ref D)=true:=by
  unfold rH at up;split at up
  . rename_i cd _ ho;have:=(vR _ _ ho).symm.trans hC;cases this;exact up
  . cases up
 obtain⟨bm',N',nm',Wn,bs',YK,sn',sub',ab',col',dd',k0',k1',k2',k3',k5',mN',hD,_,_,TD⟩:=rm vR qD;exact gK hC hD he hc (TD.hasType ⋯) hup hq
section
variable{x C D:Addr}
theorem Ax(I:L2.Inv X [] σ H s)(hp:X.pn=[])(bT:X.stack=X.env::X.outer)(hf:X.env.frame=!X.env.locals)(hex:X.ex=[])(fl:sQ X.s₀.heap x C H s.heap)(hN:X.N.Nodup)
  (hg:Gl X ke) (hm:X.mg ke=!(.ref D)) (iU:(ke==(~~~3))=false) (qC:dj X.K C) (qD:dj X.K D) (up:rH X.K C D=true)
  (hie:X.N[ie]?=!en) (len:X.env.scope.names.lookup en=some .local) (den:(en==(~~~3))=false) (cen:(en==("__classdict__":Str))=false)
  (hir:X.N[ir]?=!er) (ler:Loc X.env.scope er) (fer:X.fn er=true\/X.env.scope.names.lookup er=some .local) (hsw:swapsWith (.Name en uG) (!(.Name er uH)) dB.line X.env=pure false)
  (h:∀s',L2.Inv X [] (((σ.set ie (!(.ref x))).set ir (!(.ref x))).set ie none) (upd H x (wg C x)) s'->Q .next s') :
  wpAny (~~~2) X.A (noteFrame (.ref x) X.env) (λ_ s2=>wpAny (~~~2) X.A (setFlight (.ref x) none) (λ_ s3=>wpAny (~~~2) X.A (handleBy (.ref x) X.env [.ExceptHandler (!(.Name ke kp)) (!en) [.Assign [.Name er uH] (.Name en uG) dB] oz]) Q E s3) E s2) E s:=by
 refine Aa I hp bT hf hex fl λs2 I2 fl2=>?_
 refine wpAny_handleBy_cons (codeAny_handlers_test ?_) (by intro q;cases q)
 refine eH (X:=Cx.marked X (.ref x) E) (Inv.marked I2 _ _) hg hm ?_ iU;obtain⟨⟨oe,vs,he,hc,_⟩,_⟩:=id fl2;obtain⟨hh,gg,dr,tt,oo⟩:=s2;refine wL I2.oA qC qD up he hc ?_;refine codeAny_handlers_suite_as ?_;refine uF I2 hp fl2 λs3 I3 fl3=>?_
 have I4:=Inv.Td I3 hp fl3;refine lR I4 hN hie (.inl len) (v:=.ref x) rfl (λs5 I5=>?_) (.inr len)
 have hl:ie<σ.length:=by rw[I.len];exact (eJ.mp hie).1
 refine qS (((iY (lT (X:=Cx.marked X (.ref x) (λ_ _=>False)) hN hir ler (fK hie (.inl len) den cen) hsw fer)) [] s5 _ _ { nx:=λσ' H'=>σ'=(σ.set ie (!(.ref x))).set ir (!(.ref x))/\H'=upd H x (wg C x),rt:=λ_ _=>False} (Inv.marked I5 _ _) #[.ref x,nE hl,rfl,rfl])) (λf s6 q=>?_) λ_ _ z=>False.elim z
 cases f with
 |next=>
  obtain⟨σ',H',I6,rfl,rfl⟩:=q;have I7:=Inv.unmarked I.ok I6;obtain⟨m,hn,hlk⟩:=id I7.loc;refine wpAny_nameGoes_keeps len hn (by rw[I.ok.kind];rfl) λh' w hn' hs=>?_
  exact h _ (Inv.gone I7 hp hN hie hlk hn' hs)
 |ret v=>obtain⟨_,_,_,_,_,q⟩:=q;exact q.elim
 |brk=>obtain⟨_,_,_,q⟩:=q;exact q.elim
 |cont=>obtain⟨_,_,_,q⟩:=q;exact q.elim
end
noncomputable abbrev zN(z:Z)(M:List Addr)(H:Hp):Z:=#[z.K,H,M,[],z.T]
def noOwn:Slot->Slot
 |.own _=>.no
 |s=>s
section
variable{g g':G}
theorem Slots.noOwn{K:Frag}(q:Slots K M H g σ As):Slots K M H (g.map Ev.noOwn) σ []:=by
 induction q with
 |nil=>exact .nil
 |no _ ih=>exact .no ih
 |dat r _ ih=>exact .dat r ih
 |own _ _ _ ih=>exact .no ih
theorem Slots.nos'{K:Frag}(σ:Sg):Slots K M H (List.replicate σ.length .no) σ []:=by
 induction σ with
 |nil=>exact .nil
 |cons v σ ih=>exact .no ih
theorem Ay{i:Nat}{l:List D}(h:(g.map Ev.noOwn)[i]?=!(.own l)):False:=by
 rw[oC]at h;cases e:g[i]? with
 |none=>rw[e]at h;symm
 |some u=>rw[e]at h;cases u <;> symm
theorem S.into(s:S z g σ As M H)(sl:Slots z.K M H gn σn [])(hn:∀(i:Nat) (l:List D),gn[i]?≠!(.own l)):S (zN z M H) gn σn [] M H where
 sl:=sl
 nd:=AA
 sub:=λa h=>nomatch h
 own:=λi a l e _=>absurd e (hn i l)
 live:=s.live
 keep:=λb o e _ _=>e
 fH:=λ_ h=>h
 m0:=λm hm=>by
  rcases s.live m hm with ⟨o,e,_⟩ |e
  . intro q;rw[show H m=none from q]at e;cases e
  . obtain⟨q,hq,rfl⟩:=i9.mp e;obtain⟨ps,h1,_⟩:=s.tab q hq;intro z;rw[show H q.1=none from z]at h1;cases h1
 bm:=λb h=>nomatch h
 gU:=λp h=>nomatch h
 tab:=s.tab
 tm:=λp h=>s.fH _ (s.tm p h)
 tt:=s.tt
theorem S.after(s:S z g σ As M H)(hA:As=[])(s1:S (zN z M H) g' σ0 aN M1 H1)(st:ao M H M1 H1):S z g σ As M1 H1 where
 sl:=s.sl.stay st (λa h=>by rw[hA]at h;symm)
 nd:=s.nd
 sub:=λa h=>by rw[hA]at h;symm
 own:=s.own
 live:=s1.live
 keep:=λb o e hb ht=>s1.keep b o (s.keep b o e hb ht) (λh=>nomatch h) ht
 fH:=λm hm=>s1.fH m (s.fH m hm)
 m0:=s.m0
 bm:=s.bm
 gU:=s.gU
 tab:=s1.tab
 tm:=s.tm
 tt:=s.tt
theorem Slots.jz{K:Frag}{i:Nat}{v:Option V}(q:Slots K M H g σ As)(e:g[i]?=some .no):Slots K M H g (σ.set i v) As:=by
 induction q generalizing i with
 |nil=>exact .nil
 |no q ih=>cases i with
  |zero=>exact .no q
  |succ i=>exact .no (ih e)
 |dat r q ih=>cases i with
  |zero=>cases e
  |succ i=>exact .dat r (ih e)
 |own a b q ih=>cases i with
  |zero=>cases e
  |succ i=>exact .own a b (ih e)
theorem S.jz(s:S z g σ As M H)(e:g[i]?=some .no):S z g (σ.set i v) As M H where
 sl:=s.sl.jz e
 nd:=s.nd
 sub:=s.sub
 own:=λj a l e1 e2=>s.own j a l e1 (by
  rw[gN (λq=>by rw[<- q,e]at e1;cases e1)]at e2;exact e2)
 live:=s.live
 keep:=s.keep
 fH:=s.fH
 m0:=s.m0
 bm:=s.bm
 gU:=λp hp=>by
  obtain⟨h1,l,h2⟩:=s.gU p hp;exact#[by rw[gN (λq=>by rw[<- q,e]at h2;cases h2)];exact h1,l,h2]
 tab:=s.tab
 tm:=s.tm
 tt:=s.tt
end
theorem Lj(I:L2.Inv X aj σ H s)(B:bN X.env.scope scope)(nl:∀y∈scope.names,y.2≠.local)
  (Jd:∀x c,cl.lookup x=!c->X.env.cells.lookup x=!c/\(x,NameKind.free)∈scope.names) (Tc:∀y∈scope.names,y.2=.free->∃c,cl.lookup y.1=!c):rG X.N σ scope cl H s.heap where
 inj:=λx y c h1 h2=>I.ok.inj x y c (Jd x c h1).1 (Jd y c h2).1
 has:=λx h=>by
  rcases h with h |h
  . exact absurd rfl (B.qT _ (L2.mem_of_lookup h))
  . exact Tc _ (L2.mem_of_lookup h) rfl
 cell:=λx c h=>#[I.cG x c (Jd x c h).1,I.cell x c (Jd x c h).1]
 loc:=λi x v h1 h2 h3=>by
  have hf:scope.names.lookup x=some .free:=by
   rcases h3 with h3 |h3 |h3
   . exact absurd rfl (nl _ (L2.mem_of_lookup h3))
   . exact absurd rfl (B.qT _ (L2.mem_of_lookup h3))
   . exact h3
  have hv:=B.free _ (L2.mem_of_lookup hf) rfl;obtain⟨m,_,hlk⟩:=I.loc;obtain⟨u,r,q⟩:=hlk i x v h1 h2 (.inr hv);obtain⟨c2,e2⟩:=Tc _ (L2.mem_of_lookup hf) rfl;rcases q with ⟨k,_⟩ |⟨_,c,e,z⟩
  . have k:X.env.scope.names.lookup x=some .local:=k;rcases hv with hv |hv <;> (have hv:=hv;rw[k]at hv;cases hv)
  . have:=(Jd _ _ e2).1;rw[e]at this;cases this;exact#[hf,u,c2,r,e2,z]
 len:=I.len
theorem rG.un(c:rG N σ scope cl H h)(u:Un fs [] H H' h h'):rG N σ scope cl H' h':=by
 have key:∀x a v,cl.lookup x=!a->h.IsCell a v->h'.IsCell a v:=by rintro x a v e ⟨o,e1,d⟩;obtain⟨sl,e2⟩:=u.any e1 (c.cell x a e).1 ⋯;exact#[_,e2,d]
 refine#[c.inj,c.has,λx a e=>?_,λi x v h1 h2 h3=>?_,c.len]
 . obtain⟨hn,v,o,e1,d⟩:=c.cell x a e;exact#[u.free a o e1 hn ⋯,v,key x a v e #[o,e1,d]]
 . obtain⟨f,w,a,r,e,z⟩:=c.loc i x v h1 h2 h3;exact#[f,w,a,r,e,key x a _ e z]
section
variable{C D p c':Addr}
 {N:List Str}{qn:Str}{scope:Scope}{cl:List (Str×Addr)}{body:Expr}{params:Arguments}{pm iQ:Value}{g0 Je:G}
noncomputable abbrev FQ (y ke en er:Str) (py cM oq kp uH uG dB oz kB:Pos):Stmt:=.Try [.Expr (.Call (.Name y py) [] [] cM) oq] [.ExceptHandler (!(.Name ke kp)) (!en) [.Assign [.Name er uH] (.Name en uG) dB] oz] [] [] kB
structure O9(X:Cx)(C D:Addr)(y ke en er:Str)(iy ie ir:Nat):Prop where
 pn:X.pn=[]
 st:X.stack=X.env::X.outer
 fr:X.env.frame=!X.env.locals
 ex:X.ex=[]
 calm:X.calm=true
 nd:X.N.Nodup
 gk:Gl X ke
 mg:X.mg ke=!(.ref D)
 dk:(ke==(~~~3))=false
 qC:dj X.K C
 qD:dj X.K D
 up:rH X.K C D=true
 kC:Iw X.K C
 ie:X.N[ie]?=!en
 le:X.env.scope.names.lookup en=some .local
 de:(en==(~~~3))=false
 ce:(en==("__classdict__":Str))=false
 ir:X.N[ir]?=!er
 lr:Loc X.env.scope er
 fn:X.fn er=true\/X.env.scope.names.lookup er=some .local
 iy:X.N[iy]?=!y
 vy:sW X.env.scope y
 dy:(y==(~~~3))=false
 cy:(y==("__classdict__":Str))=false
 room:X.A.depth<recursionLimit
structure mV(params:Arguments)(scope:Scope):Prop where
 co:scope.isCoroutine=false
 gen:scope.isGenerator=false
 kind:scope.kind=.function
 nc:∀x∈scope.names,x.2≠.cell
 nl:∀x∈scope.names,x.2≠.local
 par:params=#[[],[],none,[],[],none,[]]
theorem mV.bind(h:mV params scope):bindArgs (PySem.W.kla_fn "<lambda>" qn params body scope cl pm (.ref c') iQ) #[[],[]]=pure []:=by rw[h.par];rfl
theorem Te{aj: ~~~1}{i:Nat}{x:Str}{v:V}{pos:Pos}{E:Value->Shared->Prop}{Q:Value->Shared->Prop}(I:L2.Inv X aj σ H s)(hN:X.N[i]?=!x)(hv:sW X.env.scope x)(hd:(x==(~~~3))=false)(bM:(x==("__classdict__":Str))=false)(e:σ[i]?=!(!v))(h:∀u,RelV v u->Q u s) :
  wpAny (~~~2) X.A (eval (.Name x pos) X.env) Q E s:=by
 obtain⟨m,hn,hl⟩:=I.loc;obtain⟨u,r,l⟩:=hl i x v hN e hv;have fin:=h u r;rcases l with ⟨hk,hm⟩ |⟨hk,c,hc,hcell⟩
 . exact EU (wpAny_loadName_local I.ok.kind hk hn hm fin) hd
 .
  rcases hk with hk |hk
  . exact EU (wpAny_loadName_cell I.ok.kind hk hc hcell fin) hd
  . exact EU (wpAny_loadName_free I.ok.kind hk hc hcell fin bM) hd
theorem Lk(T:O9 X C D y ke en er iy ie ir)(L:mV params scope)(I:L2.Inv X [] σ H s)(hS:S zf gf σ [] M H)(hK:zf.K=X.K)(hsw:swapsWith (.Name en uG) (!(.Name er uH)) dB.line X.env=pure false)(hsx:swapsWith (.Call (.Name y py) [] [] cM) none oq.line X.env=pure false)
  (hy:σ[iy]?=!(!(.ref p))) (jI:gf[ie]?=some .no) (hbr:ir∉zf.bor) (hnr:ie≠ir)
  (hp:H p=!(jV p (PySem.W.kla_obj "<lambda>" qn params body scope cl pm c' iQ))) (hc':H c'=!(fC qn c')) (Cl:rG N σ0 scope cl H s.heap) (hs0:Slots zf.K M H g0 σ0 []) (hn0:∀(i:Nat) (l:List Ev.D),g0[i]?≠!(.own l))
  (hb:∀xe,PassesOwn (~~~2) (X.A.deeper (PySem.W.envX qn scope s⁻¹ p (.ref c') cl)) (PySem.W.envX qn scope s⁻¹ p (.ref c') cl) xe->Cg (uE X N qn scope p (.ref c') cl s H xe) (zN zf M H) body g0 C Je)
  (h:∀s' σ' H' M' aB,L2.Inv X [] σ' H' s'->S zf (gf.set ir (.dat (.kF C))) σ' aB M' H'->ao M H M' H'->Q .next s') :
  wpAny (~~~2) X.A (exec (FQ y ke en er py cM oq kp uH uG dB oz kB) X.env) Q X.xe s:=by
 refine wpAny_Try_except (CU (qS (wpAny_Expr_any ?_ I.quiet hsx) (λ_ _ z=>False.elim z) λ_ _ z=>z))
 have hpo:=(I.hok p _ hp).1;have YD:=(I.hok c' _ hc').1;refine AG (Te I T.iy T.vy T.dy T.cy hy λu r=>?_)
 cases r;refine PySem.W.callWith_F0 #[_,_,_,_,hpo] (DM (B8 (FP (R:=λr s'=>∃x H1 aN M1,r=.error (.ref x)/\Ce X.prog X.w X.stack H s (λc o h=>c=.ref C/\o=none/\h=H1) (.ref x) s'/\S (zN zf M H) Je σ0 aN M1 H1/\ao M H M1 H1) I T.calm T.room hpo YD L.bind L.co L.gen L.kind L.nc Cl (S.into hS hs0 hn0) hb
  λx H1 aN M1 s'' cx S1 st=>#[x,H1,aN,M1,rfl,cx,S1,st]) ?_))
 rintro r s1 ⟨x,H1,aN,M1,e,cx,S1,st⟩;subst e;obtain⟨x',C',H',e,I1,fl,e1,_,e3⟩:=Ej T.ex I cx;cases e;cases e1;subst e3;refine Ax I1 T.pn T.st T.fr T.ex fl T.nd T.gk T.mg T.dk T.qC T.qD T.up T.ie T.le T.de T.ce T.ir T.lr T.fn hsw λs' I'=>?_
 have s2:=S.after hS rfl S1 st;have s3:=s2.laid (o:=wg C x) fl.no;have s4:S zf gf (σ.set ie (!(.ref x))) [] M1 (upd H' x (wg C x)):=s3.jz jI;obtain⟨R8,s5⟩:=s4.fM (d:=.kF C) (v:=.ref x) hbr (hK▸.kF T.kC (s2.fresh fl.no) aC);have s6:S zf (gf.set ir (.dat (.kF C))) (((σ.set ie (!(.ref x))).set ir (!(.ref x))).set ie none) R8 M1 (upd H' x (wg C x)):=s5.jz (by rw[gN (wP hnr)];exact jI)
 exact h s' _ _ M1 R8 I' s6 (st.trans (ao.laid fl.no))
end
end Ev
namespace L2
theorem YL{CX:zF}{P:Program}{w:World}{K:Frag}{mg:Str->Option Value}{base:Heap}{k:Nat}{f:Addr}{name qual:Str}{params:Arguments}{body:List Stmt}{scope:Scope}{dV kV doc pm bz ct oc:Value}{an od:Option Addr}
  {osl:Array (Option Value)}{N ps:List Str}{A:Around}{outer:List Env}{s:Shared}{H:Hp}{args:Args}{us:List Value}{vs:List V}{Q:VK}{E:XK} (lk:K.lookup f=!#[oc,od,.func (PySem.W.fnOf name qual params body scope dV kV doc pm an bz ct),osl]) (bM:PySem.W.codeIn K bz qual=true) (S:bI N ps scope)
  (hr:bK (k+1) A) (e0:De P w K mg base A outer s H) (hb:BindsTo s (PySem.W.fnOf name qual params body scope dV kV doc pm an bz ct) args (ps.zip us)) (r:Vals vs us) (hl:vs.length=ps.length)
  (hbody:∀s1,Inv (eU CX P w K mg base N qual scope f bz A outer s H E) [] (start N vs) H s1->wpAny (model P w) (A.deeper (envOfC qual scope s⁻¹ f bz)) (execs body (envOfC qual scope s⁻¹ f bz)) (SP (eU CX P w K mg base N qual scope f bz A outer s H E) [] { nx:=λ_ H'=>Q .non H',rt:=Q}) (eU CX P w K mg base N qual scope f bz A outer s H E).xe s1) :
  codeAny (model P w) A (.call (.ref f) args) (CR CX outer P w H s Q E) s:=by
 have KX:=e0.mod.vR.keeps λb o e=>(e0.bs b o e).1
 have lim:=e0.mod.nolimit.keeps λb o e=>(e0.bs b o e).1
 have hkind:∀y∈ps.zip us,scope.names.lookup y.1=some .local\/(scope.names.lookup y.1=some .cell/\((cellsFrom (s⁻¹+1) scope.names []).lookup y.1).isSome=true):=by
  rintro⟨n,v⟩ hy;rcases S.par n (EJ hy).1 with q |q
  . exact .inl q
  . exact .inr #[q,DF _ _ _ (.inl q)]
 refine codeAny_call_function hr.depth (KX _ _ lk) rfl S.co S.gen rfl (PySem.W.codeRec_of KX bM) (hb _ _ _ _ ?_);refine wpAny_newFunctionEnv_cells S.kind hkind λenv he s1 x=>?_
 subst he;refine#[lim.keeps x.toInCall.keep,codeAny_func ?_];have I:Inv (eU CX P w K mg base N qual scope f bz A outer s H E) [] (start N vs) H s1:=pC S hr.hd e0 hl r x;refine qS (hbody s1 I) (λfl s' hs=>?_) λe s' hs=>hs
 have fin:∀{σ':St}{H':Hp}{v:V}{u:Value},Inv (eU CX P w K mg base N qual scope f bz A outer s H E) [] σ' H' s'->RelV v u->Q v H'->CE outer P w H s Q u s':=
  λ{σ' H' v u} J rv q=>#[v,H',J.os,J.bare,J.base,J.hok,rv,q]
 cases fl with
 |ret u=>obtain⟨v,σ',H',J,rv,q⟩:=hs;exact fin J rv q
 |next=>obtain⟨σ',H',J,q⟩:=hs;exact fin (v:=V.non) J rfl q
 |brk=>obtain⟨_,_,_,q⟩:=hs;exact False.elim q
 |cont=>obtain⟨_,_,_,q⟩:=hs;exact False.elim q
end L2
namespace Ev
open L2
structure Tf(K:Frag)(mg:Str->Option Value)(sc:Scope)(N:List Str)(C D:Addr)(y ke en er:Str)(ie ir:Nat):Prop where
 nd:N.Nodup
 gk:sc.names.lookup ke=some .globalImplicit
 mg:mg ke=!(.ref D)
 dk:(ke==(~~~3))=false
 qC:dj K C
 qD:dj K D
 up:rH K C D=true
 kC:Iw K C
 eN:N[ie]?=!en
 le:sc.names.lookup en=some .local
 de:(en==(~~~3))=false
 ce:(en==("__classdict__":Str))=false
 rN:N[ir]?=!er
 lr:Loc sc er
 yN:N[0]?=!y
 vy:sW sc y
 dy:(y==(~~~3))=false
 cy:(y==("__classdict__":Str))=false
 ne:ie≠ir
 ie0:ie≠0
 ir0:ir≠0
theorem Tf.try{P:Program}{w:World}{K:Frag}{mg:Str->Option Value}{base:Heap}{N:List Str}{qual:Str}{sc:Scope}{f:Addr}{cd:Value}{A:Around}{outer:List Env}{s:Shared}{H:Hp}{E:XK}{C D:Addr}{y ke en er:Str}{ie ir k:Nat}
  (T:Tf K mg sc N C D y ke en er ie ir) (hr:bK k (A.deeper (envOfC qual sc s⁻¹ f cd))):O9 (eU v8 P w K mg base N qual sc f cd A outer s H E) C D y ke en er 0 ie ir:=
 #[rfl,rfl,rfl,rfl,rfl,T.nd,T.gk,T.mg,T.dk,T.qC,T.qD,T.up,T.kC,T.eN,T.le,T.de,T.ce,T.rN,T.lr,.inl rfl,T.yN,T.vy,T.dy,T.cy,by have:=hr.dp;show (A.deeper (envOfC qual sc s⁻¹ f cd)).depth<_;lia]
structure Ti(X:Cx)(qn:Str)(q c:Addr):Prop where
 hq:(q,qn)∈bO X.K
 hu:∀p∈bO X.K,p.1=q->p.2=qn
 hcode:X.env.code=.ref c
 hC:∀b:Heap,X.K.In b->PySem.W.CodeHd b c q
 hqn:X.env.qual ++ "<lambda>"=qn
 hbi:∀b:Heap,X.K.In b->b.BuiltinsAt X.mg q
 YC:mainGlobals≠q
structure Lt where
 params:Arguments
 body:Expr
 scope:Scope
 pos:Pos
noncomputable abbrev Lt.ex(l:Lt):Expr:=.Lambda l.params l.body l.scope l.pos
def Pa(X:Cx)(qn:Str)(M:List Addr)(H:Hp)(l:Lt)(v:V):Prop:=∃p c' iQ cl,v=.ref p/\p∉M/\c'∉M/\H p=!(jV p (PySem.W.kla_obj "<lambda>" qn l.params l.body l.scope cl ((X.mg "__name__").getD .none) c' iQ))/\H c'=!(fC qn c')/\
 (∀x c,cl.lookup x=!c->X.env.cells.lookup x=!c/\(x,NameKind.free)∈l.scope.names)/\∀y∈l.scope.names,y.2=.free->∃c,cl.lookup y.1=!c
section
theorem S.ext(s:S z g σ As M H)(h:H a=!(.ext f)):a∉M:=λhm=>by
 rcases s.live a hm with ⟨o,e,gr⟩ |e
 . rw[h]at e;cases e;exact gr
 . obtain⟨q,hq,rfl⟩:=i9.mp e;obtain⟨ps,h1,_⟩:=s.tab q hq;rw[h]at h1;cases h1
noncomputable def tLam(X:Cx)(z:Z)(g:G)(qn:Str)(l:Lt):TE:=λσ H Q=>∃As M,S z g σ As M H/\∀v H',S z g σ As M H'->ao M H M H'->Pa X qn M H' l v->(∀b xs,H b=!(.lst xs)->H' b=!(.lst xs))->Q v H'
theorem Tj(hK:z.K=X.K)(mk:Ti X qn q c)(B:bN X.env.scope l.scope)(L:mV l.params l.scope):PE X l.ex (tLam X z g qn l):=by rintro aj s σ H Q I ⟨As,M,hs,hQ⟩;exact FN I hs (by rw[hs.tt,hK];exact mk.hq) (by rw[hs.tt,hK];exact mk.hu) mk.hcode (mk.hC _ I.ok.mod.vR) mk.hqn (mk.hbi _ I.ok.mod.vR) mk.YC (by rw[L.par];rfl) B λp c' iQ cl H' s' I' S' st' np h1 h2 c1 c2 kl=>#[.ref p,H',I',rfl,hQ _ H' S' st' #[p,c',iQ,cl,rfl,np,S'.ext h2,h1,h2,c1,c2] kl]
end
section
variable{st:Stmt}{rest:List Stmt}{f C D p c':Addr}
theorem Tp(hK:z.K=X.K)(hr:bK (k+2) X.A)(hcalm:X.calm=true)(Ff:JH X.K fx qual st f fd)(bT:bq st=.Assign [.Name er Az] (.Constant .none j np) Wo::FQ y ke en er py cpos0 oq kp uH uG dB oz kB::rest)(Sc:bI Nf [y] (aE st))
  (hbd:L2.Binds X.K fd [y] []) (T:Tf X.K X.mg (aE st) Nf C D y ke en er ie ir) (L:mV params scope)
  (hbE:∀(Xf:Cx) (s:Shared) (H:Hp) (xe:Value->Shared->Prop) (zl:Z),Xf.prog=X.prog->Xf.w=X.w->Xf.K=X.K->Xf.mg=X.mg->Xf.base=X.base->bK (k+1) Xf.A->Xf.calm=true->PassesOwn (model Xf.prog Xf.w) (Xf.A.deeper (PySem.W.envX qn scope s⁻¹ p (.ref c') cl)) (PySem.W.envX qn scope s⁻¹ p (.ref c') cl) xe->zl.K=X.K->zl.bor=[]->Cg (uE Xf N qn scope p (.ref c') cl s H xe) zl body g0 C Je)
  (hrest:∀(bz:Value) (A:Around) (outer:List Env) (s:Shared) (H:Hp) (E:XK),PySem.W.codeIn X.K bz qual=true->bK k (A.deeper (envOfC qual (aE st) s⁻¹ f bz))->∀zf:Z,zf.K=X.K->zf.bor=[]->eV (eU v8 X.prog X.w X.K X.mg X.base Nf qual (aE st) f bz A outer s H E).qG zf rest ((List.replicate Nf.length .no).set ir (.dat (.kF C))) (.rt r) g3)
  (ho:bX [] g3 r=!r') (I1:L2.Inv X aj σ H s) (S1:S z g σ As M H) (hp1:H p=!(jV p (PySem.W.kla_obj "<lambda>" qn params body scope cl pm c' iQ))) (hc1:H c'=!(fC qn c')) (Cl0:rG N σ0 scope cl H s.heap) (hs0:Slots z.K M H g0 σ0 []) (hn0:∀(i:Nat) (l:List Ev.D),g0[i]?≠!(.own l))
  {us:List Value} (rv:Vals [.ref p] us) {E:Value->Shared->Prop}{Q:Value->Shared->Prop} (hQ:∀u v H' s' aB M',L2.Inv X aj σ H' s'->RelV v u->S z g σ aB M' H'->ao M H M' H'->cH z g σ aB M' H' r' v->Q u s'):wpAny (~~~2) X.A (call (.ref f) us) Q E s:=by
 obtain⟨oc,od,kV,doc,pm,an,bz,ct,osl,rfl,lk,bM⟩:=Ff.ex;have aM:us.length=1:=by rw[<- rv.length];rfl
 refine DM (B8 (YL (CX:=v8) (Q:=λv H'=>∃aB M',S z g σ aB M' H'/\ao M H M' H'/\cH z g σ aB M' H' r' v) (E:=λ_ _ _=>False) lk bM Sc hr I1.Jw (by have:=hbd s us I1.oA (by rw[pV];exact aM);rw[pV]at this;exact this) rv rfl λs2 J=>?_) λrr s' hq'=>?_)
 ·
  rw[bT];have hr1:bK (k+1) (X.A.deeper (envOfC qual (aE st) s⁻¹ f bz)):=hr.deeper _;have hr2:=hr1.mono (BI k);have TT:=T.try (P:=X.prog) (w:=X.w) (base:=X.base) (outer:=X.stack) (H:=H) (E:=λ_ _ _=>False) hr2
  refine CU (qS ((lT T.nd T.rN T.lr CJ rfl (.inl rfl)) [] s2 _ _ { nx:=λσ' H'=>σ'=(start Nf [.ref p]).set ir (some .non)/\H'=H,rt:=λ_ _=>False} (J.wish _) #[rfl,rfl]) (λfl s3 q3=>?_) λ_ _ z=>False.elim z)
  cases fl with
  |ret u=>obtain⟨_,_,_,_,_,q⟩:=q3;exact q.elim
  |brk=>obtain⟨_,_,_,q⟩:=q3;exact q.elim
  |cont=>obtain⟨_,_,_,q⟩:=q3;exact q.elim
  |next=>
   obtain⟨σ3,H3,I3,e1,e2⟩:=q3;subst e1 e2;have I3:=I3.bU;have len0:(start Nf [.ref p]).length=Nf.length:=by have:=J.len;exact this
   have sl0:Slots z.K M H3 (List.replicate Nf.length .no) (start Nf [.ref p]) []:=by rw[<- len0];exact Slots.nos' _
   have YM:∀(i:Nat) (l:List Ev.D),(List.replicate Nf.length Slot.no)[i]?≠!(.own l):=λi l e=>by
    have:=pE e;rw[BC]at this;cases this.2
   have S3:=S.into S1 sl0 YM;obtain⟨wz,S4⟩:=S3.fM (λh=>nomatch h) .non
   have hA4:wz=[]:=by
    have key:∀{g:G}{σ:Sg}{As:List Addr},Slots z.K M H3 g σ As->(∀(i:Nat) (l:List Ev.D),g[i]?≠!(.own l))->As=[]:=λq=>by
     induction q with
     |nil=>intro _;rfl
     |no _ ih=>intro h;exact ih λi l e=>h (i+1) l e
     |dat _ _ ih=>intro h;exact ih λi l e=>h (i+1) l e
     |own _ _ _ ih=>intro h;exact absurd rfl (h 0 _)
    refine key S4.sl λi l e=>?_
    by_cases hi:i=ir
    .
     subst hi;rw[nE (by rw[tP];exact (eJ.mp T.rN).1)]at e
     cases e
    . rw[gN (wP hi)]at e;exact YM i l e
   subst hA4;have hy:((start Nf [.ref p]).set ir (some .non))[0]?=!(!(.ref p)):=by rw[gN T.ir0];rfl
   have jI:((List.replicate Nf.length Slot.no).set ir (.dat .non))[ie]?=some .no:=by rw[gN (wP T.ne),List.getElem?_replicate,tJ (eJ.mp T.eN).1]
   have un3:=I3.base;have Wq:=hK;refine CU (Lk (σ0:=σ0) TT L I3 S4 Wq rfl rfl hy jI (λh=>nomatch h) T.ne hp1 hc1 (Cl0.un un3) hs0 hn0
    (λxe hx=>hbE _ s3 H3 xe _ rfl rfl rfl rfl rfl hr1 rfl hx hK rfl) λs4 σ4 H4 M4 wz I4 S5 xO=>?_)
   obtain⟨t,pt,kt⟩:=hrest bz X.A X.stack s H3 (λ_ _ _=>False) bM hr2 (zN z M H3) hK rfl
   rw[List.set_set]at S5;refine pt.qG [] s4 σ4 H4 _ I4 (kt σ4 wz M4 H4 _ S5 λv σ5 R8 M5 H5 S6 st6 R6=>?_)
   obtain⟨M6,S7,st7,R7⟩:=S1.leave .nil rfl AA S6 (xO.trans st6) R6 rfl ho;exact#[_,M6,S7,st7,R7]
 .
  cases rr with
  |error ev=>exact False.elim hq'
  |ok flw=>
   cases flw with
   |ret u=>obtain⟨v,H',I',r1,aB,M',a,b,d⟩:=I1.after hq';exact hQ u v H' s' aB M' I' r1 a b d
   |next=>exact False.elim hq'
   |brk=>exact False.elim hq'
   |cont=>exact False.elim hq'
end
def FT(Y X:Cx)(z:Z)(g:G)(qn:Str)(l:Lt)(r':R)(f:Addr):Prop:=
 ∀{aj: ~~~1}{σ1 σ0:Sg}{H1:Hp}{s1:Shared}{g1:G}{As A0 M:List Addr}{p c':Addr}{cl:List (Str×Addr)}{pm iQ:Value}{us:List Value}{Q E:Value->Shared->Prop},L2.Inv Y aj σ1 H1 s1->S z g1 σ1 As M H1->H1 p=!(jV p (PySem.W.kla_obj "<lambda>" qn l.params l.body l.scope cl pm c' iQ))->H1 c'=!(fC qn c')->
  rG X.N σ0 l.scope cl H1 s1.heap->Slots z.K M H1 g σ0 A0->Vals [.ref p] us->(∀u v H' s' aB M',L2.Inv Y aj σ1 H' s'->RelV v u->S z g1 σ1 aB M' H'->ao M H1 M' H'->cH z g1 σ1 aB M' H' r' v->Q u s')->wpAny (model Y.prog Y.w) Y.A (call (.ref f) us) Q E s1
section
variable{st:Stmt}
theorem Ln(hK:z.K=X.K)(Ff:JH X.K fx qual st f fd)(hg:Gl X fx)(hm:X.mg fx=!(.ref f))(iU:(fx==(~~~3))=false)(mk:Ti X qn q c)(B:bN X.env.scope l.scope)(L:mV l.params l.scope)(hcall:FT X X z g qn l r' f):aA X z (.Call (.Name fx fp) [l.ex] [] cM) g r' g:=by
 refine#[λσ H Q=>∃As M,S z g σ As M H/\∀v H' aB M',S z g σ aB M' H'->ao M H M' H'->cH z g σ aB M' H' r' v->Q v H',?_,λσ As M H Q s kq=>#[As,M,s,λv H' aB M'=>kq v H' aB M']]
 rintro aj s σ H Q I ⟨As,M,hs,hQ⟩;refine AG (eH I hg hm ?_ iU);refine C9 I.ok.mod.vR Ff.kp (qS ((bB (Tj hK mk B L) eS rfl) cM aj s σ H (λvs H'=>∃v,vs=[v]/\S z g σ As M H'/\ao M H M H'/\Pa X qn M H' l v) I #[As,M,hs,λv H' a b d _=>#[v,rfl,a,b,d]]) (λus s1 q1=>?_) λ_ _ z=>z) rfl rfl
 obtain⟨vs,H1,I1,rv,_,rfl,S1,bS,p,c',iQ,cl,rfl,np1,nc1,hp1,hc1,Jd,Tc⟩:=q1;exact#[I1.oA,hcall I1 S1 hp1 hc1 (Lj I1 B L.nl Jd Tc) S1.sl rv λu v H' s' aB M' I' r1 a b d=>#[v,H',I',r1,hQ v H' aB M' a (bS.trans b) d]]
end
section
theorem FW(hw:∀u,RelV w u->u=cv):bV X (.builtin "isinstance") (λxs H Q=>∃x M d b,xs=[x,w]/\Pk X.K M H d x/\PySem.W.kitOne X.K (Cb d) cv=!b/\Q (.bl b) H):=by intro aj s σ H xs us Q I r h;obtain⟨x,M,d,b,rfl,p,e,q⟩:=h;obtain⟨u,w',rfl,r1,r2⟩:=vals2 r;obtain rfl:=hw _ r2;exact DQ I p r1 e λtk=>#[.bl b,H,I.tok tk,rfl,q]
theorem FZ(hK:z.K=X.K)(h:aA X z a g r1 g1)(hp:pk r1 g1=!d)(he:∀M H v,Pk X.K M H d v->PySem.W.kitOne X.K (Cb d) cv=!b)
  (hg:Gl X "isinstance") (hm:X.mg "isinstance"=none) (hv:bootBuiltins "isinstance"=!(.builtin "isinstance")) (hw:∀u,RelV w u->u=cv) (pT':PE X (.Name T pT) (tC w))
  (hs:starEach [a,.Name T pT] X.env=(false,eval a X.env)::starEach [.Name T pT] X.env):aA X z (.Call (.Name "isinstance" p) [a,.Name T pT] [] pos) g (.dat (.bl b)) g1:=by
 obtain⟨t,q,k⟩:=h;refine#[_,jf (FW hw) hg hm hv (bB q (bB pT' eS) hs) ⋯ ⋯ hs,λσ As M H Q s kk=>k σ As M H _ s λv H' aB M' s' st R=>?_]
 have p:=hK▸s'.pk (ao.refl _ _) R hp;exact#[v,M',d,b,rfl,p,he _ _ _ p,kk _ H' aB M' s' st (.bl b)]
end
open L2 PySem.W
noncomputable def fB:Slot->Slot
 |.own l=>.dat (.lst l)
 |s=>s
noncomputable def flat:D->Bool
 |.non=>true
 |.bl _=>true
 |.int _=>true
 |.str _=>true
 |_=>false
theorem Rep.flat{K:Frag}{M M':List Addr}{H H':Hp}{d:D}{v:V}(r:Rep K M H d v)(h:Ev.flat d=true):Rep K M' H' d v:=by
 cases r with
 |non=>exact .non
 |bl b=>exact .bl b
 |int i=>exact .int i
 |str x=>exact .str x
 |_=>symm
section
variable{g g':G}
theorem Slots.atA{K:Frag}(q:Slots K M H g σ As){a:Addr}(h:a∈As):∃(i:Nat) (l:List D) (xs:List V),g[i]?=!(Slot.own l)/\σ[i]?=!(!(V.ref a))/\H a=!(.lst xs):=by
 induction q with
 |nil=>symm
 |no _ ih=>obtain⟨i,l,xs,h1,h2,h3⟩:=ih h;exact#[i+1,l,xs,h1,h2,h3]
 |dat _ _ ih=>obtain⟨i,l,xs,h1,h2,h3⟩:=ih h;exact#[i+1,l,xs,h1,h2,h3]
 |own e _ _ ih=>
  rcases dA.mp h with rfl |h
  . exact#[0,_,_,rfl,rfl,e]
  . obtain⟨i,l,xs,h1,h2,h3⟩:=ih h;exact#[i+1,l,xs,h1,h2,h3]
theorem Slots.fB{K:Frag}{M0:List Addr}(q:Slots K M H g σ As)(hl:∀m∈M0,m∈M)(hn:∀a∈As,a∉M0):Slots K M0 H (g.map Ev.fB) σ []:=by
 induction q with
 |nil=>exact .nil
 |no _ ih=>exact .no (ih hn)
 |dat r _ ih=>exact .dat (r.stay (ao.less hl)) (ih hn)
 |own e r _ ih=>exact .dat (.lst #[hn _ bP,e] (r.stay (ao.less hl))) (ih λa ha=>hn a (a8 _ ha))
theorem Lp{i:Nat}{l:List D}(h:(g.map Ev.fB)[i]?=!(.own l)):False:=by
 rw[oC]at h;cases e:g[i]? with
 |none=>rw[e]at h;symm
 |some u=>rw[e]at h;cases u <;> symm
theorem S.h0(s:S z g σ As M H)(hb:z.bor=[])(h:a∈As):z.H0 a=none:=by
 obtain⟨i,l,xs,h1,h2,_⟩:=s.sl.atA h;rcases s.own i a l h1 h2 with ⟨q,_⟩ |q
 . rw[hb]at q;cases q
 . exact q
theorem S.Ga(s:S z g σ As M H)(hb:z.bor=[]):S z (g.map Ev.fB) σ [] (M.filter λm=>decide (m∉As)) H where
 sl:=s.sl.fB (λm hm=>(mI.mp hm).1) λa ha hm=>by have:=(mI.mp hm).2;simp at this;exact this ha
 nd:=AA
 sub:=λa h=>nomatch h
 own:=λi a l e _=>(Lp e).elim
 live:=λm hm=>s.live m (mI.mp hm).1
 keep:=s.keep
 fH:=λm hm=>mI.mpr #[s.fH m hm,by
  have:m∉As:=λh=>s.m0 m hm (s.h0 hb h)
  simpa using this]
 m0:=s.m0
 bm:=s.bm
 gU:=λp hp=>by
  have:p.1∈z.bor:=yB hp;rw[hb]at this;cases this
 tab:=s.tab
 tm:=s.tm
 tt:=s.tt
theorem S.YQ(s:S z g σ As M H)(hb:z.bor=[]){g1:G}{σ1:Sg}(s1:S z g1 σ1 aN M1 H1)(st:ao (M.filter λm=>decide (m∉As)) H M1 H1):S z g σ As (As++M1) H1/\ao M H (As++M1) H1:=by
 have nA:∀a∈As,a∉M.filter λm=>decide (m∉As):=λa ha hm=>by have:=(mI.mp hm).2;simp at this;exact this ha
 have stM:ao M H (As++M1) H1:=λb o e hb'=>by
  have h1:=st b o e λhm=>hb' (mI.mp hm).1
  refine#[h1.1,λhm=>?_]
  rcases kA.mp hm with hm |hm
  . exact hb' (s.sub b hm)
  . exact h1.2 hm
 have lists:∀a∈As,∃xs,H1 a=!(.lst xs):=λa ha=>by
  obtain⟨_,_,xs,_,_,e⟩:=s.sl.atA ha;exact#[xs,(st a _ e (nA a ha)).1]
 refine#[#[s.sl.stay stM λa ha o e=>(st a o e (nA a ha)).1,s.nd,λa ha=>mP _ ha,s.own,λm hm=>?_,s1.keep,λm hm=>hV _ (s1.fH m hm),s.m0,s.bm,s.gU,s1.tab,s.tm,s.tt],stM]
 rcases kA.mp hm with hm |hm
 . obtain⟨xs,e⟩:=lists m hm;exact .inl #[_,e,trivial]
 . exact s1.live m hm
theorem Lq(hb:z.bor=[])(hf:Ev.flat d=true)(h:aA X z e (g.map Ev.fB) (.dat d) g1):aA X z e g (.dat d) g:=by
 obtain⟨t,q,k⟩:=h;refine#[t,q,λσ As M H Q s kk=>k σ [] _ H Q (s.Ga hb) λv H1 aN M1 s1 st R=>?_]
 obtain⟨a,b⟩:=s.YQ hb s1 st;exact kk v H1 As _ a b (Rep.flat R hf)
def jA:D->Bool
 |.tup l=>l.all flat
 |d=>flat d
theorem aG.flat{K:Frag}{l:List D}{xs:List V}(r:aG K M H l xs)(h:l.all Ev.flat=true):aG K M1 H1 l xs:=by
 induction l generalizing xs with
 |nil=>cases r;exact .nil
 |cons d l ih=>
  cases r with
  |cons r t=>rw[List.all_cons,gL]at h;exact .cons (Rep.flat r h.1) (ih t h.2)
theorem Rep.jA{K:Frag}{d:D}{x:V}(r:Rep K M H d x)(h:Ev.jA d=true)(hA:∀a∈As,∃ys,H a=!(.lst ys)):Rep K (As++M) H d x:=by
 cases r with
 |tup t rr=>
  have nA:∀{a:Addr}{o:HO},H a=!o->(∀ys,o≠.lst ys)->a∉M->a∉As++M:=λe n m hm=>by
   rcases kA.mp hm with hm |hm
   . obtain⟨ys,e2⟩:=hA _ hm;rw[e]at e2;cases e2;exact n _ rfl
   . exact m hm
  rcases t with ⟨n,t |⟨o,t⟩⟩ |t
  . exact .tup (.inl #[nA t (λ_ e=>nomatch e) n,.inl t]) (aG.flat rr h)
  . exact .tup (.inl #[nA t (λ_ e=>nomatch e) n,.inr #[o,t]]) (aG.flat rr h)
  . exact .tup (.inr t) (aG.flat rr h)
 |non=>exact .non
 |bl b=>exact .bl b
 |int i=>exact .int i
 |str x=>exact .str x
 |_=>symm
theorem aG.jA{K:Frag}{l:List D}{xs:List V}(r:aG K M H l xs)(h:l.all Ev.jA=true)(hA:∀a∈As,∃ys,H a=!(.lst ys)):aG K (As++M) H l xs:=by
 induction l generalizing xs with
 |nil=>cases r;exact .nil
 |cons d l ih=>
  cases r with
  |cons r t=>rw[List.all_cons,gL]at h;exact .cons (r.jA h.1 hA) (ih t h.2)
theorem Gb{X:Cx}{e:Expr}{l:List D}{g1:G}(hb:z.bor=[])(hf:l.all Ev.jA=true)(h:aA X z e (g.map Ev.fB) (.new l) g1):aA X z e g (.new l) g:=by
 obtain⟨t,q,k⟩:=h;refine#[t,q,λσ As M H Q s kk=>k σ [] _ H Q (s.Ga hb) λv H1 aN M1 s1 st R=>?_]
 obtain⟨a,b⟩:=s.YQ hb s1 st;obtain⟨p,xs,rfl,r1,r2,r3,r4,r5⟩:=R;have hA:∀a∈As,∃ys,H1 a=!(.lst ys)/\a∉M1:=λa hp=>by
  obtain⟨_,_,ys,_,_,e⟩:=s.sl.atA hp;exact#[ys,st a _ e λhm=>by have:=(mI.mp hm).2;simp at this;exact this hp]
 exact kk _ H1 As _ a b #[p,xs,rfl,hV _ r1,λhp=>by obtain⟨ys,_,n⟩:=hA p hp;exact n r1,r3,r4,aG.jA r5 hf λa ha=>by obtain⟨ys,e,_⟩:=hA a ha;exact#[ys,e]]
end
inductive Wr(X:Cx):List Stmt->List TS->Prop
 |nil:Wr X [] []
 |cons {s:Stmt}{ss:List Stmt}{t:TS}{ts:List TS}:PS X s t->Wr X ss ts->Wr X (s::ss) (t::ts)
def Tq:List TS->TS->TS
 | [],u=>u
 |t::ts,u=>Xd t (Tq ts u)
theorem Wr.pss{X:Cx}{ss rest:List Stmt}{ts:List TS}{u:TS}(h:Wr X ss ts)(hu:sO X rest u):sO X (ss++rest) (Tq ts u):=by
 induction h with
 |nil=>exact hu
 |cons a _ ih=>exact cZ a ih
def mW(X:Cx)(z:Z)(ss:List Stmt)(g:G)(f:Fl)(g':G):Prop:=
 ∃ts,Wr X ss ts/\∀(u:TS) σ As M H (E:Ends),S z g σ As M H->pK z M H { E with nx:=u E} g' f->Tq ts u E σ H
theorem mW.lift(h:mW X.qG z ss g f g'):mW X z ss g f g':=by
 obtain⟨ts,q,k⟩:=h;refine#[ts,?_,k];clear k
 induction q with
 |nil=>exact .nil
 |cons a _ ih=>exact .cons (λaj s σ H D I hw=>qS (a aj s σ H D (I.wish _) hw) (λ_ _ q=>q.bU) λ_ _ z=>False.elim z) ih
theorem mW.bk{X:Cx}{z:Z}{ss rest:List Stmt}{g g1 g':G}{f:Fl}(h:mW X z ss g .nx g1)(h2:eV X z rest g1 f g'):eV X z (ss++rest) g f g':=by obtain⟨t2,q2,k2⟩:=h2;obtain⟨t,q,k⟩:=h;exact#[_,q.pss q2,λσ As M H E s kE=>k t2 σ As M H E s λσ' aB M' H' s' st=>k2 σ' aB M' H' E s' (kE.trans st)]
theorem mW.end{X:Cx}{z:Z}{ss rest:List Stmt}{g g':G}{f:Fl}(h:mW X z ss g f g')(hn:f≠.nx):eV X z (ss++rest) g f g':=by
 obtain⟨t,q,k⟩:=h;refine#[_,q.pss bw,λσ As M H E s kE=>k _ σ As M H E s ?_]
 cases f with
 |nx=>exact absurd rfl hn
 |rt r=>exact kE
 |bk=>exact kE
 |ct=>exact kE
theorem mW.ra{X:Cx}{z:Z}{ss rest:List Stmt}{g g1 g':G}{C:Addr}(h:mW X z ss g .nx g1)(h2:KC X z rest g1 C g'):KC X z (ss++rest) g C g':=by obtain⟨t2,q2,k2⟩:=h2;obtain⟨t,q,k⟩:=h;exact#[_,q.pss q2,λσ As M H E s kE=>k t2 σ As M H E s λσ' aB M' H' s' st=>k2 σ' aB M' H' E s' (kE.trans st)]
inductive Lr(z:Z)(As M:List Addr)(H:Hp):List Addr->List (List D)->Prop
 |nil:Lr z As M H [] []
 |cons {p:Addr}{as:List Addr}{xs:List V}{l:List D}{ll:List (List D)}:p∈M->p∉As->z.H0 p=none->H p=!(.lst xs)->aG z.K M H l xs->Lr z As M H as ll->Lr z As M H (p::as) (l::ll)
def Rows(z:Z)(g:G)(iy:Nat)(M0:List Addr)(H0:Hp)(ll:List (List D))(σ:Sg)(H:Hp):Prop:=
 ∃As M a as,S z g σ As M H/\ao M0 H0 M H/\σ[iy]?=!(!(.ref a))/\a∈M/\a∉As/\z.H0 a=none/\H a=!(.lst (as.map .ref))/\a∉as/\as.Nodup/\Lr z As M H as ll
theorem S.yD:∀(ps:List Addr) {M:List Addr},S z g σ As M H->(∀p∈ps,p∉As/\z.H0 p=none)->∃M',S z g σ As M' H/\(∀m∈M',m∈M)/\∀p∈ps,p∉M'
 | [],M,s,_=>#[M,s,λ_ h=>h,λ_ h=>nomatch h]
 |p::ps,M,s,h=>by
  obtain⟨h1,h2⟩:=h p bP;obtain⟨M',s',k1,k2⟩:=S.yD ps (s.drop h2 h1) λq hq=>h q (a8 _ hq)
  refine#[M',s',λm hm=>(mI.mp (k1 m hm)).1,λq hq=>?_]
  rcases dA.mp hq with rfl |hq
  . intro hm;have:=(mI.mp (k1 _ hm)).2;simp at this
  . exact k2 q hq
end Ev
namespace HT
open PySem PyProof.Rows
end HT
namespace Ev
open L2
section
variable{X:Cx}{z:Z}{g g1 g2:G}{pn pos fZ:Pos}{e ix:Expr}{i:Nat}{x:Str}{l l0 l1:List D}
noncomputable def rGet:V->V->Hp->VK->Prop:=λx y H Q=>∃p xs v,∃n:Nat,x=.ref p/\y=.int n/\H p=!(.lst xs)/\xs[n]?=!v/\Q v H
theorem Gd:Xi X rGet:=by intro aj s σ H o i ov iv Q I ro ri h;obtain⟨p,xs,v,n,rfl,rfl,hp,hx,q⟩:=h;cases ro;obtain⟨t,rfl⟩:=ri;obtain⟨its,r,pl,hz⟩:=I.list (bD.of hp);obtain⟨w,ew,rw'⟩:=r.get hx;have hn:=(eJ.mp hx).1;rw[t7]at hz;exact wpAny_getItem_list pl.isList (Int.natCast_nonneg _) ⋯ (by simpa using ew) #[v,H,I,rw',q]
theorem Ge{n:Nat}{a b:Int}(hN:X.N[i]?=!x)(hv:sW X.env.scope x)(hd:(x==(~~~3))=false)(bM:(x==("__classdict__":Str))=false)(hg:g[i]?=!(.own l0))(h2:aA X z ix g ‹n› g1)(zW:g1[i]?=!(.own l1))(hx:l1[n]?=!(.int a))(h:aA X z e g1 ‹b› g2)(Kl:g2[i]?=!(.own l))(hn:Ca l.length n=!n)
  (ha:∀ov iv new,augStore ix ov iv new=(do holding [new,ov,iv] (setItem ov iv new);release [new,ov,iv] [];pure .next)) :
  fD X z (.AugAssign (.Subscript (.Name x pn) ix fZ) .Add e pos) g .nx (g2.set i (.own (l.set n (.int (a+b))))):=by
 obtain⟨t2,q2,k2⟩:=h2;obtain⟨t,q,kk⟩:=h;refine#[_,Js (fK hN hv hd bM) q2 Gd q Qo set_list ha,λσ As M H E s kE=>?_]
 obtain⟨p,xs,e1,e2,e3,e4⟩:=s.sl.at hg;refine#[.ref p,e1,k2 σ As M H _ s λw H1 aN M1 s1 bS R1=>?_]
 cases R1;obtain⟨p1,ys,f1,f2,f3,f4⟩:=s1.sl.at zW;rw[e1]at f1;injection f1 with f1;injection f1 with f1;injection f1 with f1;subst f1;obtain⟨v,gv,rv⟩:=f4.get hx;cases rv;refine#[p,ys,.int a,n,rfl,rfl,f3,gv,kk σ aN M1 H1 _ s1 λw2 H2 bE M2 s2 aL R2=>?_]
 cases R2;obtain⟨p2,zs,w1,w2,w3,w4⟩:=s2.sl.at Kl;rw[e1]at w1;injection w1 with w1;injection w1 with w1;injection w1 with w1;subst w1;refine#[a,b,rfl,rfl,p,zs,n,n,rfl,rfl,w3,by rw[<- w4.length];exact hn,?_]
 obtain⟨s3,fy⟩:=s2.write Kl e1 (aG.set (.int _) n w4);exact kE σ bE M2 _ s3 (bS.trans (aL.trans fy))
end
open L2 PySem.W SeqAt
open L2 PySem.W SeqAt
open L2 PySem.W SeqAt
open L2 PySem.W SeqAt
end Ev
namespace Sb
open PySem
def Ris(xs:Array Nat):Prop:=∀i k,i<k->k<xs.size->xs.getD i 0<xs.getD k 0
end Sb
namespace Sb
open PySem
theorem rJ{α:Type}:∀(l:List α) (i:Nat) (h:i<l.length),(l[i]::l.eraseIdx i).Perm l
 | [],_,h=>absurd h (BQ _)
 |a::l,0,_=>.refl _
 |a::l,i+1,h=>by
  have h':i<l.length:=by simpa using h
  have:((a::l)[i+1]::(a::l).eraseIdx (i+1))=l[i]::a::l.eraseIdx i:=rfl;exact (List.Perm.swap a l[i] _).trans (.cons a (rJ l i h'))
theorem yE{α:Type}(next:Nat->Nat):∀(n k:Nat) (l:List α) (out:Array α),l.length=n->(pickOrder.go next n k l out).toList.Perm (out.toList++l)
 | 0,k,l,out,h=>by
  cases l with
  |nil=>simp[pickOrder.go]
  |cons _ _=>simp at h
 |n+1,k,l,out,h=>by
  have hl:next k % l.length<l.length:=Nat.mod_lt _ ⋯;unfold pickOrder.go;rw[mB hl];refine (yE next n (k+1) _ _ (by rw[List.length_eraseIdx_of_lt hl];lia)).trans ?_
  rw[CD,kS];refine List.Perm.append_left _ ?_;exact rJ _ _ hl
theorem Ba{α:Type}(next:Nat->Nat)(xs:Array α):(pickOrder next xs).toList.Perm xs.toList:=by have:=yE next xs.size 0 xs.toList ([].toArray) ⋯;simpa [pickOrder]using this
theorem Ls(a:Addr):setWalk a=(do
  let (es,epoch,t) <- setState a
  if <- setsByText then return pickOrder ((<- ask).params.setOrder a epoch) es
  if (not t.plain)&&es.size > 1 then return (<- drawOrder es.size es.toList).toArray
  (do if (not t.led)&&es.size > 1 then unsupported "set:maker-not-led":Sem Unit)
  return es):=rfl
section
variable{prog:Program}{w:World}{A:Around}{E:Value->Shared->Prop}{s:Shared}
theorem Lv(a:Addr)(slot given ep0:Nat):setNext a slot given ep0=(do
  let (es,epoch,t) <- setState a
  if <- setsByText then
   if epoch != ep0 then unsupported "set_iterator.__next__:elements-changed"
   return ((<- setWalk a)[given]?).map λe=>(e.2,slot)
  if (not t.plain)&&es.size > 1 then unsupported "set_iterator.__next__:the-table-is-plain-no-more"
  (do if (not t.led)&&(not es.isEmpty) then unsupported "set:maker-not-led":Sem Unit)
  let i:=SetTable.below t.place slot
  return match es[i]?,t.place[i]? with
   |!(_,x),!j=>!(x,j+1)
   |_,_=>none):=rfl
end
end Sb
namespace Sb
open PySem
theorem Gf:Manifest.owners.lookup (String.ofList ['r','o','t','a','r','e','t','i','_','t','e','s'].reverse)=!Manifest.sig_set_iterator:=by kernel_rfl
theorem aP:Slot "set_iterator" "__next__" "set_iterator.__next__" :=
 .of (owner:= "set_iterator") (n:= "__next__") (by rw[typeLookup_type];kernel_rfl) (by decide +kernel) (by decide +kernel) (by decide +kernel)
  (by first |exact .inl (by decide +kernel) |exact .inr (by decide +kernel)) (by rw[isSubtype_type];kernel_rfl)
theorem cC:entryFor table "set_iterator.__next__"=some Builtin.«set_iterator.__next__»:=entryFor_of_tree (by kernel_rfl)
theorem cU(a:Value):argsOk "set_iterator.__next__" #[[a],[]]:=by unfold argsOk;rw[signature?_of (n:=['_','_','t','x','e','n','_','_']) (by kernel_rfl) Gf];kernel_rfl
theorem jB:Slot "set_iterator" "__iter__" "set_iterator.__iter__" :=
 .of (owner:= "set_iterator") (n:= "__iter__") (by rw[typeLookup_type];kernel_rfl) (by decide +kernel) (by decide +kernel) (by decide +kernel)
  (by first |exact .inl (by decide +kernel) |exact .inr (by decide +kernel)) (by rw[isSubtype_type];kernel_rfl)
theorem oM:entryFor table "set_iterator.__iter__"=some Builtin.«dict_keyiterator.__iter__»:=
 entryFor_alias (id':= "dict_keyiterator.__iter__") (by kernel_rfl) (by first |rfl |decide +kernel | (unfold String.splitOn;simp +decide [String.splitOnAux])) (by decide +kernel) (by kernel_rfl)
theorem rK(a:Value):argsOk "set_iterator.__iter__" #[[a],[]]:=by unfold argsOk;rw[signature?_of (n:=['_','_','r','e','t','i','_','_']) (by kernel_rfl) Gf];kernel_rfl
theorem mX:entryFor table "set.__iter__"=some Builtin.«frozenset.__iter__»:=
 entryFor_alias (id':= "frozenset.__iter__") (by kernel_rfl) (by first |rfl |decide +kernel | (unfold String.splitOn;simp +decide [String.splitOnAux])) (by decide +kernel) (by kernel_rfl)
section
variable{prog:Program}{w:World}{A:Around}{E:Value->Shared->Prop}{s:Shared}
theorem Gg(a:Addr):setDrawn a=(do
  let (es,_,t) <- setState a
  let Tr <- setsByText
  return (not Tr)&&((not t.plain)&&es.size > 1)):=rfl
end
end Sb
namespace Sb
open PySem PySem.W PyProof.Rows
section
variable{prog:Program}{w:World}{A:Around}{E:Value->Shared->Prop}{s:Shared}
theorem Gh(hT:s.TypeIs (.ref a) "set")(h:Q false s):wpAny (model prog w) A (Builtin.List.listLengthHint (.ref a)) Q E s:=by
 refine aS (wpAny_specialOf hT F.slot_set_len.lookup ?_);have e:splitId "set.__len__"=!("set", "__len__"):=by decide +kernel
 dsimp only;rw[e];refine aS (B4 hT sub_set_self ?_);simp only[Bool.not_true,DB,↓reduceIte];exact aS (wpAny_typeOf hT (dL h))
end
end Sb
namespace Sb
open PySem
noncomputable def way(t:SetTable)(h:Int):Nat->SetTable.Probe
 | 0=>t.probeStart h
 |k+1=>t.advance (way t h k)
def Live(t:SetTable)(j:Nat):Prop:=∃i,t.slot j=.live i
structure Tab(t:SetTable)(hs:Nat->Int)(n:Nat):Prop where
 sz:t.place.size=n
 ris:Ris t.place
 dum:t.dummies = ([].toArray)
 on:∀i,i<n->∃k,(way t (hs i) k).j=t.place.getD i 0/\∀m,m<k->Live t (way t (hs i) m).j
end Sb
namespace Sb
open PySem
def stp(mask x:Nat):Nat:=(x * 5+1) % (mask+1)
noncomputable def its(mask:Nat):Nat->Nat->Nat
 | 0,x=>x
 |r+1,x=>stp mask (its mask r x)
end Sb
namespace Sb
open PySem
end Sb
namespace Sb
open PySem
noncomputable def bare(mask:Nat):SetTable:={ mask,place:=([].toArray),dummies:=([].toArray),finger:=0,led:=true,moves:=0,plain:=true}
end Sb
namespace Sb
open PySem
end Sb
namespace Sb
open PySem
def hsF(es:Array (Int×Value))(i:Nat):Int:=(es[i]?.map (·.1)).getD 0
end Sb
namespace Sb
open PySem
def masks:List Nat:=[7,31,127,511,2047]
structure SetT(o:Obj)(es:Array (Int×Value))(ep:Nat)(t:SetTable):Prop where
 ex:o.ExactSet
 data:o.data=.set es ep t
 tab:Tab t (hsF es) es.size
 mq:t.mask∈masks
 room:es.size * 5<t.mask * 3
 plain:t.plain=true
end Sb
namespace Sb
open PySem
end Sb
namespace Sb
open PySem
end Sb
namespace Sb
open PySem
end Sb
namespace Sb
open PySem
end Sb
namespace Sb
open PySem
section
variable{prog:Program}{w:World}{A:Around}{E:Value->Shared->Prop}{s:Shared}{K:Type} [DecidableEq K] (knd:KeyKind prog w K) (B:List K->Addr->Prop)
def YS(h:Heap)(k:List K)(e:Int×Value):Prop:=∃b,B k b/\e=(tupleKeyHash knd k,.ref b)/\IsTupleKey knd h k b
def zB(h:Heap)(a:Addr)(ks:List (List K)):Prop:=
 ∃o es ep t,h.get? a=!o/\SetT o es ep t/\(w.params.followText "set-order"=false->t.led=true)/\ks.Nodup/\∃l:List (Int×Value),es.toList.Perm l/\ks.length=l.length/\∀(i:Nat) k e,ks[i]?=!k->l[i]?=!e->YS knd B h k e
variable{knd B}
end
end Sb
namespace Sb
open PySem
end Sb
namespace Sb
open PySem PyProof.Rows
section
variable{prog:Program}{w:World}{A:Around}{s s':Shared}{K:Type} [DecidableEq K] {knd:KeyKind prog w K}{B:List K->Addr->Prop}{R:Result->Shared->Prop}{I:Addr}{fp wr:List Addr}{G:Array GenState->Array GenState->Prop}{n:Nat}{P:Nat->Value->Prop}{St:Nat->Shared->Prop}
noncomputable def more(ks:List (List K))(k:List K):List (List K):=if k∈ks then ks else ks++[k]
def met(val:Nat->List K):Nat->List (List K)
 | 0=>[]
 |i+1=>more (met val i) (val i)
end
end Sb
namespace Sb
open PySem PyProof.Rows
end Sb
namespace Sb
open PySem PyProof.Rows
section
variable{prog:Program}{w:World}{A:Around}{E:Value->Shared->Prop}{s:Shared}{K:Type} [DecidableEq K] {knd:KeyKind prog w K}{B:List K->Addr->Prop}
theorem Gi(a:Value)
  (h:∀led:Bool,(w.params.followText "set-order"=false->led=true)->Q₁ (.ref s⁻¹) { s with heap:=s.heap.push { cls:=.type "set",dict:=none,data:=.set ([].toArray) 0 (.fresh 0 0 led)}}) :
  codeAny (model prog w) A (.call (.builtin "set.__new__") #[[.type "set",a],[]]) (wants Q₁ E) s:=by
 refine codeAny_of_tree ?_;refine aS (D4 (F.newCall_set_1 a) (dL #[B0 F.plain_set_new _,AJ F.entry_set_new ?_]));rw[Around.under_plainId F.plain_set_new _];unfold Builtin.«set.__new__» Builtin.Frozenset.newClass;have hsub:=sub_set_self;obtain⟨hp,g,d,tk,os⟩:=s;dsimp only
 wp_walk
 refine B5 (dL ?_);dsimp only;simp only[newObj];refine aS (wpAny_alloc (dL ?_));refine dL (h _ λhw=>?_)
 show ((not (w.params.followText "set-order")))=true;rw[hw];rfl
end
end Sb
namespace Sb
open PySem PyProof.Rows
section
variable{prog:Program}{w:World}{A:Around}{E:Value->Shared->Prop}{s:Shared}{K:Type} [DecidableEq K] {knd:KeyKind prog w K}{B:List K->Addr->Prop}
abbrev Bb (led:Bool):Obj:={ cls:=.type "set",dict:=none,data:=.set ([].toArray) 0 (.fresh 0 0 led)}
end
end Sb
namespace Sb
open PySem PySem.W PyProof.Rows Ev
section
variable{prog:Program}{w:World}{A:Around}{E:Value->Shared->Prop}{s:Shared}{B: ~~~0->Addr->Prop}
noncomputable def adr(p: ~~~0×(Int×Value)):Addr:=match p.2.2 with |.ref b=>b |_=>0
end
end Sb
namespace Ev
open L2 PySem.W
section
variable{prog:Program}{w:World}{A:Around}{R:Result->Shared->Prop}{I S:Addr}{fp wr:List Addr}{n:Nat}{P:Nat->Value->Prop}{St:Nat->Heap->Prop}{h0:Heap}{bt:Nat->Nat->Bool}{kw:List (Str×Value)}
abbrev Jf(h h':Heap):Prop:=∀b o,h.get? b=!o->h'.get? b=!o
def yF(prog:Program)(w:World)(A:Around)(h0:Heap)(P:Nat->Value->Prop)(bt:Nat->Nat->Bool):Prop:=
 ∀i j u v (s:Shared) (Q E:Value->Shared->Prop),Jf h0 s.heap->P i u->P j v->Q (.bool (bt i j)) s->wpAny (model prog w) A (richCompare .Lt u v) Q E s
theorem wM(W:Walks prog w A.in1 I fp wr n P St)(hc:yF prog w A.in1 h0 P bt)(hS:S∉fp)(hw:∀b o,h0.get? b=!o->b∉wr/\b≠S):∀(k j:Nat) (s:Shared) (v:Value) (c:Nat),n - (j+1)=k->j+1<=n->St (j+1) s.heap->P (argBest bt j) v->Jf h0 s.heap->
   s.heap.get? S=some { cls:=.type "list",dict:=none,data:=.seq ([v,v].toArray) c,slots:=([].toArray)}->(∀u h tk,P (argBest bt (n - 1)) u->Jf h0 h->R (.ok (.ret u)) { s with heap:=h,toks:=tk})->
   codeAny (model prog w) A (.builtin "min.loop" #[[.ref I,.none,.ref S],kw]) R s:=by
 have Tt:S∉wr:=λz=>hS (W.sub _ z)
 have nm:(toString "min" ++ toString ".loop":String) = "min.loop" :=by decide
 intro k
 induction k with
 |zero=>
  intro j s v c hk hj st hp old oS fin;obtain rfl:n=j+1:=by lia
  refine AJ F.entry_min_loop ?_;refine aS (AB oS rfl ?_);refine aS (wpAny_tryCatch (W.done s _ _ st λh tk kp=>?_))
  refine aS (DD (kp S _ Tt oS) rfl (aS (D5 (dL ?_))));exact fin v _ tk hp λb o e=>(lS _ _ (wP (hw b o e).2)).trans (kp b o (hw b o e).1 (old b o e))
 |succ k ih=>
  intro j s v c hk hj st hp old oS fin;have hlt:j+1<n:=by lia
  refine AJ F.entry_min_loop ?_;refine aS (AB oS rfl ?_);refine aS (wpAny_tryCatch (W.item (j+1) s _ _ hlt st λu h tk hu aL kp=>?_))
  have Ws:=kp S _ Tt oS;have Tv:Jf h0 h:=λb o e=>kp b o (hw b o e).1 (old b o e)
  show wpAny _ _ (tryCatch (holding [u,u] (richCompare .Lt u v >>= _)) _ >>= _) _ _ _;refine aS (wpAny_tryCatch (sB (aS (hc (j+1) (argBest bt j) u v _ _ _ Tv hu hp ?_))));refine aS (sB (t8 ?_));refine aS (D5 (dL ?_));cases hb:bt (j+1) (argBest bt j)with
  |true=>
   refine aS (DD Ws rfl (aS (D5 ?_)));refine dL #[B0 EB _,ih (j+1) _ u _ ⋯ hlt (W.frame _ _ _ aL λb hb o e=>?_) (by simp only[argBest,hb];exact hu) (λb o e=>?_) (oP _ Ws rfl) fin]
   . exact (lS _ _ (λz:S=b=>hS (z▸hb))).trans e
   . exact (lS _ _ (wP (hw b o e).2)).trans (Tv b o e)
  |false=>refine aS (D5 ?_);exact dL #[B0 EB _,ih (j+1) _ v c ⋯ hlt aL (by simp only[argBest,hb];exact hp) Tv Ws fin]
theorem uI(W:Walks prog w A.in1 I fp wr n P St)(hc:yF prog w A.in1 h0 P bt)(hS:S∉fp)(hw:∀b o,h0.get? b=!o->b∉wr/\b≠S)(hn:0<n)(st:St 0 s.heap)(old:Jf h0 s.heap)
  (oS:s.heap.get? S=some { cls:=.type "list",dict:=none,data:=.seq ([].toArray) c,slots:=([].toArray)}) (fin:∀u h tk,P (argBest bt (n - 1)) u->Jf h0 h->R (.ok (.ret u)) { s with heap:=h,toks:=tk}) :
   codeAny (model prog w) A (.builtin "min.loop" #[[.ref I,.none,.ref S],kw]) R s:=by
 have Tt:S∉wr:=λz=>hS (W.sub _ z)
 have nm:(toString "min" ++ toString ".loop":String) = "min.loop" :=by decide
 refine AJ F.entry_min_loop ?_;refine aS (AB oS rfl ?_);refine aS (wpAny_tryCatch (W.item 0 s _ _ hn st λu h tk hu aL kp=>?_))
 have Ws:=kp S _ Tt oS;show wpAny _ _ (updateSeq S (λ_=>([u,u].toArray)) >>= _) _ _ _
 refine aS (DD Ws rfl ?_);refine dL #[B0 EB _,wM W hc hS hw _ 0 _ u _ rfl hn (W.frame _ _ _ aL λb hb o e=>?_) hu (λb o e=>?_) (oP _ Ws rfl) fin]
 . exact (lS _ _ (λz:S=b=>hS (z▸hb))).trans e
 . exact (lS _ _ (wP (hw b o e).2)).trans (kp b o (hw b o e).1 (old b o e))
theorem uJ{x:Value}{kw:List (Str×Value)}(hkw:kw=[]\/∃d,kw=[(Str.ofString "default",d)]){E Q:Value->Shared->Prop}{s:Shared}
  (h:wpAny (model prog w) A.in1 (Builtin.min #[[x],kw]) (λfin s'=>match fin with
   |.done f=>(match Except.ok f with |.ok (.ret v)=>Q v s' |.ok _=>False |.error e=>E e s')
   |.again c'=>c'.quiet=true/\codeAny (model prog w) A c' (λr s'=>match r with |.ok (.ret v)=>Q v s' |.ok _=>False |.error e=>E e s') s') E s) :
  wpAny (model prog w) A (call (.builtin "min") [x] kw) Q E s:=by
 refine DM (codeAny_call_builtin F.plain_min F.entry_min ?_);unfold checkBuiltinCall;rw[F.kind_min];rcases hkw with rfl |⟨d,rfl⟩
 . exact D4 (a:=()) rfl h
 . exact D4 (a:=()) rfl h
theorem mY{x:Value}{kw:List (Str×Value)}(hkw:kw=[]\/∃d,kw=[(Str.ofString "default",d)]){Q E:Value->Shared->Prop}{s:Shared}
  (h:wpAny (model prog w) A.in1 (pyIter x) (λit t=>∃I fp wr n P St bt,it=.ref I/\Walks prog w A.in1 I fp wr n P St/\St 0 t.heap/\(∀b∈fp,b<t⁻¹)/\0<n/\yF prog w A.in1 s.heap P bt/\Jf s.heap t.heap/\(∀b o,s.heap.get? b=!o->b∉wr)/\
   ∀v h' tk,P (argBest bt (n - 1)) v->Jf s.heap h'->Q v { t with heap:=h',toks:=tk}) E s) :
  wpAny (model prog w) A (call (.builtin "min") [x] kw) Q E s:=by
 have nm:(toString "min" ++ toString ".loop":String) = "min.loop" :=by decide
 refine uJ hkw ?_;have bp:∃o:Option Value,Builtin.Builtins.bindParams "min" ["key", "default"] 0 #[[],kw]=pure [none,o]/\o.toList.map (λd=>(Str.ofString "default",d))=kw:=by
  rcases hkw with rfl |⟨d,rfl⟩
  . exact#[none,rfl,rfl]
  . exact#[!d,rfl,rfl]
 obtain⟨o,e1,e2⟩:=bp;refine aS (D4 e1 ?_);refine aS (dL ?_);refine aS (qS h (λit t z=>?_) λ_ _ e=>e)
 obtain⟨I,fp,wr,n,P,St,bt,rfl,W,st,hf,hn,hc,old,hw,fin⟩:=z;refine aS (wT ?_);have hS:t⁻¹∉fp:=λz=>yA _ (hf _ z)
 rw[e2];exact dL #[B0 EB _,uI W hc hS (λb o e=>#[hw b o e,i6 (fI (old b o e))]) hn (W.frame _ _ _ st λb _ o e=>a7 _ e) (λb o e=>a7 _ (old b o e)) (dC _ rfl) fin]
end
open L2 PySem.W
theorem Dv.keep(k:Jf h h')(q:Dv h d u):Dv h' d u:=by
 refine Dv.rec (motive_1:=λd u _=>Dv h' d u) (motive_2:=λl us _=>kJ h' l us) ?_ ?_ ?_ ?_ ?_ ?_ ?_ ?_ ?_ q
 . exact .non
 . exact λb=>.bl b
 . exact λi t=>.int i t
 . exact λx t=>.str x t
 . exact λx _ ih=>.tup (x.keeps k) ih
 . exact λx _ ih=>.lst (let #[o,e,r]:=x;#[o,k _ _ e,r]) ih
 . exact λx _ ih=>.fix (let #[o,e,r]:=x;#[o,k _ _ e,r]) ih
 . exact .nil
 . exact λ_ _ a b=>.cons a b
open L2 PySem.W
noncomputable def jW{α:Type}(O:uf α)(n:α):List α->α
 | []=>n
 |m::l=>jW O (if O.lt m n then m else n) l
section
variable{α:Type}(O:uf α)(d0:α)
theorem pW:∀(l:List α) (n m:α),jW O n (l++[m])=if O.lt m (jW O n l)then m else jW O n l
 | [],_,_=>rfl
 |_::l,_,m=>pW l _ m
abbrev ltAt(L:List α)(i j:Nat):Bool:=O.lt (L.getD i d0) (L.getD j d0)
theorem pX(n:α)(l:List α):∀k,k<=l.length->argBest (ltAt O d0 (n::l)) k<=k/\(n::l).getD (argBest (ltAt O d0 (n::l)) k) d0=jW O n (l.take k)
 | 0,_=>#[eA _,rfl]
 |k+1,hk=>by
  obtain⟨h0,h1⟩:=pX n l k (AE hk);have hlt:k<l.length:=hk;have e:(n::l).getD (k+1) d0=l[k]:=by simp[hlt]
  have e2:l.take (k+1)=l.take k++[l[k]]:=AQ hlt;rw[e2,pW,<- h1,<- e];show (if ltAt O d0 (n::l) (k+1) (argBest (ltAt O d0 (n::l)) k)then k+1 else argBest (ltAt O d0 (n::l)) k)<=k+1/\(n::l).getD (if ltAt O d0 (n::l) (k+1) (argBest (ltAt O d0 (n::l)) k)then k+1 else argBest (ltAt O d0 (n::l)) k) d0=_
  unfold ltAt;split
  . exact#[eA _,rfl]
  . exact#[Nat.le_succ_of_le h0,rfl]
end
theorem yG{κ:Type}{un:κ->D}:∀{l:List κ},(∀k∈l,iA (un k)=true)->iB (l.map un)=true
 | [],_=>rfl
 |k::l,h=>by
  show (iA (un k)&&iB (l.map un))=true;rw[h k bP,yG λx hx=>h x (a8 _ hx)]
  rfl
section
variable{X:Cx}{z:Z}{κ:Type}{O:uf κ}{d0:κ}{un:κ->D}{good:κ->Prop}
theorem Tw{kw:List (Str×Value)}(hkw:kw=[]\/∃d,kw=[(Str.ofString "default",d)])(hc:X.calm=true)(gI:∀k,good k->iA (un k)=true)(hlt:∀(s:Shared) k1 k2 u1 u2,good k1->good k2->Dv s.heap (un k1) u1->Dv s.heap (un k2) u2->Jk X.A.in1 s u1 u2 (O.lt k1 k2))
  {aj: ~~~1}{σ:Sg}{H:Hp}{s:Shared}{Q:VK} (I:L2.Inv X aj σ H s) {p:Addr}{ys:List V}{M:List Addr}{n:κ}{l:List κ} (hp:bD X.K H p ys\/fG X.K H p ys) (ht:aG X.K M H ((n::l).map un) ys) (hg:∀k∈n::l,good k)
  (q:∀i,i<ys.length->(n::l).getD i d0=jW O n l->Q (ys.getD i .non) H):wpAny (~~~2) X.A (call (.builtin "min") [.ref p] kw) (EP X aj σ Q) X.xe s:=by
 have hh:X.A.in1.handled=none:=I.ok.hd hc;have hys:ys.length=l.length+1:=by rw[<- ht.length,dE,nK]
 have cmp:∀its:List Value,Vals ys its->yF X.prog X.w X.A.in1 s.heap (λi v=>its.toArray[i]?=!v) (ltAt O d0 (n::l)):=λits rv=>by
  intro i j u v s' Q E old hi hj hQ;have t:=aG.dv I ht rv (yG λk hk=>gI k (hg k hk))
  have hi:its[i]?=!u:=by simpa using hi
  have hj:its[j]?=!v:=by simpa using hj
  obtain⟨d1,e1,v1⟩:=t.get hi;obtain⟨d2,e2,v2⟩:=t.get hj;rw[oC]at e1 e2;obtain⟨k1,f1,rfl⟩:=AH.mp e1;obtain⟨k2,f2,rfl⟩:=AH.mp e2;have g1:(n::l).getD i d0=k1:=by rw[a9,f1];rfl
  have g2:(n::l).getD j d0=k2:=by rw[a9,f2];rfl
  have hQ:Q (.bool (O.lt k1 k2)) s':=by rw[<- g1,<- g2];exact hQ
  exact hlt s' k1 k2 u v (hg k1 (pE f1)) (hg k2 (pE f2)) (v1.keep old) (v2.keep old) X.prog X.w E Q hQ
 have fin:∀(its:List Value) (v:Value) (h':Heap) (tk:Nat),Vals ys its->its.toArray[argBest (ltAt O d0 (n::l)) (its.toArray.size - 1)]?=!v->Jf s.heap h'->EP X aj σ Q v { s with heap:=h',toks:=tk}:=λits v h' tk rv hv hk=>by
  have hl:its.length=l.length+1:=by rw[<- rv.length,hys]
  obtain⟨b1,b2⟩:=pX O d0 n l l.length (eA _);rw[D8]at b2;rw[eP,hl,DC]at hv;have hv:its[argBest (ltAt O d0 (n::l)) l.length]?=!v:=by simpa using hv
  have hy:argBest (ltAt O d0 (n::l)) l.length<ys.length:=by lia
  have rel:=jS rv hy;rw[a9 (l:=its),hv]at rel;exact#[_,H,I.kept hk,rel,q _ hy b2]
 have pos:∀its:List Value,Vals ys its->0<its.toArray.size:=λits rv=>by rw[eP,<- rv.length,hys];exact BF _
 have ow:∀(b:Addr) (o:Obj),s.heap.get? b=!o->b∉[s⁻¹]:=λb o e hm=>by
  have:b=s⁻¹:=by simpa using hm
  exact absurd (fI e) (by rw[this];exact yA _)
 have YT:∀{hlt:p<s⁻¹}{o:Obj},∀b∈[s⁻¹,p],b<(s.heap.push o).objs.size:=λ{hlt o} b hb=>by
  rw[oQ];simp only[dA,nN,A8]at hb;rcases hb with rfl |rfl
  . exact t9 _
  . exact AD hlt
 rcases hp with hp |hp
 .
  obtain⟨its,rv,pl,hz⟩:=I.list hp;have hlt:p<s⁻¹:=by obtain⟨_,e,_⟩:=pl.isList;exact fI e
  refine mY hkw (AR pl.isList ?_);exact#[s⁻¹,_,_,_,_,_,_,rfl,EV (A:=X.A.in1) hh s⁻¹ p (i6 hlt) its.toArray,#[#[_,dC _ rfl,rfl,rfl],pl.isList.push _],YT (hlt:=hlt),pos its rv,cmp its rv,λb o e=>a7 _ e,ow,λv h' tk hP hk=>fin its v h' tk rv hP hk]
 .
  obtain⟨its,rv,pl,hz⟩:=I.tuple hp;have hlt:p<s⁻¹:=by obtain⟨_,e,_⟩:=pl;exact fI e
  have Ei:s.heap.IsTuple p its.toArray:=pl;refine mY hkw (AF Ei ?_);exact#[s⁻¹,_,_,_,_,_,_,rfl,Walks.tuple (A:=X.A.in1) hh s⁻¹ p (i6 hlt) its.toArray,#[#[_,dC _ rfl,rfl,rfl],IsTup.keeps Ei λb o e=>a7 _ e],YT (hlt:=hlt),pos its rv,cmp its rv,λb o e=>a7 _ e,ow,λv h' tk hP hk=>fin its v h' tk rv hP hk]
theorem Bc(hc:X.calm=true)(gI:∀k,good k->iA (un k)=true)(hlt:∀(s:Shared) k1 k2 u1 u2,good k1->good k2->Dv s.heap (un k1) u1->Dv s.heap (un k2) u2->Jk X.A.in1 s u1 u2 (O.lt k1 k2)) :
  bV X (.builtin "min") (λxs H Q=>∃(p:Addr) (ys:List V) (M:List Addr) (n:κ) (l:List κ),xs=[.ref p]/\(bD X.K H p ys\/fG X.K H p ys)/\aG X.K M H ((n::l).map un) ys/\(∀k∈n::l,good k)/\
   ∀i,i<ys.length->(n::l).getD i d0=jW O n l->Q (ys.getD i .non) H):=by
 intro aj s σ H xs us Q I r h;obtain⟨p,ys,M,n,l,rfl,hp,ht,hg,q⟩:=h;obtain⟨u,rfl,rx⟩:=vals1 r;cases rx;exact Tw (.inl rfl) hc gI hlt I hp ht hg q
theorem Lw(hc:X.calm=true)(gI:∀k,good k->iA (un k)=true)(hlt:∀(s:Shared) k1 k2 u1 u2,good k1->good k2->Dv s.heap (un k1) u1->Dv s.heap (un k2) u2->Jk X.A.in1 s u1 u2 (O.lt k1 k2))(hK:z.K=X.K)(h:bF d=!((n::ns).map un))(hg:∀k∈n::ns,good k) :
  CallD X z (.builtin "min") [d] (.dat (un (jW O n ns))):=by
 refine#[_,Bc (d0:=n) hc gI hlt,λg σ As M H vs Q s p k=>?_]
 obtain⟨v,rfl,pv⟩:=p.one;have main:∀(a:Addr) (xs:List V),aG z.K M H ((n::ns).map un) xs->(bD X.K H a xs\/fG X.K H a xs)->∃(p:Addr) (ys:List V) (M:List Addr) (m:κ) (l:List κ),[V.ref a]=[.ref p]/\(bD X.K H p ys\/fG X.K H p ys)/\aG X.K M H ((m::l).map un) ys/\(∀k∈m::l,good k)/\∀i,i<ys.length->(m::l).getD i n=jW O m l->Q (ys.getD i .non) H:=λa xs rr hq=>by
  refine#[a,xs,M,n,ns,rfl,hq,hK▸rr,hg,λi hl e=>?_]
  have hd:i<(n::ns).length:=by have:=rr.length;rw[dE]at this;lia
  obtain⟨v,e1,e2⟩:=rr.get (i:=i) (d:=un (jW O n ns)) (by
   rw[oC,mB hd,<- e,a9,mB hd];rfl)
  have q2:xs.getD i .non=v:=by rw[a9,e1];rfl
  rw[q2];exact k _ _ As M s (ao.refl _ _) e2
 cases d with
 |lst m=>symm;obtain⟨a,xs,rfl,e1,e2⟩:=pv.list;exact main a xs e2 (.inl (bD.of e1))
 |tup m=>symm;obtain⟨a,xs,rfl,e1,e2⟩:=pv.tup;exact main a xs e2 (.inr (hK▸e1.sq))
 |fix m=>symm;obtain⟨a,xs,rfl,e1,e2⟩:=pv.fix;exact main a xs e2 (.inl (hK▸e1.sq))
 |_=>symm
end
open L2 PySem.W Sb
def tx(l:List Nat):Str:=#[l.toArray]
theorem wN(l:List Nat):(tx l).cps.toList=l:=rfl
theorem rL(l:List Nat):(tx l).length=l.length:=by simp[tx,Str.length]
theorem wO(l m:List Nat):tx l++tx m=tx (l++m):=by show Str.append (tx l) (tx m)=_;simp[tx,Str.append]
noncomputable def dw:List D->Option (List (List Nat))
 | []=>![]
 |.str x::l=>match dw l with |some m=>!(x.cps.toList::m) |none=>none
 |_=>none
def dS(l:List Nat):D:=.str (tx l)
theorem fQ:∀{l:List D}{m:List (List Nat)},dw l=!m->l=m.map dS
 | [],m,h=>by symm;rfl
 |.str x::l,m,h=>by
  unfold dw at h;split at h
  . rename_i m' e;symm;rw[fQ e];rfl
  . symm
 |.non::_,_,h |.bl _::_,_,h |.int _::_,_,h |.tup _::_,_,h |.lst _::_,_,h |.fix _::_,_,h |.emp _::_,_,h |.kF _::_,_,h |.Dr _ _::_,_,h=>by symm
theorem dX:∀m:List (List Nat),dw (m.map dS)=!m
 | []=>rfl
 |l::m=>by
  show (match dw (m.map dS)with |some m=>!((tx l).cps.toList::m) |none=>none)=_
  rw[dX m];rfl
theorem jX{K:Frag}{M:List Addr}{H:Hp}:∀m:List (List Nat),aG K M H (m.map dS) (m.map λl=>V.str (tx l))
 | []=>.nil
 |l::m=>.cons (.str (tx l)) (jX m)
theorem gA{K:Frag}{M:List Addr}{H:Hp}:∀{m:List (List Nat)}{xs:List V},aG K M H (m.map dS) xs->xs=m.map λl=>V.str (tx l)
 | [],_,h=>by symm;rfl
 |l::m,_,h=>by
  cases h with
  |cons a b=>rw[gA b];cases a;rfl
theorem mZ:∀{m:List (List Nat)}{us:List Value},Vals (m.map λl=>V.str (tx l)) us->StrsAre us (m.map tx)
 | [],_,h=>by symm;exact .nil
 |l::m,_,h=>by
  cases h with
  |cons a b=>obtain⟨t,rfl⟩:=a;exact .cons _ t (mZ b)
noncomputable def Bd(a:List Nat):List (List Nat)->List (List Nat)
 | []=>[a]
 |b::l=>if b<a then b::Bd a l else a::b::l
def aJ:List (List Nat)->List (List Nat)
 | []=>[]
 |a::l=>Bd a (aJ l)
def yH(a b:List Nat):Prop:=¬ b<a
theorem jY(a:List Nat):∀l,(Bd a l).Perm (a::l)
 | []=>nV _
 |b::l=>by
  unfold Bd;split
  . exact ((jY a l).cons b).trans (List.Perm.swap a b l)
  . exact nV _
theorem bQ:∀l,(aJ l).Perm l
 | []=>nV _
 |a::l=>(jY a _).trans ((bQ l).cons a)
theorem yH.trans{a b c:List Nat}(h1:yH a b)(h2:yH b c):yH a c:=List.le_trans (l₁:=a) (l₂:=b) (l₃:=c) h1 h2
theorem yH.anti{a b:List Nat}(h1:yH a b)(h2:yH b a):a=b:=List.le_antisymm (as:=a) (bs:=b) h1 h2
theorem kO(a:List Nat):∀{l:List (List Nat)},l.Pairwise yH->(Bd a l).Pairwise yH
 | [],_=>u8 _ _
 |b::l,h=>by
  obtain⟨h1,h2⟩:=y7.mp h;unfold Bd;split
  .
   rename_i hab;refine y7.mpr #[λx hx=>?_,kO a h2]
   rcases dA.mp ((jY a l).mem_iff.mp hx)with rfl |hx
   . exact List.lt_asymm hab
   . exact h1 x hx
  .
   rename_i hab;refine y7.mpr #[λx hx=>?_,h]
   rcases dA.mp hx with rfl |hx
   . exact hab
   . exact yH.trans hab (h1 x hx)
theorem cV:∀l,(aJ l).Pairwise yH
 | []=>List.Pairwise.nil
 |a::l=>kO a (cV l)
theorem iF{l m:List (List Nat)}(hp:m.Perm l)(hs:m.Pairwise yH):m=aJ l:=
 (hp.trans (bQ l).symm).eq_of_pairwise (λx y _ _ h1 h2=>yH.anti h1 h2) hs (cV l)
theorem wQ(l:List (List Nat)):aJ (aJ l)=aJ l:=(iF (nV _) (cV l)).symm
theorem oN{l m:List (List Nat)}(h:l.Perm m):aJ l=aJ m:=iF ((bQ l).trans h) (cV l)
section
variable{X:Cx}{z:Z}
theorem Lx{x y:Str}(h:x.length+y.length<=16777216):lq X z (binaryOp .Add) (.str x) (.str y) (.dat (.str (x++y))):=
 #[_,v5,λg σ As M H v1 v2 Q s p1 p2 kk=>#[x,y,p1.str,p2.str,by rw[t7];exact h,kk _ H As M s (ao.refl _ _) (.str _)]]
def Pb(b:Bool):Int:=if b=true then 1 else 0
theorem Ly{i:Int}{b:Bool}:lq X z (binaryOp .Add) (.int i) (.bl b) (.dat (.int (i+Pb b))):=by
 refine#[λx y H Q=>x=.int i/\y=.bl b/\Q (.int (i+Pb b)) H,?_,λg σ As M H v1 v2 Q s p1 p2 kk=>#[p1.int,p2.bl,kk _ H As M s (ao.refl _ _) (.int _)]]
 rintro aj s σ H x y v u Q I rx ry ⟨rfl,rfl,q⟩;obtain⟨t,rfl⟩:=rx;cases ry;exact add_int_bool #[.int (i+Pb b),H,I.tok _,#[_,rfl],q]
theorem Lz{i:Int}{b:Bool}:lq X z (binaryOp .Sub) (.int i) (.bl b) (.dat (.int (i - Pb b))):=by
 refine#[λx y H Q=>x=.int i/\y=.bl b/\Q (.int (i - Pb b)) H,?_,λg σ As M H v1 v2 Q s p1 p2 kk=>#[p1.int,p2.bl,kk _ H As M s (ao.refl _ _) (.int _)]]
 rintro aj s σ H x y v u Q I rx ry ⟨rfl,rfl,q⟩;obtain⟨t,rfl⟩:=rx;cases ry;exact PySem.IntBool.sub_int_bool #[.int (i - Pb b),H,I.tok _,#[_,rfl],q]
theorem LC{x:Str}(hl:x.length<=16777216):CallD X z (.builtin "len") [.str x] (.dat (.int x.length)):=by
 refine#[_,qO,λg σ As M H vs Q s p k=>?_]
 obtain⟨v,rfl,pv⟩:=p.one;exact#[x,by rw[pv.str],by rw[t7];exact hl,k _ H As M s (ao.refl _ _) (.int _)]
end
open PySem.Builtin PySem.Builtin.Str
def Wu(x:Str):List D:=x.cps.toList.map λc=>D.str (tx [c])
noncomputable def Itx(x:Str):It:=#[λi _=>i<x.cps.size,λi H y H'=>H'=H/\∃c,x.cps[i]?=!c/\y=.str (tx [c]),λi _=>x.cps.size<=i]
theorem uK{P:Program}{w:World}{K:Frag}{tg:Expr}{ty:String}{x:Str}{t:Tok}(it:Addr)(hty:["enumerate", "zip", "dict_itemiterator", "dict_reverseitemiterator", "odict_iterator", "itertools.zip_longest", "itertools.pairwise"].contains ty=false)
  (nxt:∀(A:Around) (E:Value->Shared->Prop) (s:Shared) (i c:Nat) (Q:Option Value->Shared->Prop),s.heap.IsStrIter it ty x t i->x.cps[i]?=!c->(∀h',h'.IsStrIter it ty x t (i+1)->Heap.SameBut it s.heap h'->Q (!(.str #[([c].toArray)] s.toks)) { s with heap:=h',toks:=s.toks+1})->wpAny (model P w) A (pyNext (.ref it)) Q E s)
  (fin:∀(A:Around) (E:Value->Shared->Prop) (s:Shared) (i:Nat) (Q:Option Value->Shared->Prop),A.handled=none->s.heap.IsStrIter it ty x t i->x.cps[i]?=none->(∀h',Heap.ExtBut it s.heap h'->Q none { s with heap:=h'})->wpAny (model P w) A (pyNext (.ref it)) Q E s)
  (slf:∀(A:Around) (i:Nat) (s:Shared) (Q:Value->Shared->Prop) (E:Value->Shared->Prop),s.heap.IsStrIter it ty x t i->Q (.ref it) s->wpAny (model P w) A (pyIter (.ref it)) Q E s) :
  Turn P w K tg (Itx x) [it] it (λi h=>h.IsStrIter it ty x t i) where
 mem:=by simp
 obj:=λi h st b hb=>by
  have e:b=it:=by simpa using hb
  subst e;obtain⟨o,e,c,d⟩:=st;exact#[o,e,λv z=>by rw[d]at z;cases z]
 keep:=λi h h' st k=>let #[o,e,c]:=st;#[o,k it ⋯ o e,c]
 item:=by
  intro X hP hw hK hc i aj s σ H E I hf st hg;subst hP hw hK;have hg:i<x.cps.size:=hg;obtain⟨f0,f1,f2,f3,f4,f5⟩:=hf it ⋯;refine nxt _ _ s i x.cps[i] _ st (by simp[hg]) λh' st' sb=>?_
  have I1:=I.turned (t':=s.toks+1) (λb o hb e=>(sb.2 b hb).trans e) f0 f1 f3 f4 f5
  obtain⟨o,e,c,d⟩:=id st';exact#[_,rfl,tD e c d hty #[.str (tx [x.cps[i]]),H,I1,#[_,rfl],#[rfl,x.cps[i],by simp[hg],rfl],st',λb hb=>(hf b hb).1]]
 done:=by intro X hP hw hK hc i aj s σ H E I hf st hg;subst hP hw hK;have hg:x.cps.size<=i:=hg;obtain⟨f0,f1,f2,f3,f4,f5⟩:=hf it ⋯;exact fin _ _ s i _ (I.ok.hd hc) st (by simp[hg]) λh' eb=>#[rfl,I.turned (λb o hb e=>eb b o hb e) f0 f1 f3 f4 f5]
 self:=λA i s Q E st h=>slf A i s Q E st h
section
variable{X:Cx}{z:Z}{g g1:G}{tg iter e:Expr}{tl:TE}{jn:Nat}{ap cp kp:Pos}
def iStr(tl:TE):TI:=λσ H R=>tl σ H λy H1=>∃x:Str,y=.str x/\R (Itx x) H1
theorem Tz(hl:PE X iter tl):PI X tg iter (iStr tl):=by
 intro aj s σ H R I h;refine bA (hl aj s σ H _ I h) ?_;rintro v s1 ⟨y,H1,I1,r1,x,rfl,q⟩;obtain⟨t,rfl⟩:=r1;have fp:∀b∈[s1⁻¹],jc X aj H1 b:=λb hb=>by
  have e:b=s1⁻¹:=by simpa using hb
  subst e;exact I1.qH (eA _) (I1.hok.fresh (eA _))
 cases ha:x.cps.all (· < 128)with
 |false=>refine wpAny_pyIter_wide ha #[s1⁻¹,[s1⁻¹],_,_,H1,rfl,I1.kept λb o e=>a7 _ e,uK (ty:= "str_iterator") (t:=t) _ ⋯ (λA E s i c Q a b d=>wpAny_pyNext_wide_item a b d) (λA E s i Q a b d e=>wpAny_pyNext_wide_end a b d e) (λA i s Q E a b=>wpAny_pyIter_striter_wide a b),#[_,dC _ rfl,rfl,rfl],fp,q]
 |true=>refine wpAny_pyIter_ascii ha #[s1⁻¹,[s1⁻¹],_,_,H1,rfl,I1.kept λb o e=>a7 _ e,uK (ty:= "str_ascii_iterator") (t:=t) _ ⋯ (λA E s i c Q a b d=>wpAny_pyNext_ascii_item a b d) (λA E s i Q a b d e=>wpAny_pyNext_ascii_end a b d e) (λA i s Q E a b=>wpAny_pyIter_striter_ascii a b),#[_,dC _ rfl,rfl,rfl],fp,q]
theorem TF{x:Str}(h:aA X z iter g (.dat (.str x)) g1):eW X z tg iter g (Wu x) g1:=by
 obtain⟨t,q,k⟩:=h;refine#[_,Tz q,λσ As M H R s kk=>k σ As M H _ s λv H1 aN M1 s1 bS r=>?_]
 have r':=r;cases r';refine#[x,rfl,kk _ H1 aN M1 s1 bS λM2 H2 aL=>#[λn d hd=>?_,by show x.cps.size<=(Wu x).length;simp[Wu]]]
 unfold Wu at hd;rw[oC]at hd;obtain⟨c,hc,rfl⟩:=AH.mp hd;have hc':x.cps[n]?=!c:=by simpa using hc
 refine#[(A9.mp hc').1,λy H' hy z' g' σ' aB _ s'=>?_]
 obtain⟨rfl,c2,e,rfl⟩:=hy;rw[hc']at e;cases e;exact#[s',ao.refl _ _,.str _]
theorem yI:∀m:List (List Nat),Str.join Str.empty (m.map tx)=tx m.flatten
 | []=>rfl
 | [l]=>by show tx l=_;simp
 |l::l'::m=>by
  show tx l++Str.empty++Str.join Str.empty ((l'::m).map tx)=_;rw[yI (l'::m),show Str.empty=tx []from rfl,wO,wO]
  simp
theorem LK:MtR X "str.join" (λx xs H Q=>∃(p:Addr) (m:List (List Nat)),x=.str Str.empty/\xs=[.ref p]/\bD X.K H p (m.map λl=>V.str (tx l))/\(m.map List.length).sum<=16777216/\Q (.str (tx m.flatten)) H):=by
 rintro aj s σ H x xs v us Q I rx rv ⟨p,m,rfl,rfl,hq,hl,q⟩;obtain⟨t,rfl⟩:=rx;obtain⟨u,rfl,ru⟩:=rv.one;cases ru;obtain⟨its,r',pl,hz⟩:=I.list hq;refine join_list (x:=Str.empty) pl.isList (mZ r') ?_ λt' k=>?_
 .
  have e:((m.map tx).map λx=>x.length)=m.map List.length:=by rw[List.map_map];exact AL λl _=>rL l
  rw[e];simpa [Str.empty,Str.length]using hl
 . refine#[.str (tx m.flatten),H,I.tok _,#[t',?_],q];show Value.str (Txt.join Str.empty (m.map tx)) t'=_;unfold Txt.join;rw[StrLaws.glued_eq_join,yI]
theorem LQ{r:R}{l:List D}{m:List (List Nat)}(hK:z.K=X.K)(h:aA X z e g r g1)(hp:pk r g1=!(.lst l))(hm:dw l=!m)(hl:(m.map List.length).sum<=16777216)(bT:starEach [e] X.env=(false,eval e X.env)::starEach [] X.env)(hline:(ap.endLine==cp.line)=true) :
  aA X z (.Call (.Attribute (.Constant (.str Str.empty) jn kp) "join" ap) [e] [] cp) g (.dat (.str (tx m.flatten))) g1:=by
 obtain⟨t,q,k⟩:=h;refine#[_,Dh F.plainAttrs_str F.slot_str_join F.type_str_join LK CK (bB q eS bT) rfl (by rw[bT];rfl) hline bT rfl,λσ As M H Q s kk=>?_]
 refine#[rfl,k σ As M H _ s λv H1 aN M1 s1 bS R=>?_]
 obtain⟨b,xs,rfl,e1,e2⟩:=(s1.pk (ao.refl _ _) R hp).list;rw[fQ hm]at e2;have:=gA e2;subst this;exact#[b,m,rfl,rfl,bD.of e1,hl,kk _ H1 aN M1 s1 bS (.str _)]
end
def cP(g:G):Bool:=g.all λs=>match s with |.own _=>false |_=>true
theorem Slots.YW{K:Frag}{M:List Addr}{H:Hp}{g:G}{σ:Sg}{As:List Addr}(q:Slots K M H g σ As):cP g=true->As=[]:=by
 induction q with
 |nil=>intro _;rfl
 |no _ ih=>intro h;exact ih (by simpa [cP]using h)
 |dat _ _ ih=>intro h;exact ih (by simpa [cP]using h)
 |own _ _ _ ih=>intro h;simp[cP]at h
theorem wR{g:G}{i:Nat}{d:D}(h:cP g=true):cP (g.set i (.dat d))=true:=by
 unfold cP at *;rw[mE]at *;intro s hs;rcases List.mem_or_eq_of_mem_set hs with q |q
 . exact h s q
 . rw[q]
section
variable{z:Z}{g:G}{σ:Sg}{As M M3 M1:List Addr}{H H1:Hp}{ps:List Addr}
theorem Slots.forget{K:Frag}{d:D}:∀{g:G}{σ:Sg}{As:List Addr}{i:Nat},Slots K M H (g.set i (.dat d)) σ As->g[i]?=some .no->Slots K M H g σ As
 | [],_,_,_,_,e=>by cases e
 |s::g,σ,As,0,q,e=>by
  cases (show some s=some .no from e)
  cases q with
  |dat _ q=>exact .no q
 |s::g,σ,As,i+1,q,e=>by
  have e':g[i]?=some .no:=e;cases q with
  |no q=>exact .no (q.forget e')
  |dat r q=>exact .dat r (q.forget e')
  |own h r q=>exact .own h r (q.forget e')
theorem S.forget{d:D}{i:Nat}(s:S z (g.set i (.dat d)) σ As M H)(e:g[i]?=some .no):S z g σ As M H:=by
 have hi:=(eJ.mp e).1;have un:∀(j:Nat) (l:List D),g[j]?=!(.own l)->(g.set i (.dat d))[j]?=!(.own l):=λj l h=>by
  rw[gN (λz=>by subst z;rw[e]at h;symm)];exact h
 have nu:∀(j:Nat) (l:List D),(g.set i (.dat d))[j]?=!(.own l)->g[j]?=!(.own l):=λj l h=>by
  by_cases q:i=j
  . subst q;rw[nE hi]at h;symm
  . rw[gN q]at h;exact h
 exact#[s.sl.forget e,s.nd,s.sub,λj a l h1 h2=>s.own j a l (un j l h1) h2,s.live,s.keep,s.fH,s.m0,s.bm,λp hp=>let #[q1,l,q2]:=s.gU p hp;#[q1,l,nu _ _ q2],s.tab,s.tm,s.tt]
theorem S.open(s:S z g σ [] M H)(hps:∀p∈ps,p∈M/\∃u,H p=!u/\QW u)(n3:∀p∈ps,p∉M3)(sub:∀m∈M3,m∈M){g1:G}{σ1:Sg}{A1:List Addr}(s1:S z g1 σ1 A1 M1 H1)(bS:ao M3 H M1 H1) :
  S z g σ [] (ps++M1) H1/\ao M H (ps++M1) H1/\∀p∈ps,H1 p=H p:=by
 have kp:∀p∈ps,H1 p=H p:=λp hp=>by
  obtain⟨xs,e,_⟩:=(hps p hp).2;rw[e];exact (bS p _ e (n3 p hp)).1
 have stM:ao M H (ps++M1) H1:=λb o e hb=>by
  have h1:=bS b o e λhm=>hb (sub b hm)
  refine#[h1.1,λhm=>?_]
  rcases kA.mp hm with hm |hm
  . exact hb (hps b hm).1
  . exact h1.2 hm
 refine#[#[s.sl.stay stM λa ha=>(nomatch ha),s.nd,λa ha=>(nomatch ha),s.own,λm hm=>?_,s1.keep,λm hm=>hV _ (s1.fH m hm),s.m0,s.bm,s.gU,s1.tab,s.tm,s.tt],stM,kp]
 rcases kA.mp hm with hm |hm
 . obtain⟨u,e,gu⟩:=(hps m hm).2;exact .inl #[u,by rw[kp m hm];exact e,gu]
 . exact s1.live m hm
end
structure Vr(X:Cx)(y:Str)(i:Nat):Prop where
 ix:X.N[i]?=!y
 vis:sW X.env.scope y
 db:(y==(~~~3))=false
 cd:(y==("__classdict__":Str))=false
theorem Vr.pe{X:Cx}{y:Str}{i:Nat}{p:Pos}(v:Vr X y i):PE X (.Name y p) (W7 i):=fK v.ix v.vis v.db v.cd
def WA(z:Z)(g:G)(iy:Nat)(M0:List Addr)(H0:Hp)(a:Addr)(m:List (Int×Int))(ps:List (Addr×List V))(σ:Sg)(H:Hp):Prop:=
 ∃M,S z g σ [] M H/\ao M0 H0 M H/\σ[iy]?=!(!(.ref a))/\a∈M/\z.H0 a=none/\H a=!(dI m)/\∀p∈ps,p.1∈M/\z.H0 p.1=none/\H p.1=!(.lst p.2)
section
variable{X:Cx}{z:Z}{g:G}{iy:Nat}{M0:List Addr}{H0:Hp}{a:Addr}{m:List (Int×Int)}{ps:List (Addr×List V)}{σ:Sg}{H:Hp}
theorem WA.less{p:Addr×List V}(h:WA z g iy M0 H0 a m (p::ps) σ H):WA z g iy M0 H0 a m ps σ H:=by obtain⟨M,s,st,e1,hm,h0,ha,hp⟩:=h;exact#[M,s,st,e1,hm,h0,ha,λq hq=>hp q (a8 _ hq)]
theorem WA.shut(h:WA z g iy M0 H0 a m ps σ H):∃M3,S z g σ [] M3 H/\∀{g1:G}{σ1:Sg}{A1 M1:List Addr}{H1:Hp},S z g1 σ1 A1 M1 H1->ao M3 H M1 H1->∀qs:List (Addr×List V),(∀q∈qs,q.1∈M1/\z.H0 q.1=none/\H1 q.1=!(.lst q.2))->WA z g iy M0 H0 a m (qs++ps) σ H1:=by
 obtain⟨M,s,st,e1,hm,h0,ha,hp⟩:=h;have mem:∀p∈a::ps.map (·.1),p∈M/\z.H0 p=none/\∃u,H p=!u/\QW u:=λp h=>by
  rcases dA.mp h with rfl |h
  . exact#[hm,h0,_,ha,trivial]
  . obtain⟨q,hq,rfl⟩:=i9.mp h;obtain⟨q1,q2,q3⟩:=hp q hq;exact#[q1,q2,_,q3,trivial]
 obtain⟨M3,s3,k3,k4⟩:=S.yD (a::ps.map (·.1)) s λp hp=>#[(λz=>nomatch z),(mem p hp).2.1]
 refine#[M3,s3,λ{g1 σ1 A1 M1 H1} s1 bS qs hq=>?_]
 obtain⟨q1,q2,q3⟩:=s.open (λp hp=>#[(mem p hp).1,(mem p hp).2.2]) k4 k3 s1 bS
 refine#[_,q1,st.trans q2,e1,mP _ bP,h0,(q3 a bP).trans ha,λp h=>?_]
 rcases kA.mp h with h |h
 . obtain⟨b1,b2,b3⟩:=hq p h;exact#[hV _ b1,b2,b3]
 . obtain⟨b1,b2,b3⟩:=hp p h;have hin:p.1∈a::ps.map (·.1):=a8 _ (yB h);exact#[mP _ hin,b2,(q3 _ hin).trans b3]
theorem WA.evI{e:Expr}{n:Int}{g':G}(he:aA X z e g ‹n› g'):∃t,PE X e t/\∀{σ:Sg}{H M0 H0 a m ps}{Q:VK},WA z g iy M0 H0 a m ps σ H->(∀H',WA z g iy M0 H0 a m ps σ H'->Q (.int n) H')->t σ H Q:=by
 obtain⟨t,q,k⟩:=he;refine#[t,q,λ{σ H M0 H0 a m ps Q} h kq=>?_]
 obtain⟨M3,s3,over⟩:=h.shut;exact k σ [] M3 H Q s3 λv H' aB M' s' st' R=>by
  have R':=R;cases R';exact kq H' (over s' st' [] λ_ h=>nomatch h)
theorem WA.evL{e:Expr}{l:List D}{ns: ~~~0}{g':G}(he:aA X z e g (.new l) g')(hn:bu l=!ns):∃t,PE X e t/\∀{σ:Sg}{H M0 H0 a m ps}{Q:VK},WA z g iy M0 H0 a m ps σ H->(∀p H',WA z g iy M0 H0 a m ((p,ns.map .int)::ps) σ H'->Q (.ref p) H')->t σ H Q:=by
 obtain⟨t,q,k⟩:=he;refine#[t,q,λ{σ H M0 H0 a m ps Q} h kq=>?_]
 obtain⟨M3,s3,over⟩:=h.shut;exact k σ [] M3 H Q s3 λv H' aB M' s' st' R=>by
  obtain⟨p,xs,rfl,h1,h2,h3,h4,h5⟩:=R;rw[bx h5 hn]at h4;exact kq p H' (over s' st' [(p,ns.map .int)] λq hq=>by rw[fA.mp hq];exact#[h1,h3,h4])
theorem WA.jz{i:Nat}{v:Option V}(h:WA z g iy M0 H0 a m ps σ H)(e:g[i]?=some .no)(n:i≠iy):WA z g iy M0 H0 a m ps (σ.set i v) H:=by obtain⟨M,s,st,e1,r⟩:=h;exact#[M,s.jz e,st,by rw[gN n];exact e1,r]
theorem WA.setInt{n:Int}{i:Nat}(hn:cP g=true)(h:WA z g iy M0 H0 a m ps σ H)(hi:i≠iy)(hb:z.bor=[]):WA z (g.set i ‹n›) iy M0 H0 a m ps (σ.set i (!(.int n))) H:=by
 obtain⟨M,s,st,e1,r⟩:=h;obtain⟨aB,s'⟩:=s.fM (i:=i) (d:=.int n) (by rw[hb];exact λz=>nomatch z) (.int n)
 have:=s'.sl.YW (wR hn);subst this;exact#[M,s',st,by rw[gN hi];exact e1,r]
theorem WA.forget{d:D}{i:Nat}(h:WA z (g.set i (.dat d)) iy M0 H0 a m ps σ H)(e:g[i]?=some .no):WA z g iy M0 H0 a m ps σ H:=by obtain⟨M,s,r⟩:=h;exact#[M,s.forget e,r]
theorem WA.put{m':List (Int×Int)}(h:WA z g iy M0 H0 a m ps σ H):WA z g iy M0 H0 a m' ps σ (upd H a (dI m')):=by
 obtain⟨M,s,st,e1,hm,h0,ha,hp⟩:=h;refine#[M,s.QX hm (λz=>nomatch z) h0 ha trivial trivial,st.trans (ao.write hm),e1,hm,h0,aC,λp h=>?_]
 obtain⟨b1,b2,b3⟩:=hp p h;exact#[b1,b2,by rw[az (λe=>by rw[e,ha]at b3;cases b3)];exact b3]
theorem WA.new{xs:List V}{l:Addr}(h:WA z g iy M0 H0 a m ps σ H)(hl:H l=none):WA z g iy M0 H0 a m ((l,xs)::ps) σ (upd H l (.lst xs)):=by
 obtain⟨M,s,st,e1,hm,h0,ha,hp⟩:=h;have ne:∀{b:Addr}{o:HO},H b=!o->upd H l (.lst xs) b=!o:=λe=>by rw[az (aH e hl)];exact e
 refine#[_,s.aW hl,st.trans (ao.aW hl),e1,a8 _ hm,h0,ne ha,λp h=>?_]
 rcases dA.mp h with rfl |h
 . exact#[bP,s.bW hl,aC]
 . obtain⟨b1,b2,b3⟩:=hp p h;exact#[a8 _ b1,b2,ne b3]
theorem WA.seal{o:Obj}(h:WA z g iy M0 H0 a m ps σ H):∃M,S z g σ [] M (upd H a (.fB o (dI m)))/\ao M0 H0 M (upd H a (.fB o (dI m)))/\Rep z.K M (upd H a (.fB o (dI m))) (.emp m) (.ref a):=by
 obtain⟨M,s,st,e1,hm,h0,ha,hp⟩:=h;have Ww:∀q∈M,q≠a->q∈M.filter (λx=>decide (x≠a)):=λq hq e=>mI.mpr #[hq,w9 e]
 have out:∀q,q∈M.filter (λx=>decide (x≠a))->q∈M/\q≠a:=λq hq=>#[(mI.mp hq).1,hU (mI.mp hq).2]
 have aL:ao M H (M.filter λx=>decide (x≠a)) (upd H a (.fB o (dI m))):=λb u e n=>#[by rw[az (λq=>n (by rw[q];exact hm))];exact e,λz=>n (out b z).1]
 refine#[_,#[s.sl.stay aL (λb hb=>nomatch hb),s.nd,λb hb=>(nomatch hb),s.own,λq hq=>?_,λb u e hb ht=>?_,λq hq=>Ww q (s.fH q hq) λe=>s.m0 q hq (e▸h0),s.m0,s.bm,s.gU,λp hp=>(s.tab p hp).keep λb u e n=>?_,s.tm,s.tt],st.trans aL,.emp (λz=>(out a z).2 rfl) aC]
 . obtain⟨q1,q2⟩:=out q hq;rw[az q2];exact s.live q q1
 .
  rw[az (λq=>by rw[q,h0]at e;cases e)]
  exact s.keep b u e hb ht
 .
  rw[az (λq=>by rw[q,ha]at e;cases e;exact n trivial)]
  exact e
end
def m6(m:List (Int×Int))(n v:Int):List (Int×Int):=if (lC n m).isSome=true then m else m++[(n,v+1)]
section
variable{X:Cx}{z:Z}{g:G}{y o h:Str}{iy io ih:Nat}{py vN py3 po Be ph cp sp Bg kp bp ap vO:Pos}{j1:Nat}
noncomputable abbrev uL (y o h:Str) (po py cp vN Be sp py3 ph Bg kp bp ap vO:Pos) (j1:Nat):Stmt:=
 .If (.Compare (.Name o po) [.NotIn] [.Name y py] cp) [.Assign [.Subscript (.Name y vN) (.Name o Be) sp] (.BinOp (.Subscript (.Name y py3) (.Name h ph) Bg) .Add (.Constant (.int 1) j1 kp) bp) ap] [] vO
theorem LR(vy:Vr X y iy)(vo:Vr X o io)(vh:Vr X h ih):∃t,PS X (uL y o h po py cp vN Be sp py3 ph Bg kp bp ap vO j1) t/\∀{g:G}{σ H M0 H0 a m ps}{n hh v:Int}{E:Ends},WA z g iy M0 H0 a m ps σ H->σ[io]?=!(!(.int n))->σ[ih]?=!(!(.int hh))->(lC n m=none->lC hh m=!v/\m.length<1000)->
  (∀H',WA z g iy M0 H0 a (m6 m n v) ps σ H'->E.nx σ H')->t E σ H:=by
 refine#[_,oZ (xP zK vo.pe vy.pe rfl) (iY (JT vy.pe vo.pe (Oq CV (Ov Ox vy.pe vh.pe (λ_ _=>rfl)) qE) rfl)) xM,λ{g σ H M0 H0 a m ps n hh v E} h eo eh hv kE=>?_]
 obtain⟨M,s,st,e1,hm,h0,ha,hp⟩:=id h;refine#[.int n,eo,.ref a,e1,n,a,m,rfl,rfl,.inl ha,_,rfl,?_];unfold m6 at kE;cases hn:lC n m with
 |some w=>rw[hn]at kE;exact qQ (kE H h)
 |none=>rw[hn]at kE;obtain⟨q1,q2⟩:=hv hn;refine qR #[.ref a,e1,.int hh,eh,a,hh,m,v,rfl,rfl,.inl ha,q1,v,1,rfl,rfl,.ref a,e1,.int n,eo,a,n,m,v+1,rfl,rfl,rfl,ha,hn,i4 q2 (by rw[t7];decide),kE _ h.put]
end
def kP(h:Int): ~~~0->List (Int×Int)->Option (List (Int×Int))
 | [],m=>!m
 |n::ns,m=>match lC h m with
  |some v=>if m.length<1000 then kP h ns (m6 m n v)else none
  |none=>none
def kQ(ev:Int->Option (~~~0)): ~~~0->List (Int×Int)->Option (List (Int×Int))
 | [],m=>!m
 |h::hs,m=>match ev h with
  |some ns=>match kP h ns m with |some m'=>kQ ev hs m' |none=>none
  |none=>none
def LW(ev:Int->Option (~~~0)):Nat->List (Int×Int)->Option (List (Int×Int))
 | 0,m=>!m
 |n+1,m=>match kQ ev (m.map (·.1)) m with |some m'=>LW ev n m' |none=>none
section
variable{X:Cx}{z:Z}{g:G}{y o h st p:Str}{iy io ih rM ip:Nat}{py vN py3 po Be TJ ph ph2 cp sp Bg kp bp ap vO TL fp2 fp3 lp lcp Wv rp rcp pst pp dp YX py0 py5 rp3 kp0:Pos}{j1 j0:Nat}{E1 E2:Expr}{ev:Int->Option (~~~0)}
structure WyF(X:Cx)(z:Z)(g:G)(y o h st:Str)(iy io ih rM:Nat)(E2:Expr)(ev:Int->Option (~~~0)):Prop where
 hn:cP g=true
 hb:z.bor=[]
 pa:PassesOwn (~~~2) X.A X.env X.xe
 hc:X.calm=true
 vy:Vr X y iy
 vo:Vr X o io
 vh:Vr X h ih
 no:wm X o io
 nh:wm X h ih
 nst:wm X st rM
 oy:io≠iy
 hy:ih≠iy
 sy:rM≠iy
 oh:io≠ih
 gy:g[iy]?=some .no
 go:g[io]?=some .no
 gh:g[ih]?=some .no
 gs:g[rM]?=some .no
 gl:Gl X "list"
 ml:X.mg "list"=none
 gr:Gl X "range"
 mr:X.mg "range"=none
 ev2:∀{n:Int}{ns: ~~~0},ev n=!ns->∃l g',aA X z E2 (g.set ih ‹n›) (.new l) g'/\bu l=!ns
 fold:∀x,foldedSetIterable E2 X.env x=pure x
variable(F:WyF X z g y o h st iy io ih rM E2 ev)
include F
theorem TQ{n:Int}{ns: ~~~0}(he:ev n=!ns):∃t,PS X (.For (.Name o TJ) E2 [uL y o h po py cp vN Be sp py3 ph Bg kp bp ap vO j1] [] TL) t/\∀{σ H M0 H0 a m m' ps}{E:Ends},WA z (g.set ih ‹n›) iy M0 H0 a m ps σ H->σ[ih]?=!(!(.int n))->kP n ns m=!m'->
  (∀σ' H',WA z g iy M0 H0 a m' ps σ' H'->E.nx σ' H')->t E σ H:=by
 obtain⟨l,g',e2,hl⟩:=F.ev2 he;obtain⟨te,qe,ke⟩:=WA.evL (iy:=iy) e2 hl;obtain⟨tb,qb,kb⟩:=LR (X:=X) (z:=z) (po:=po) (py:=py) (cp:=cp) (vN:=vN) (Be:=Be) (sp:=sp) (py3:=py3) (ph:=ph) (Bg:=Bg) (kp:=kp) (bp:=bp) (ap:=ap) (vO:=vO) (j1:=j1) F.vy F.vo F.vh;refine#[_,qI F.pa F.hc (lB qe) (iZ F.no.nd F.no.ix F.no.lc F.no.fn) (iY qb) F.fold,λ{σ H M0 H0 a m m' ps E} hw eh hr kE=>ke hw λp H1 h1=>?_]
 have pin:∀{m:List (Int×Int)}{σ:Sg}{H:Hp},WA z (g.set ih ‹n›) iy M0 H0 a m ((p,ns.map .int)::ps) σ H->bD X.K H p (ns.map .int):=by rintro m σ H ⟨_,_,_,_,_,_,_,hp⟩;exact bD.of (hp _ bP).2.2
 refine#[p,rfl,#[_,pin h1],λi k σ' H'=>i+k=ns.length/\∃m,WA z (g.set ih ‹n›) iy M0 H0 a m ((p,ns.map .int)::ps) σ' H'/\σ'[ih]?=!(!(.int n))/\kP n (ns.drop i) m=!m',#[ns.length,xI _,m,h1,eh,hr],?_]
 rintro i k σ' H' ⟨hik,m,hw,eh,hr⟩;cases e:ns[i]? with
 |none=>have hi:=AT.mp e;rw[DL hi]at hr;cases hr;exact .inl #[#[_,pin hw,by rw[dE];exact hi],kE _ _ (hw.less.forget F.gh)]
 |some x=>
  have hi:=(eJ.mp e).1;rw[drop_cons e]at hr;unfold kP at hr;split at hr
  .
   rename_i v hv;split at hr
   .
    rename_i hm;have hg:(g.set ih ‹n›)[io]?=some .no:=by rw[gN (wP F.oh)];exact F.go
    have lo:io<σ'.length:=by obtain⟨_,s,_⟩:=hw;rw[<- s.sl.length];exact (eJ.mp hg).1
    refine .inr #[#[_,.int x,pin hw,by rw[oC,e];rfl],λσ2 H2=>∃m,WA z (g.set ih ‹n›) iy M0 H0 a m ((p,ns.map .int)::ps) σ2 H2/\σ2[ih]?=!(!(.int n))/\kP n (ns.drop (i+1)) m=!m',λσ2 H2 hN=>#[k - 1,by lia,by lia,hN],λu H2 hu=>?_]
    obtain⟨rfl,hu⟩:=hu;have hu:=hu _ (pin hw);rw[oC,e]at hu;cases hu;have eh2:(σ'.set io (!(V.int x)))[ih]?=!(!(.int n)):=by rw[gN F.oh];exact eh
    exact kb (hw.jz hg F.oy) (nE lo) eh2 (λ_=>#[hv,hm]) λH3 h3=>#[_,h3,eh2,hr]
   . cases hr
  . cases hr
theorem TV:∃t,PS X (.For (.Name h ph2) (.Call (.Name "list" lp) [.Name y Wv] [] lcp) [.For (.Name o TJ) E2 [uL y o h po py cp vN Be sp py3 ph Bg kp bp ap vO j1] [] TL] [] fp2) t/\∀{σ H M0 H0 a m m'}{E:Ends},WA z g iy M0 H0 a m [] σ H->kQ ev (m.map (·.1)) m=!m'->
  (∀σ' H',WA z g iy M0 H0 a m' [] σ' H'->E.nx σ' H')->t E σ H:=by
 refine#[_,qI F.pa F.hc (lB (pD (wc F.hc) F.gl F.ml rfl (bB F.vy.pe eS rfl))) (iZ F.nh.nd F.nh.ix F.nh.lc F.nh.fn) xY (λ_=>rfl),λ{σ H M0 H0 a m m' E} hw hr kE=>?_]
 obtain⟨M,s,_,e1,hm,h0,ha,hp⟩:=id hw;refine#[.ref a,e1,a,m,rfl,.inl ha,λp hl=>?_]
 have h1:=hw.new (xs:=m.map λp=>.int p.1) hl
 generalize hks:m.map (·.1)=ks at hr;have ek:(m.map λp=>V.int p.1)=ks.map .int:=by rw[<- hks,List.map_map];rfl
 rw[ek]at h1 ⊢
 have pin:∀{m:List (Int×Int)}{σ:Sg}{H:Hp},WA z g iy M0 H0 a m [(p,ks.map .int)] σ H->bD X.K H p (ks.map .int):=by rintro m σ H ⟨_,_,_,_,_,_,_,hp⟩;exact bD.of (hp _ bP).2.2
 refine#[p,rfl,#[_,pin h1],λi k σ' H'=>i+k=ks.length/\∃m,WA z g iy M0 H0 a m [(p,ks.map .int)] σ' H'/\kQ ev (ks.drop i) m=!m',#[ks.length,xI _,m,h1,hr],?_]
 rintro i k σ' H' ⟨hik,m,hw,hr⟩;cases e:ks[i]? with
 |none=>have hi:=AT.mp e;rw[DL hi]at hr;cases hr;exact .inl #[#[_,pin hw,by rw[dE];exact hi],kE _ _ hw.less]
 |some x=>
  have hi:=(eJ.mp e).1;rw[drop_cons e]at hr;unfold kQ at hr;split at hr
  .
   rename_i ns hns;split at hr
   .
    rename_i m2 hm2;obtain⟨t,q,kr⟩:=TQ (po:=po) (TJ:=TJ) (py:=py) (cp:=cp) (vN:=vN) (Be:=Be) (sp:=sp) (py3:=py3) (ph:=ph) (Bg:=Bg) (kp:=kp) (bp:=bp) (ap:=ap) (vO:=vO) (j1:=j1) (TL:=TL) F hns;have lh:ih<σ'.length:=by obtain⟨_,s,_⟩:=hw;rw[<- s.sl.length];exact (eJ.mp F.gh).1
    refine .inr #[#[_,.int x,pin hw,by rw[oC,e];rfl],λσ2 H2=>∃m,WA z g iy M0 H0 a m [(p,ks.map .int)] σ2 H2/\kQ ev (ks.drop (i+1)) m=!m',λσ2 H2 hN=>#[k - 1,by lia,by lia,hN],λu H2 hu=>?_]
    obtain⟨rfl,hu⟩:=hu;have hu:=hu _ (pin hw);rw[oC,e]at hu;cases hu;exact#[_,iY q,kr (hw.setInt F.hn F.hy F.hb) (nE lh) hm2 λσ3 H3 h3=>#[_,h3,hr]]
   . cases hr
  . cases hr
theorem Gj(ny:wm X y iy)(vp:Vr X p ip){c n:Int}{m:List (Int×Int)}{g':G}(gp:g[ip]?=!‹c›)(he:aA X z E1 g ‹n› g')(hs:starEach [E1] X.env=[(false,eval E1 X.env)])(h1 : -(2 ^ 62)<=n)(h2:n<2 ^ 62)(hm:LW ev n.toNat [(c,0)]=!m) :
  mW X z [.Assign [.Name y py0] (.Dict [!(.Name p pp)] [.Constant (.int 0) j0 kp0] dp) YX,.For (.Name st pst) (.Call (.Name "range" rp) [E1] [] rcp) [.For (.Name h ph2) (.Call (.Name "list" lp) [.Name y Wv] [] lcp) [.For (.Name o TJ) E2 [uL y o h po py cp vN Be sp py3 ph Bg kp bp ap vO j1] [] TL] [] fp2] [] fp3,.Return (!(.Name y py5)) rp3] g (.rt (.dat (.emp m))) g:=by
 obtain⟨te,qe,ke⟩:=WA.evI (iy:=iy) he;obtain⟨tb,qb,kb⟩:=TV (po:=po) (TJ:=TJ) (py:=py) (cp:=cp) (vN:=vN) (Be:=Be) (sp:=sp) (py3:=py3) (ph:=ph) (ph2:=ph2) (Bg:=Bg) (kp:=kp) (bp:=bp) (ap:=ap) (vO:=vO) (j1:=j1) (TL:=TL) (fp2:=fp2) (lp:=lp) (lcp:=lcp) (Wv:=Wv) F;refine#[[_,_,_],.cons (lT ny.nd ny.ix ny.lc (JV vp.pe qE) rfl ny.fn) (.cons (qI F.pa F.hc (o7 F.gr F.mr (bB qe eS hs) hs) (iZ F.nst.nd F.nst.ix F.nst.lc F.nst.fn) (iY qb) (λ_=>rfl)) (.cons (vW (JW F.vy.pe)) .nil)),λu σ As M H E s kE=>?_]
 have:=s.sl.YW F.hn;subst this;obtain⟨v,ev',rv⟩:=s.sl.tM gp;cases rv;have hi:iy<σ.length:=by rw[<- s.sl.length];exact (eJ.mp F.gy).1
 refine λa ha=>#[.int c,ev',c,0,rfl,rfl,aC,?_]
 have s1:S z g σ [] (a::M) (upd H a (dI [])):=s.OD trivial ha;have h1':WA z g iy M H a [(c,0)] [] (σ.set iy (!(.ref a))) (upd (upd H a (dI [])) a (dI [(c,0)])):=WA.put (m:=[]) #[_,s1.jz F.gy,ao.aW ha,nE hi,bP,s.bW ha,aC,λ_ h=>nomatch h]
 refine ke h1' λH1 hw=>#[n,rfl,h1,h2,λi k σ' H'=>i+k=n.toNat/\∃m',WA z g iy M H a m' [] σ' H'/\LW ev k m'=!m,#[n.toNat,xI _,_,hw,hm],?_]
 rintro i k σ' H' ⟨hik,m',hw,hr⟩;cases k with
 |zero=>
  cases hr;obtain⟨_,s2,_,e1,_,_,ha2,_⟩:=id hw;refine .inl #[by rw[<- hik];exact eA _,.ref a,e1,a,m,rfl,ha2,λo=>?_]
  obtain⟨M3,s3,fy,r3⟩:=hw.seal (o:=o);exact kE _ σ' [] M3 _ s3 fy r3
 |succ k=>
  unfold LW at hr;split at hr
  .
   rename_i m2 hm2;refine .inr #[by show i<n.toNat;lia,λσ2 H2=>∃m',WA z g iy M H a m' [] σ2 H2/\LW ev k m'=!m,λσ2 H2 hN=>#[k,t9 k,by lia,hN],λu H2 hu=>?_]
   obtain⟨rfl,rfl⟩:=hu;exact kb (hw.jz F.gs F.sy) hm2 λσ3 H3 h3=>#[_,h3,hr]
  . cases hr
end
section
variable{X:Cx}{z:Z}{g g1:G}{iter tg:Expr}{m:List (Int×Int)}{n v:Int}
theorem TX(h:lC n m=!v):V9 X z (.emp m) (.int n) ‹v›:=by
 refine#[_,Ox,λg σ As M H v1 v2 Q s q1 q2 kk=>?_]
 rw[q2.int];cases q1 with
 |of q1=>cases q1 with
  |emp _ ha=>exact#[_,n,m,v,rfl,rfl,.inr #[_,ha],h,kk _ H As M s (ao.refl _ _) (.int v)]
theorem TY(h:aA X z iter g (.dat (.emp m)) g1):eW X z tg iter g (m.map λp=>.int p.1) g1:=by
 obtain⟨t,q,k⟩:=h;refine#[_,JX q,λσ As M H R s kk=>k σ As M H _ s λv H1 aN M1 s1 bS r=>?_]
 have r':=r;cases r' with
 |@emp _ o a na ha=>
  refine#[a,o,m,rfl,ha,kk _ H1 aN M1 s1 bS λM2 H2 aL=>?_]
  have ha2:=(aL _ _ ha na).1;refine#[λi d hd=>?_,ha2,by rw[dE];exact eA _]
  rw[oC,AH]at hd;obtain⟨p,e1,rfl⟩:=hd;refine#[#[ha2,(eJ.mp e1).1],λy H' hy z' g' σ' aB _ s'=>?_]
  obtain⟨rfl,p',e2,rfl⟩:=hy;rw[e1]at e2;cases e2;exact#[s',ao.refl _ _,.int _]
end
noncomputable def kU:uf (List Nat):=#[λa b=>decide (a<b),λa=>u7 (List.lt_irrefl a),λa b c h k=>w9 (List.lt_trans (hU h) (hU k)),λa b h k=>yH.anti (of_decide_eq_false k) (of_decide_eq_false h)]
section
variable{X:Cx}{z:Z}
theorem L0{A:Around}{s:Shared}{k1 k2:List Nat}{u1 u2:Value}(x:Dv s.heap (dS k1) u1)(y:Dv s.heap (dS k2) u2):Jk A s u1 u2 (kU.lt k1 k2):=λprog w E Q h=>by
 cases x;cases y;exact lt_str h
theorem L1{d:D}{l:List D}{m:List Nat}{ms:List (List Nat)}(hc:X.calm=true)(hK:z.K=X.K)(h:bF d=!l)(hi:dw l=!(m::ms)):CallD X z (.builtin "min") [d] (.dat (dS (jW kU m ms))):=by rw[fQ hi]at h;exact Lw (O:=kU) (un:=dS) (good:=λ_=>True) hc (λ_ _=>rfl) (λs k1 k2 u1 u2 _ _ x y=>L0 x y) hK h λ_ _=>trivial
end
end Ev
namespace Sb
open PySem PyProof.Rows
section
variable{prog:Program}{w:World}{A:Around}{E:Value->Shared->Prop}{s:Shared}
inductive rO(w:World):List (Int×Value)->List Str->Prop
 |nil:rO w [] []
 |cons (x:Str) (t:Tok) {l:List (Int×Value)}{ks:List Str}:rO w l ks->rO w ((hashStr w x,.str x t)::l) (x::ks)
theorem rO.append{l m:List (Int×Value)}{ks js:List Str}(h:rO w l ks)(h2:rO w m js):rO w (l++m) (ks++js):=by
 induction h with
 |nil=>exact h2
 |cons x t _ ih=>exact .cons x t ih
theorem rO.length{l:List (Int×Value)}{ks:List Str}(h:rO w l ks):l.length=ks.length:=by
 induction h with
 |nil=>rfl
 |cons x t _ ih=>rw[nK,nK,ih]
theorem rO.perm{l m:List (Int×Value)}(p:l.Perm m):∀{ks:List Str},rO w m ks->∃js,js.Perm ks/\rO w l js:=by
 induction p with
 |nil=>exact λh=>#[_,.refl _,h]
 |cons x _ ih=>
  intro ks h;cases h with
  |cons x t h=>obtain⟨js,q1,q2⟩:=ih h;exact#[_,q1.cons _,.cons x t q2]
 |swap x y l=>
  intro ks h;cases h with
  |cons x t h=>cases h with
   |cons y u h=>exact#[_,List.Perm.swap ..,.cons y u (.cons x t h)]
 |trans _ _ ih1 ih2=>intro ks h;obtain⟨js,q1,q2⟩:=ih2 h;obtain⟨js',q3,q4⟩:=ih1 q2;exact#[js',q3.trans q1,q4]
theorem rP(x:Str)(t:Tok):(strKind prog w).is x (.str x t)=true:=by show Value.isStrOf x (.str x t)=true;simp[Value.isStrOf]
theorem rO.elems{l:List (Int×Value)}{ks:List Str}(h:rO w l ks):ElemsOf (strKind prog w) l:=by
 induction h with
 |nil=>intro e he;cases he
 |cons x t _ ih=>
  intro e he;rcases dA.mp he with rfl |he
  . exact#[#[x,rP x t,rfl],rfl]
  . exact ih e he
theorem rO.mem{l:List (Int×Value)}{ks:List Str}(h:rO w l ks){k:Str}:k∈ks ↔ ∃e∈l,(strKind prog w).is k e.2=true:=by
 induction h with
 |nil=>simp
 |cons x t _ ih=>
  rw[dA,ih];constructor
  .
   rintro (rfl |⟨e,e1,e2⟩)
   . exact#[_,bP,rP _ t]
   . exact#[e,a8 _ e1,e2]
  .
   rintro⟨e,e1,e2⟩;rcases dA.mp e1 with rfl |e1
   . exact .inl ((strKind prog w).inj _ _ _ e2 (rP x t))
   . exact .inr #[e,e1,e2]
def fh(w:World)(h:Heap)(a:Addr)(ks:List Str):Prop:=∃o es ep t,h.get? a=!o/\o.ExactSet/\o.data=.set es ep t/\t.fits es.size=true/\(t.plain=true->es.size=0)/\(w.params.followText "set-order"=false->t.led=true)/\ks.Nodup/\∃l:List (Int×Value),es.toList.Perm l/\rO w l ks
theorem fh.typeIs{a:Addr}{ks:List Str}(x:fh w s.heap a ks):s.TypeIs (.ref a) "set" :=by obtain⟨o,_,_,_,ho,S,_⟩:=x;exact#[o,ho,S.1]
theorem wU{h:Heap}{a:Addr}{led:Bool}(ho:h.get? a=some { cls:=.type "set",dict:=none,data:=.set ([].toArray) 0 (.fresh 0 0 led)})(hw:w.params.followText "set-order"=false->led=true):fh w h a []:=
 #[_,([].toArray),0,_,ho,#[rfl,rfl,rfl],rfl,rfl,λ_=>rfl,hw,AA,[],.nil,.nil]
noncomputable def dG{K:Type} [DecidableEq K] (ks:List K) (k:K):List K:=if k∈ks then ks else ks++[k]
theorem wV(t:SetTable)(es:Array (Int×Value))(h:Int)(x:Value):(layNew t es h x).2.1.led=t.led:=by
 unfold layNew;split
 . show (SetTable.orStandIn _ _).led=_;unfold SetTable.orStandIn;split <;> rfl
 . rfl
theorem Bh(t:SetTable)(es:Array (Int×Value))(n:Nat):(relayAll t es n).2.1.led=t.led/\(t.plain=false->(relayAll t es n).2.1.plain=false):=by
 unfold relayAll;split
 .
  rename_i t' order e;have:t'.led=t.led/\t'.plain=t.plain:=by
   unfold SetTable.relaid SetTable.laid at e;cases hc:SetTable.layClean (SetTable.sizeAbove n - 1) (es.map (·.1))with
   |none=>rw[hc]at e;cases e
   |some owner=>rw[hc]at e;cases e;exact#[rfl,rfl]
  dsimp only;split
  . exact#[this.1,λh=>this.2.trans h]
  . exact#[rfl,λ_=>rfl]
 . exact#[rfl,λ_=>rfl]
theorem uM{g:Bool->Sem Unit}(hg:∀(b:Bool) (s₁:Shared) (Q':Unit->Shared->Prop),Q' () s₁->wpAny (model prog w) A (g b) Q' E s₁){a:Addr}{o:Obj}{es es1:Array (Int×Value)}{ep:Nat}{t t2:SetTable}(ho:s.heap.get? a=!o)(hd:o.data=.set es ep t)
  (hz1:es1.size<=sizeLine) (f2:t2.fits es1.size=true) (p2:t2.plain=false) {YZ:Bool}{R:Option Bool->Shared->Prop}
  (h:∀h' es' oE t',Heap.SameBut a s.heap h'->h'.get? a=some { o with data:=.set es' oE t'}->t'.fits es'.size=true->t'.plain=false->es'.toList.Perm es1.toList->t'.led=t2.led->R (!true) { s with heap:=h'}) :
  wpAny (model prog w) A (do
    storeSet a es1 t2
    if ((not YZ)&&t2.tooFull)=true then do
      g (relayAll t2 es1 (SetTable.grown es1.size)).2.2
      storeSet a (relayAll t2 es1 (SetTable.grown es1.size)).1 (relayAll t2 es1 (SetTable.grown es1.size)).2.1
      pure (!true)
     else pure (!true)) R E s:=by
 refine aS (wpAny_storeSet_of ho hd ?_ hz1);have zW:(s.heap.update a (Obj.putSet es1 t2)).get? a=some { o with data:=.set es1 (ep+1) t2}:=by
  have:=oP (Obj.putSet es1 t2) ho (by rw[putSet_of es1 t2 hd];rfl)
  rw[putSet_of es1 t2 hd]at this;exact this
 have sb1:=sT s.heap a (Obj.putSet es1 t2);split
 .
  have zp:=relayAll_perm t2 es1 (SetTable.grown es1.size);have zf:=relayAll_fits t2 es1 (SetTable.grown es1.size);have zl:=Bh t2 es1 (SetTable.grown es1.size);generalize hRl:relayAll t2 es1 (SetTable.grown es1.size)=Rl at zp zf zl ⊢
  obtain⟨T3,t3,gave2⟩:=Rl;dsimp only at zp zf zl ⊢
  have hsz2:T3.size=es1.size:=by rw[<- fR,zp.length_eq,fR]
  refine aS (hg _ _ _ ?_);refine aS (wpAny_storeSet_of zW rfl ?_ (by rw[hsz2];exact hz1))
  have Kl:((s.heap.update a (Obj.putSet es1 t2)).update a (Obj.putSet T3 t3)).get? a=some { o with data:=.set T3 (ep+1+1) t3}:=
   oP (Obj.putSet T3 t3) zW (by rw[putSet_of T3 t3 rfl];rfl)
  exact dL (h _ T3 (ep+1+1) t3 (sb1.trans (sT _ a (Obj.putSet T3 t3))) Kl zf (zl.2 p2) zp zl.1)
 . exact dL (h _ es1 (ep+1) t2 sb1 zW f2 p2 (.refl _) rfl)
theorem Gk{a:Addr}{x:Str}{tk:Tok}{ks:List Str}{Q:Bool->Shared->Prop}(hS:fh w s.heap a ks)(hn:ks.length<1000)
  (q:∀b h',Heap.SameBut a s.heap h'->fh w h' a (dG ks x)->Q b { s with heap:=h'}) :
  wpAny (model prog w) A (setAddHashed a (.str x tk) (hashStr w x)) Q E s:=by
 have hS0:=hS;obtain⟨o,es,ep,t,ho,ex,hd,hf,hp,ld,nd,l,pm,ie⟩:=hS;obtain⟨js,jp,je⟩:=rO.perm pm ie;have hsz:es.size=ks.length:=by rw[<- fR,pm.length_eq,ie.length]
 have hel:ElemsOf (strKind prog w) es.toList:=je.elems;refine sB (aS (u4 ho hd hf ?_));dsimp only;rw[byScan_of (knd:=strKind prog w) rfl (by unfold scanBound;lia) hel]
 refine aS ?_;refine aS (BS ?_);refine aS (wpAny_setScan_of (knd:=strKind prog w) (rP x tk) ho hd hf hel ?_);cases hr:List.findIdx? (λe=>(strKind prog w).is x e.2) es.toList with
 |some j=>
  obtain⟨hj,hpj,_⟩:=List.findIdx?_eq_some_iff_getElem.mp hr;have hk:x∈ks:=jp.mem_iff.mp ((je.mem (prog:=prog)).mpr #[es.toList[j],BA hj,hpj]);refine dL (dL ?_);have:=q false s.heap (Heap.SameBut.refl a s.heap) (by unfold dG;rw[tJ hk];exact hS0)
  exact this
 |none=>
  have hk:x∉ks:=λhk=>by
   obtain⟨e,he,hp⟩:=(je.mem (prog:=prog)).mp (jp.mem_iff.mpr hk);have:=List.findIdx?_eq_none_iff.mp hr e he;rw[hp]at this;exact Bool.noConfusion this
  have uN:=layNew_perm t es (hashStr w x) (.str x tk);have yJ:=layNew_fits t es (hashStr w x) (.str x tk);have L5:=wV t es (hashStr w x) (.str x tk);generalize hL:layNew t es (hashStr w x) (.str x tk)=L at uN yJ L5 ⊢
  obtain⟨es1,t1,YZ,gave⟩:=L;dsimp only at uN yJ L5 ⊢
  rw[CD]at uN;have hs1:es1.size=es.size+1:=by rw[<- fR,uN.length_eq,eQ,fR];rfl
  have done:∀h' es' oE t',Heap.SameBut a s.heap h'->h'.get? a=some { o with data:=.set es' oE t'}->t'.fits es'.size=true->t'.plain=false->es'.toList.Perm es1.toList->t'.led=t.led->fh w h' a (dG ks x):=λh' es' oE t' sb hg f' p' pm' l'=>by
   unfold dG;rw[sK hk];refine#[_,es',oE,t',hg,ex,rfl,f',(λz=>by rw[p']at z;cases z),λhw=>l'.trans (ld hw),?_,l++[(hashStr w x,.str x tk)],pm'.trans (uN.trans (pm.append_right _)),ie.append (.cons x tk .nil)]
   rw[AY];refine#[nd,by simp,λb hb y hy=>?_]
   rw[fA.mp hy];rintro rfl;exact hk hb
  have hgw:∀(b:Bool) {s₁:Shared}{Q':Unit->Shared->Prop},Q' () s₁->wpAny (model prog w) A (match b with |true=>rule "set.scan.the-table-gave-way" |false=>pure ()) Q' E s₁:=
   λb s₁ Q' hq=>by cases b <;> first |exact dL hq |exact BS hq
  refine aS (hgw _ ?_);have hz1:es1.size<=sizeLine:=by unfold sizeLine;lia
  cases hp1:t1.plain with
  |true=>
   refine aS ?_;rw[hashByValue_scannable 8 rfl];refine dL ?_;refine uM (λb s₁ Q' hq=>hgw b hq) ho hd hz1 (SetTable.fits_plain_off yJ) rfl λh' es' oE t' z1 z2 z3 z4 z5 z6=>?_
   exact dL (q true _ z1 (done h' es' oE t' z1 z2 z3 z4 z5 (z6.trans L5)))
  |false=>
   refine aS (dL ?_);simp only[↓reduceIte];refine uM (λb s₁ Q' hq=>hgw b hq) ho hd hz1 yJ hp1 λh' es' oE t' z1 z2 z3 z4 z5 z6=>?_
   exact dL (q true _ z1 (done h' es' oE t' z1 z2 z3 z4 z5 (z6.trans L5)))
theorem Gm{a:Addr}{x:Str}{tk:Tok}{ks:List Str}{Q:Bool->Shared->Prop}(hS:fh w s.heap a ks)(hn:ks.length<1000)
  (q:∀b h',Heap.SameBut a s.heap h'->fh w h' a (dG ks x)->Q b { s with heap:=h',toks:=s.toks+1}) :
  wpAny (model prog w) A (setAdd a (.str x tk)) Q E s:=
 sB (aS (wpAny_pyHash_str (Gk (s:={ s with toks:=s.toks+1}) hS hn q)))
end
end Sb
namespace Sb
open PySem PyProof.Rows
section
variable{prog:Program}{w:World}{A:Around}{s s':Shared}{R:Result->Shared->Prop}{E:Value->Shared->Prop}{I:Addr}{fp wr:List Addr}{G:Array GenState->Array GenState->Prop}{n:Nat}{P:Nat->Value->Prop}{St:Nat->Shared->Prop}
def jZ(val:Nat->Str):Nat->List Str
 | 0=>[]
 |i+1=>dG (jZ val i) (val i)
theorem rQ(val:Nat->Str):∀i,(jZ val i).length<=i
 | 0=>eA _
 |i+1=>by
  have:=rQ val i;show (dG (jZ val i) (val i)).length<=i+1;unfold dG;split
  . lia
  . simp;lia
theorem fh.at'{h h':Heap}{a:Addr}{ks:List Str}(x:fh w h a ks)(k:∀o,h.get? a=!o->h'.get? a=!o):fh w h' a ks:=let #[o,es,ep,t,e,r]:=x;#[o,es,ep,t,k o e,r]
theorem Bj(W:WalksS prog w A.in1 I fp wr G n P St)(S:Addr)(hSf:S∉fp)(val:Nat->Str)(hval:∀i v,P i v->∃t,v=Value.str (val i) t)(hb:n<1000) :
  ∀(k i:Nat) (s:Shared),n - i=k->i<=n->St i s->fh w s.heap S (jZ val i)->
   (∀s',Moved (S::wr) G s s'->fh w s'.heap S (jZ val n)->R (.ok (.ret .none)) s')->
   codeAny (model prog w) A (.builtin "set.update.loop" #[[.ref S,.ref I],[]]) R s:=by
 have Tt:S∉wr:=λh=>hSf (W.sub _ h)
 have hsub:∀b∈wr,b∈S::wr:=λb hb=>a8 _ hb
 intro k
 induction k with
 |zero=>
  intro i s hk hi bT hS hR;obtain rfl:i=n:=by lia
  refine AJ F.entry_set_update_loop ?_;rw[Around.under_plainId F.plain_set_update_loop _];refine aS (W.done s _ _ bT λs' hm=>?_)
  exact dL (hR s' (hm.mono hsub) (hS.at' λo e=>hm.heap S o Tt e))
 |succ k ih=>
  intro i s hk hi bT hS hR;have hlt:i<n:=by lia
  refine AJ F.entry_set_update_loop ?_;rw[Around.under_plainId F.plain_set_update_loop _];refine aS (W.item i s _ _ hlt bT λv s' hP hst' hm=>?_)
  obtain⟨tk,rfl⟩:=hval i v hP;have hS':fh w s'.heap S (jZ val i):=hS.at' λo e=>hm.heap S o Tt e
  refine aS (sB ?_);refine Gm hS' (by have:=rQ val i;lia) λb h' sb hS2=>?_
  refine dL #[B0 F.plain_set_update_loop _,ih (i+1) _ ⋯ hlt (W.frame _ s' h' _ hst' ⋯ λb hb o e=>?_) hS2 λs'' hm'' hS''=>?_]
  .
   rw[sb.2 b (λh:b=S=>hSf (h▸hb))]
   exact e
  .
   refine hR s'' (Moved.trans W.gtrans ((hm.mono hsub).then_heap ⋯ λb o hb e=>?_) hm'') hS''
   rw[sb.2 b (λh:b=S=>hb (h▸bP))]
   exact e
theorem Gn{id:String}{S l:Addr}{vs:List Value}{val:Nat->Str}{Q:Unit->Shared->Prop}(hh:A.in1.handled=none)
  (hl:s.heap.IsList l vs.toArray) (hS:fh w s.heap S []) (hv:∀(i:Nat) (v:Value),vs[i]?=!v->∃t,v=Value.str (val i) t) (hn:vs.length<1000)
  (q:∀s',Moved [S,s⁻¹] (λa b=>b=a) s s'->fh w s'.heap S (jZ val vs.length)->Q () s') :
  wpAny (model prog w) A (Builtin.Frozenset.updateFrom id S (.ref l)) Q E s:=by
 have hT:s.TypeIs (.ref l) "list" :=hl.typeIs;unfold Builtin.Frozenset.updateFrom Builtin.Frozenset.isAnySet;refine aS (aS (B4 hT PySem.F.sub_list_set ?_));refine B4 hT PySem.F.sub_list_frozenset ?_;simp only[DB,↓reduceIte];refine aS (wpAny_typeOf hT ?_);rw[sK ⋯];refine aS (AR hl ?_);refine aS (wpAny_runValue ?_);have hz:vs.toArray.size=vs.length:=by simp
 have hlS:l<s⁻¹:=by obtain⟨o,ho,_⟩:=hl;exact fI ho
 have hSS:S<s⁻¹:=by obtain⟨o,_,_,_,ho,_⟩:=hS;exact fI ho
 have jI:S≠l:=by rintro rfl;obtain⟨o,_,_,_,ho,ST,_⟩:=hS;obtain⟨o',ho',hc,_⟩:=hl;obtain rfl:o=o':=wS (ho.symm.trans ho');rw[ST.1]at hc;exact absurd hc ⋯
 refine Bj (EV hh s⁻¹ l (i6 hlS) vs.toArray).toS S ?_ val (λi v h=>hv i v (by simpa using h)) (by rw[hz];exact hn) _ 0 _ rfl (sR _) #[#[_,dC _ rfl,rfl,rfl],?_] (hS.at' λo e=>a7 _ e) λs' hm hS'=>?_
 . simp only[dA,nN,A8,not_or];exact#[i6 hSS,jI]
 . obtain⟨o,ho,rest⟩:=hl;exact#[o,a7 _ ho,rest]
 . rw[hz]at hS';exact dL (q s' #[λb o hb e=>hm.heap b o hb (a7 _ e),hm.gens,hm.drawn,hm.os,hm.toks] hS')
def Ph(w:World)(s:Shared)(ks:List Str)(s':Shared):Prop:=
 fh w s'.heap s⁻¹ ks/\(∀b o,b<s⁻¹->s.heap.get? b=!o->s'.heap.get? b=!o)/\s'.gens=s.gens/\s'.drawn=s.drawn/\s'.os=s.os/\s.toks<=s'.toks
set_option maxHeartbeats 3200000 in
theorem call_set_list{l:Addr}{vs:List Value}{val:Nat->Str}{Q:Value->Shared->Prop}(hh:A.handled=none)
  (hl:s.heap.IsList l vs.toArray) (hv:∀(i:Nat) (v:Value),vs[i]?=!v->∃t,v=Value.str (val i) t) (hn:vs.length<1000)
  (q:∀s',Ph w s (jZ val vs.length) s'->Q (.ref s⁻¹) s') :
  wpAny (model prog w) A (call (.type "set") [.ref l]) Q E s:=by
 obtain⟨c,tl,hmro⟩:=F.called_set.mro;have hmade:=F.called_set.made;have hsub:=F.called_set.sub;refine DM (codeAny_of_tree ?_);refine dL #[Code.quiet_builtin _ (by decide +kernel),AJ F.entry_type_call ?_]
 rw[Around.under_plain (weight_type_call_type "set" [.ref l] []) rfl];have h1:=F.called_set.notType;have h2:=F.called_set.canCreate;have hct:=F.typeCall_set_1 (.ref l)
 repeat (any_goals (first |assumption |wp_step))
 refine B8 (Gi (.ref l) (E:=E) (Q₁:=λobj s₁=>∃led:Bool,(w.params.followText "set-order"=false->led=true)/\obj=.ref s⁻¹/\s₁={ s with heap:=s.heap.push (Bb led)}) λled hw=>⟨led,hw,rfl,rfl⟩) λr s₁ hr=>?_
 cases r with
 |error e=>exact hr
 |ok fl=>
  cases fl with
  |ret obj=>
   obtain⟨led,hw,rfl,rfl⟩:=hr;have hS:(s.heap.push (Bb led)).get? s⁻¹=!(Bb led):=dC _ rfl;have hT:Shared.TypeIs { s with heap:=s.heap.push (Bb led)} (.ref s⁻¹) "set" :=⟨_,hS,rfl⟩;have hli:=F.called_set.init.lookup;have hbi:=F.called_set.init.bind (.ref s⁻¹)
   repeat (any_goals (first |assumption |wp_step))
   refine B8 (codeAny_call_builtin (R:=wants (λr s₂=>r=.none/\Ph w s (jZ val vs.length) s₂) E) F.called_set.init.plain F.entry_set_init (check_set_init_1 hT ?_)) λr₂ s₂ hr₂=>?_
   .
    have hl1:(s.heap.push (Bb led)).IsList l vs.toArray:=by obtain⟨o,ho,rest⟩:=hl;exact#[o,a7 _ ho,rest]
    have hh3:A.in1.in1.in1.handled=none:=by simp[hh]
    have hS':(s.heap.push { cls:=.type "set",dict:=none,data:=.set ([].toArray) 0 (.fresh 0 0 led)}).get? s⁻¹=some { cls:=.type "set",dict:=none,data:=.set ([].toArray) 0 (.fresh 0 0 led)}:=hS;unfold Builtin.«set.__init__» noKeywords;generalize hUF:Builtin.Frozenset.updateFrom=UF
    wp_walk
    subst hUF;refine Gn hh3 hl1 (wU hS hw) hv hn λs' hm hS2=>?_
    refine dL #[rfl,hS2,λb o hb e=>hm.heap b o ?_ (a7 _ e),hm.gens,hm.drawn,hm.os,hm.toks]
    have hb2:b≠(s.heap.push (Bb led)).objs.size:=by rw[oQ];exact i6 (AD hb)
    simp only[dA,nN,A8,not_or];exact#[i6 hb,hb2]
   .
    cases r₂ with
    |error e=>exact hr₂
    |ok fl₂=>
     cases fl₂ with
     |ret r=>
      obtain⟨rfl,hD⟩:=hr₂
      repeat (any_goals (first |assumption |wp_step))
      exact q _ hD
     |_=>exact hr₂.elim
  |_=>exact hr.elim
end
end Sb
namespace Sb
open PySem PySem.W PyProof.Rows
section
variable{prog:Program}{w:World}{A:Around}{E:Value->Shared->Prop}{s:Shared}
theorem rR{M:Model}{src:Source}{n:Nat}{Q:Nat->Shared->Prop}(hn:0<n)(h:∀i d,i<n->Q i { s with drawn:=d}):wpAny M A (choose src n) Q E s:=
 λ_ _ _=>#[AV hn,h _ _ (Nat.mod_lt _ hn)]
theorem yK{α:Type}:∀(n:Nat) (xs:List α) (s:Shared) {Q:List α->Shared->Prop},xs.length=n->(∀ys d,ys.Perm xs->Q ys { s with drawn:=d})->wpAny (model prog w) A (drawOrder n xs) Q E s
 | 0,xs,s,Q,h,q=>by
  obtain rfl:=List.length_eq_zero_iff.mp h;exact dL (q [] s.drawn (.refl _))
 |n+1,[],s,Q,h,q=>nomatch h
 |n+1,x::xs,s,Q,h,q=>by
  refine aS (rR (BF _) λi d hi=>?_)
  rw[mB hi];refine aS (yK n _ _ (by rw[List.length_eraseIdx_of_lt hi];lia) λys d2 hp=>?_)
  exact dL (q _ d2 ((hp.cons _).trans (rJ _ _ hi)))
def Kept(s s':Shared):Prop:=(∀b o,s.heap.get? b=!o->s'.heap.get? b=!o)/\s'.gens=s.gens/\s'.os=s.os/\s.toks<=s'.toks
structure IX(prog:Program)(w:World)(A:Around)(a:Addr)(s s2:Shared)(I:Addr)(wo:List (Int×Value)):Prop where
 kept:Kept s s2
 new:s⁻¹<=I
 walk:∃fp St,Walks prog w A I fp [I] wo.length (λi v=>∃e,wo[i]?=!e/\e.2=v) St/\St 0 s2.heap/\∀b∈fp,b=a\/s⁻¹<=b
theorem wW{a:Addr}{l:List (Int×Value)}{Q:List Value->Shared->Prop}(hT:s.TypeIs (.ref a) "set")(hn:l.length<=sizeLine)
  (it:∀(s1:Shared) (Q:Value->Shared->Prop),Kept s s1->(∀(s2:Shared) (I:Addr) (wo:List (Int×Value)),wo.Perm l->IX prog w A.in1 a s1 s2 I wo->Q (.ref I) s2)->wpAny (model prog w) A.in1 (pyIter (.ref a)) Q (λe s'=>E e s') s1)
  (hQ:∀(s':Shared) (wo:List (Int×Value)),wo.Perm l->Kept s s'->Q (wo.map (·.2)) s'):wpAny (model prog w) A (collect (.ref a)) Q E s:=by
 obtain⟨oa,hoa,hca⟩:=hT;have hlt:=fI hoa;have hSa:=AV hlt;refine aS (wpAny_runValue (AJ F.entry_proto_collect ?_));refine aS (wT ?_);refine dL #[B0 F.plain_list_iadd _,AJ F.entry_list_iadd ?_];have vK:(s.heap.push { cls:=.type "list",data:=.seq ([]:List Value).toArray}).get? a=!oa:=a7 _ hoa;show wpAny _ A.in1 (Builtin.List.listExtendWith (.ref s⁻¹) (.ref a) (.ref s⁻¹)) _ _ _;refine aS (wpAny_typeOf #[_,vK,hca] ?_);have h1:Builtin.List.listSameRef (.ref s⁻¹) (.ref a)=false:=by simp[Builtin.List.listSameRef,hSa]
 have h2:(Value.type "set" == Value.type "list")=false:=by decide
 have h3:(Value.type "set" == Value.type "tuple")=false:=by decide
 simp only[h1];refine aS (it _ _ #[λb o e=>a7 _ e,rfl,rfl,eA _] λs2 I wo pm X=>?_)
 obtain⟨⟨k1,k2,k3,k4⟩,n1,fp,St,W,st,hfp⟩:=X;have hz:(s.heap.push { cls:=.type "list",data:=.seq ([]:List Value).toArray}).objs.size=s⁻¹+1:=oQ ..;dsimp only at k1 k2 k3 k4 n1;rw[hz]at n1;refine aS (sB ?_);refine Gh #[_,k1 _ _ vK,hca] ?_;refine aS (BS ?_);have hS₁:s2.heap.get? s⁻¹=some { cls:=.type "list",data:=.seq ([]:List Value).toArray}:=k1 _ _ (dC _ rfl);refine aS ?_;refine aS (DD hS₁ rfl ?_);have hS₂:=oP (Obj.mapSeq (·.push Value.none)) hS₁ rfl;refine DD hS₂ rfl ?_;have hS₃:=oP (Obj.mapSeq (·.pop)) hS₂ rfl;have Gp:∀b o,b≠s⁻¹->s2.heap.get? b=!o->
   ((s2.heap.update s⁻¹ (Obj.mapSeq (·.push Value.none))).update s⁻¹ (Obj.mapSeq (·.pop))).get? b=!o:=
  λb o hb e=>(lS _ _ (wP hb)).trans ((lS _ _ (wP hb)).trans e)
 have hSf:s⁻¹∉fp:=λz=>by
  have:=hfp _ z;dsimp only at this;rw[hz]at this;lia
 refine dL #[B0 F.plain_extend_loop _,codeAny_extend_loopS W.toS (by rw[pm.length_eq];exact hn) _ hSf _ wo.length 0 _ _ _ rfl (sR _) (W.frame 0 _ _ st λb hb o e=>Gp b o (λz=>hSf (z▸hb)) e) hS₃ (ItemsOf.nil _) λs' acc' c' hm hS' hacc=>?_]
 refine aS (wpAny_load hS' ?_);have e:acc'.toList=wo.map (·.2):=by
  obtain⟨z1,z2⟩:=hacc;apply Cs;intro i;by_cases hi:i<acc'.size
  . obtain⟨e,e1,e2⟩:=z2 i acc'[i] (Array.getElem?_eq_getElem hi);rw[tS,Array.getElem?_eq_getElem hi,oC,e1,<- e2];rfl
  . rw[AM (by simpa using hi),AM (by rw[dE];lia)]
 refine dL ?_;rw[e];refine hQ s' wo pm #[λb o eb=>hm.heap b o ?_ (Gp b o ?_ (k1 _ _ (a7 _ eb))),hm.gens.trans k2,hm.os.trans k3,oI k4 hm.toks]
 . have:=fI eb;simp only[dA,nN,A8,not_or];exact#[by lia,by lia]
 . have:=fI eb;lia
end
end Sb
namespace Sb
open PySem PySem.W PyProof.Rows
section
variable{prog:Program}{w:World}{A:Around}{E:Value->Shared->Prop}{s:Shared}
def Gq(h:Heap)(I a:Addr)(F:Value)(i n ep:Nat):Prop:=
 ∃o,h.get? I=!o/\o.cls=.type "set_iterator" /\o.data=.fields ([F,.int i 0,.ref a,.int n 0,.int ep 0].toArray)
theorem Gq.typeIs{I a:Addr}{F:Value}{i n ep:Nat}(x:Gq s.heap I a F i n ep):s.TypeIs (.ref I) "set_iterator" :=let #[o,ho,hc,_]:=x;#[o,ho,hc]
theorem Gs{I a:Addr}{F:Value}{i n ep:Nat}{Q:Value->Shared->Prop}(hit:Gq s.heap I a F i n ep)(h:Q (.ref I) s):wpAny (model prog w) A (pyIter (.ref I)) Q E s:=by refine wpAny_pyIter_slot hit.typeIs jB (wE jB hit.typeIs oM ?_ (rK _));exact dL #[_,rfl, "set_iterator",_,hit.typeIs,aP.lookup,h]
def Goes(prog:Program)(w:World)(a:Addr)(o:Obj)(ep:Nat)(sl:Nat->Nat)(wo:List (Int×Value)):Prop:=
 ∀(A:Around) (E:Value->Shared->Prop) (s:Shared) (i:Nat) (Q:Option (Value×Nat)->Shared->Prop),s.heap.get? a=!o->i<=wo.length->Q (wo[i]?.map λe=>(e.2,sl (i+1))) s->wpAny (model prog w) A (setNext a (sl i) i ep) Q E s
theorem Bm{a:Addr}{o:Obj}{es:Array (Int×Value)}{ep:Nat}{t:SetTable}(hw:w.params.followText "set-order"=true)(hd:o.data=.set es ep t)(hf:t.fits es.size=true):Goes prog w a o ep (λ_=>0) (pickOrder (w.params.setOrder a ep) es).toList:=λA E s i Q ho hi q=>by
 refine aS (u4 ho hd hf ?_);refine aS (aS (B5 (dL ?_)));dsimp only[model];rw[hw];simp only[↓reduceIte];rw[sK ⋯];refine aS ?_;rw[Ls];refine aS (u4 ho hd hf ?_);refine aS (aS (B5 (dL ?_)));dsimp only;rw[hw];simp only[↓reduceIte];refine aS (B5 ?_);refine dL (dL ?_);rw[tS]at q;exact q
theorem Gu{a:Addr}{o:Obj}{es:Array (Int×Value)}{ep:Nat}{t:SetTable}(hw:w.params.followText "set-order"=false)(hd:o.data=.set es ep t)(hf:t.fits es.size=true)(ld:t.led=true)(h1:es.size<=1):Goes prog w a o ep (λi=>if i=0 then 0 else t.place.getD 0 0+1) es.toList:=λA E s i Q ho hi q=>by
 rw[Lv];refine aS (u4 ho hd hf ?_);refine aS (aS (B5 (dL ?_)));dsimp only[model];have hg : ¬ es.size > 1:=by lia
 rw[hw,ld];have hz:t.place.size=es.size:=by unfold SetTable.fits at hf;simp only[gL,C5]at hf;exact hf.1
 rw[fR]at hi;have e:(match es[SetTable.below t.place (if i=0 then 0 else t.place.getD 0 0+1)]?,t.place[SetTable.below t.place (if i=0 then 0 else t.place.getD 0 0+1)]? with
   |!(_,x),!j=>!(x,j+1)
   |_,_=>none)=es.toList[i]?.map λe=>(e.2,if i+1=0 then 0 else t.place.getD 0 0+1):=by
  generalize t.place=pl at hz ⊢
  obtain⟨pl⟩:=pl;obtain⟨es⟩:=es
  match es,pl,h1,hz with
  | [],[],_,_=>obtain rfl:i=0:=Nat.le_zero.mp hi;rfl
  | [e],[j],_,_=>
   have hi:i<=1:=hi;obtain rfl |rfl:i=0\/i=1:=by lia
   . rfl
   .
    have:SetTable.below ([j].toArray) (j+1)=1:=by
     unfold SetTable.below;show SetTable.below.go ([j].toArray) (j+1) 1 0 1=1;unfold SetTable.below.go;rw[tJ (BF _)];show (if j<j+1 then SetTable.below.go ([j].toArray) (j+1) 0 1 1 else _)=1
     rw[tJ (t9 _)];rfl
    show (match [e].toArray[SetTable.below ([j].toArray) (j+1)]?,_ with |!(_,x),!j=>!(x,j+1) |_,_=>none)=_
    rw[this];rfl
  | [_],[],_,hz=>exact nomatch hz
  | [],_::_,_,hz=>exact nomatch hz
  | [_],_::_::_,_,hz=>exact nomatch hz
  |_::_::_,_,h1,_=>exact absurd h1 ⋯
 have hq:((not t.plain)&&decide (es.size > 1))=false:=by rw[u7 hg,EQ]
 have q':=cast (congrArg (λr=>Q r s) e.symm) q
 simp only[hq,DB,↓reduceIte,Bool.not_true,Bool.false_and];exact aS (dL (dL q'))
theorem L7{a I:Addr}{o:Obj}{es:Array (Int×Value)}{ep:Nat}{t:SetTable}{sl:Nat->Nat}{wo:List (Int×Value)}(hh:A.handled=none)(jI:a≠I)(hd:o.data=.set es ep t)(hf:t.fits es.size=true)(hl:wo.length=es.size)(G:Goes prog w a o ep sl wo) :
  Walks prog w A I [I,a] [I] wo.length (λi v=>∃e,wo[i]?=!e/\e.2=v) (λi h=>Gq h I a (.int (sl i:Nat) 0) i es.size ep/\h.get? a=!o) where
 sub:=λb hb=>by simp at hb;simp[hb]
 frame:=λ_ _ _ st hk=>#[let #[o,ho,r]:=st.1;#[o,hk I ⋯ o ho,r],hk a ⋯ _ st.2]
 item:=λi s Q E hi st hQ=>by
  obtain⟨hit,hoa⟩:=st;obtain⟨oi,yL,hc,hd1⟩:=id hit;refine aS (BD (yY hit.typeIs aP (wE aP hit.typeIs cC ?_ (cU _))));refine aS (dL ?_);refine aS (wpAny_fieldsOf yL hd1 ?_);refine aS (aS (u4 hoa hd hf (dL ?_)));rw[sK ⋯];simp only[AS];refine aS (G _ _ _ i _ hoa (AU hi) ?_);rw[mB hi];refine aS (AK yL hd1 ⋯ ?_);have vK:=oP (Obj.mapFields (·.setIfInBounds 0 (rawInt (sl (i+1):Nat)))) yL (xL (rV hd1 _));have hd2:=rV hd1 (·.setIfInBounds 0 (rawInt (sl (i+1):Nat)));have sb:=(sT s.heap I (Obj.mapFields (·.setIfInBounds 0 (rawInt (sl (i+1):Nat))))).trans (sT _ I (Obj.mapFields (·.setIfInBounds 1 (rawInt ((i:Int)+1)))));refine aS (AK vK hd2 ⋯ (dL #[_,rfl,dL (hQ _ _ s.toks #[_,mB hi,rfl] #[?_,sb.extBut a o jI hoa] λb o hb e=>sb.extBut b o (λh=>hb (by simp[h])) e)]))
  exact#[_,oP _ vK (xL (rV hd2 _)),(CA ..).trans ((CA ..).trans hc),by
   rw[rV hd2];simp[rawInt]]
 done:=λs Q E st hQ=>by
  obtain⟨hit,hoa⟩:=st;obtain⟨oi,yL,hc,hd1⟩:=id hit;refine aS (BD (yY hit.typeIs aP (wE aP hit.typeIs cC ?_ (cU _))));refine aS (dL ?_);refine aS (wpAny_fieldsOf yL hd1 ?_);refine aS (aS (u4 hoa hd hf (dL ?_)));rw[sK ⋯];simp only[AS];refine aS (G _ _ _ wo.length _ hoa (eA _) ?_);rw[AM (eA _)];refine aS (AK yL hd1 ⋯ ?_);refine aS ?_;refine aS (wT ?_ (by size_fits))
  refine aS (D4 (by first |rfl | (simp only[firstArgMember];rfl)) ?_)
  refine wT ?_ (by size_fits)
  refine aS (wpAny_handled ?_)
  first |rw[show A.in1.handled=none from hh] |rw[hh]
  refine aS (dL (wpAny_throw ?_));refine aS (B4 #[_,dC _ rfl,rfl] isSubtype_stop ?_);have he:=((sT s.heap I (Obj.mapFields (·.setIfInBounds 2 Value.none))).extBut.push { cls:=.type "StopIteration",data:=.plain});exact dL (hQ _ _ λb o hb e=>(((sT ..).extBut.push _).push _) b o (λh=>hb (by simp[h])) e)
 self:=λ_ _ _ _ st hQ=>Gs st.1 hQ
end
end Sb
namespace Sb
open PySem PySem.W PyProof.Rows
section
variable{prog:Program}{w:World}{A:Around}{E:Value->Shared->Prop}{s:Shared}
noncomputable abbrev Gv(od:List Nat):Obj:={ cls:=.type "tuple",data:=.seq (od.map λ(i:Nat)=>rawInt i).toArray}
theorem L8{a I T:Addr}{o:Obj}{es:Array (Int×Value)}{ep:Nat}{t:SetTable}{od:List Nat}{wo:List (Int×Value)}(hh:A.handled=none)(jI:a≠I)(hnT:T≠I)(hd:o.data=.set es ep t)(hf:t.fits es.size=true)(hl:od.length=es.size)(ho:∀i:Nat,wo[i]?=(od[i]?).bind λ(j:Nat)=>es[j]?)(hw:wo.length=es.size) :
  Walks prog w A I [I,a,T] [I] wo.length (λi v=>∃e,wo[i]?=!e/\e.2=v) (λi h=>Gq h I a (.ref T) i es.size ep/\h.get? a=!o/\h.get? T=!(Gv od)) where
 sub:=λb hb=>by simp at hb;simp[hb]
 frame:=λ_ _ _ st hk=>#[let #[o,ho,r]:=st.1;#[o,hk I ⋯ o ho,r],hk a ⋯ _ st.2.1,hk T ⋯ _ st.2.2]
 item:=λi s Q E hi st hQ=>by
  obtain⟨hit,hoa,hoT⟩:=st;obtain⟨oi,yL,hc,hd1⟩:=id hit;have ei:wo[i]?=some wo[i]:=mB hi;have hio:i<od.length:=by lia
  have e1:=ho i;rw[ei,mB hio]at e1;have e2:es[od[i]]?=some wo[i]:=e1.symm;refine aS (BD (yY hit.typeIs aP (wE aP hit.typeIs cC ?_ (cU _))));refine aS (dL ?_);refine aS (wpAny_fieldsOf yL hd1 ?_);refine aS (aS (u4 hoa hd hf (dL ?_)));rw[sK ⋯];simp only[AS];refine aS (AB hoT rfl ?_);dsimp only;have e3:(od.map λ(i:Nat)=>rawInt i).toArray[i]?=!(rawInt (od[i]:Nat)):=by simp[hio]
  rw[e3];dsimp only[rawInt];refine aS ?_;unfold setNextDrawn;refine aS (u4 hoa hd hf ?_);dsimp only;rw[sK ⋯];simp only[AS];rw[e2];refine dL ?_;refine aS (AK yL hd1 ⋯ (dL #[_,rfl,dL (hQ _ _ s.toks #[_,ei,rfl] #[?_,?_,?_] λb o hb e=>?_)]))
  .
   exact#[_,oP _ yL (xL (rV hd1 _)),(CA ..).trans hc,by
    rw[rV hd1];simp[rawInt]]
  . exact (sT ..).extBut a o jI hoa
  . exact (sT ..).extBut T _ hnT hoT
  . exact (sT ..).extBut b o (λh=>hb (by simp[h])) e
 done:=λs Q E st hQ=>by
  obtain⟨hit,hoa,hoT⟩:=st;rw[hw]at hit;obtain⟨oi,yL,hc,hd1⟩:=id hit;refine aS (BD (yY hit.typeIs aP (wE aP hit.typeIs cC ?_ (cU _))));refine aS (dL ?_);refine aS (wpAny_fieldsOf yL hd1 ?_);refine aS (aS (u4 hoa hd hf (dL ?_)));rw[sK ⋯];simp only[AS];refine aS (AB hoT rfl ?_);dsimp only;have e3:(od.map λ(i:Nat)=>rawInt i).toArray[es.size]?=none:=by simp[hl]
  rw[e3];dsimp only;refine aS (AK yL hd1 ⋯ ?_);have vK:=oP (Obj.mapFields (·.setIfInBounds 0 (rawInt 0))) yL (xL (rV hd1 _));have hd2:=rV hd1 (·.setIfInBounds 0 (rawInt 0));refine aS (AK vK hd2 ⋯ ?_);refine aS ?_;refine aS (wT ?_ (by size_fits))
  refine aS (D4 (by first |rfl | (simp only[firstArgMember];rfl)) ?_)
  refine wT ?_ (by size_fits)
  refine aS (wpAny_handled ?_)
  first |rw[show A.in1.handled=none from hh] |rw[hh]
  refine aS (dL (wpAny_throw ?_));refine aS (B4 #[_,dC _ rfl,rfl] isSubtype_stop ?_);exact dL (hQ _ _ λb o hb e=>((((sT ..).trans (sT ..)).extBut.push _).push _) b o (λh=>hb (by simp[h])) e)
 self:=λ_ _ _ _ st hQ=>Gs st.1 hQ
theorem T4{a:Addr}{o:Obj}{es:Array (Int×Value)}{ep:Nat}{t:SetTable}{Q:Value->Shared->Prop}(hh:A.handled=none)(ho:s.heap.get? a=!o)(ex:o.ExactSet)(hd:o.data=.set es ep t)(hf:t.fits es.size=true)(hp:t.plain=true->es.size=0)(ld:w.params.followText "set-order"=false->t.led=true)(hz:es.size<=sizeLine)
  (h:∀(s2:Shared) (I:Addr) (wo:List (Int×Value)),wo.Perm es.toList->IX prog w A a s s2 I wo->Q (.ref I) s2):wpAny (model prog w) A (pyIter (.ref a)) Q E s:=by
 have hT:s.TypeIs (.ref a) "set" :=#[_,ho,ex.1];have hlt:=fI ho;refine wpAny_pyIter_slot hT F.slot_set_iter (wE F.slot_set_iter hT mX ?_ (F.args_set_iter_1 _));refine aS (dL ?_);rw[Gg];refine aS (aS (aS (u4 ho hd hf (dL (dL ?_)))));refine aS (aS (u4 ho hd hf (aS (aS (B5 (dL (dL ?_)))))));have YT:∀{I T:Addr},s⁻¹<=I->s⁻¹<=T->∀b∈[I,a,T],b=a\/s⁻¹<=b:=λh1 h2 b hb=>by
  simp only[dA,nN,A8]at hb;rcases hb with rfl |rfl |rfl
  . exact .inr h1
  . exact .inl rfl
  . exact .inr h2
 have hn:a≠s⁻¹:=i6 hlt;dsimp only;split
 ·
  refine aS (yK _ _ _ (BU) λod d hod=>?_)
  have hl:od.length=es.size:=by rw[hod.length_eq,BU]
  refine aS (wpAny_newTuple ?_ (by rw[dE,hl];exact hz))
  have hoa:=a7 (Gv od) ho;refine aS (aS (u4 hoa hd hf (dL ?_)));refine aS (wT (dL #[_,rfl, "set_iterator",_,#[_,dC _ rfl,rfl],aP.lookup,?_]));have hz1:(s.heap.push (Gv od)).objs.size=s⁻¹+1:=oQ ..;have hin:∀j∈od,j<es.size:=λj hj=>w8.mp (hod.mem_iff.mp hj)
  refine h _ _ (od.map λj=>es.getD j (0,.none)) ?_ #[#[λb ob e=>a7 _ (a7 _ e),rfl,rfl,eA _],by show _<=(s.heap.push (Gv od)).objs.size;lia,_,_,L8 hh (I:=(s.heap.push (Gv od)).objs.size) (T:=s⁻¹) ⋯ ⋯ hd hf hl (λi=>?_) (by rw[dE,hl]),#[#[_,dC _ rfl,rfl,rfl],a7 _ hoa,a7 _ (dC _ rfl)],YT ⋯ (eA _)]
  .
   refine (hod.map _).trans ?_;have:(List.range es.size).map (λj=>es.getD j (0,.none))=es.toList:=by
    refine List.ext_getElem ⋯ λi h1 h2=>?_
    have hi:i<es.size:=by simpa using h2
    simp[hi]
   rw[this]
  .
   rw[oC];cases hi:od[i]? with
   |none=>rfl
   |some j=>have:=hin j (pE hi);simp[this]
 .
  rename_i hc;replace hc : ¬ ((not (w.params.followText "set-order" ))&& ((not t.plain)&&decide (es.size > 1)))=true:=hc;refine aS (dL ?_);refine aS (aS (u4 ho hd hf (dL ?_)));refine aS (wT (dL #[_,rfl, "set_iterator",_,#[_,dC _ rfl,rfl],aP.lookup,?_]));obtain⟨sl,wo,h0,pm,G⟩:∃(sl:Nat->Nat) (wo:List (Int×Value)),sl 0=0/\wo.Perm es.toList/\Goes prog w a o ep sl wo:=by
   cases hw:w.params.followText "set-order" with
   |true=>exact#[_,_,rfl,Ba _ _,Bm hw hd hf]
   |false=>
    refine#[_,_,rfl,.refl _,Gu hw hd hf (ld hw) ?_];rw[hw]at hc;by_cases h1:es.size<=1
    . exact h1
    .
     refine absurd ?_ hc;cases x8:t.plain with
     |true=>have:=hp x8;lia
     |false=>rw[w9 (show es.size > 1 by lia)];rfl
  refine h _ _ wo pm #[#[λb ob e=>a7 _ e,rfl,rfl,eA _],eA _,_,_,L7 hh hn hd hf (by rw[pm.length_eq,fR]) G,#[#[_,dC _ rfl,rfl,by rw[h0];rfl],a7 _ ho],λb hb=>YT (eA _) (eA _) b (dA.mpr ((dA.mp hb).imp_right λz=>dA.mpr (.inl (fA.mp z))))]
theorem Bo{a:Addr}{ks:List Str}{Q:List Value->Shared->Prop}(hh:A.in1.handled=none)(hS:fh w s.heap a ks)(hn:ks.length<1000)
  (hQ:∀s' vs js,js.Perm ks->StrsAre vs js->Kept s s'->Q vs s'):wpAny (model prog w) A (collect (.ref a)) Q E s:=by
 have hT:=hS.typeIs;obtain⟨o,es,ep,t,ho,ex,hd,hf,hp,ld,nd,l,pm,ie⟩:=hS;have hsz:es.size=ks.length:=by rw[<- fR,pm.length_eq,ie.length]
 refine wW (l:=es.toList) hT (by rw[fR,t7];lia) (λs1 Q' k1 hq=>T4 hh (k1.1 _ _ ho) ex hd hf hp ld (by rw[t7];lia) hq) λs' wo hw hk=>?_
 obtain⟨js,j1,j2⟩:=rO.perm (hw.trans pm) ie;refine hQ s' _ js j1 ?_ hk;clear hw hk j1
 induction j2 with
 |nil=>exact .nil
 |cons x t _ ih=>exact .cons x t ih
theorem wX{v:Value}{R:List Value->Shared->Prop}{Q:Value->Shared->Prop}(go:wpAny (model prog w) A.in1 (collect v) R E s)
  (h:∀vs s',R vs s'->vs.length<=sizeLine/\wpAny (model prog w) A.in1.in1 (Builtin.«list.sort» #[[.ref s'⁻¹],[]]) (λf s''=>f=.done (.ret .none)/\Q (.ref s'⁻¹) s'') E { s' with heap:=s'.heap.push (seqObj "list" vs.toArray 0)}) :
  wpAny (model prog w) A (call (.builtin "sorted") [v]) Q E s:=by
 refine CH kind_sorted plain_sorted entry_sorted (args_sorted1 _) ?_;refine aS (dL (aS (qS go ?_ λ_ _ z=>z)))
 intro vs s' hr;obtain⟨hz,h⟩:=h vs s' hr;refine aS (Dx ?_ hz);refine aS (sB (wE slot_list_sort #[_,dC _ rfl,rfl] entry_list_sort (qS h (λf s'' hf=>#[_,hf.1,?_]) λ_ _ z=>z) (args_list_sort _)))
 exact dL #[_,rfl,hf.2]
end
end Sb
namespace Ev
open L2 PySem.W Sb
abbrev vS(l:List Nat):V:=.str (tx l)
theorem Gw(m:List (List Nat)):dF kU m=aJ m:=iF (iE _) ((e9 (O:=kU) m).imp λh=>of_decide_eq_false h)
section
variable{prog:Program}{w:World}{A:Around}{E:Value->Shared->Prop}{s:Shared}
theorem iG{m:List (List Nat)}{vs:List Value}(h:Vals (m.map vS) vs){i:Nat}(hi:i<m.length):∃t,vs.getD i Value.none=.str (tx (m.getD i [])) t:=by
 have:=jS h (i:=i) (by rw[dE];exact hi)
 have e:(m.map vS).getD i .non=vS (m.getD i []):=by simp[hi]
 rw[e]at this;exact this
theorem m7{a:Addr}{vs:List Value}{n:Nat}{m:List (List Nat)}{P:PySem.Fin->Shared->Prop}(ho:s.heap.get? a=!(seqObj "list" vs.toArray n))(hv:Vals (m.map vS) vs)(hl:m.length<100000)
  (h:∀out:List Value,Vals ((aJ m).map vS) out->P (.done (.ret .none)) { s with heap:=sortedHeap s.heap a vs out.toArray}) :
  wpAny (model prog w) A (Builtin.«list.sort» #[[.ref a],[]]) P E s:=by
 have aM:vs.length=m.length:=by rw[<- hv.length,dE]
 by_cases h2:vs.length<2
 .
  refine uw ho h2 (h vs ?_);have:aJ m=m:=by
   match m,(aM▸h2:m.length<2)with
   | [],_=>rfl
   | [_],_=>rfl
  rw[this];exact hv
 .
  refine uv (κ:=oneType') (O:=kU) (key:=λi=>m.getD i []) ho ⋯ ⋯ (λQ hq=>?_) (λi j C hi hj hC=>?_) λp hp hr=>?_
  .
   obtain⟨v1,v2,rest,rfl⟩:∃v1 v2 rest,vs=v1::v2::rest:=by
    match vs,h2 with
    | [],h2=>exact absurd (BF _) h2
    | [_],h2=>exact absurd (t9 _) h2
    |v1::v2::rest,_=>exact#[v1,v2,rest,rfl]
   rw[keyKind_strs (mZ hv)];exact dL hq
  . obtain⟨t1,e1⟩:=iG hv (i:=i) ⋯;obtain⟨t2,e2⟩:=iG hv (i:=j) ⋯;show wpAny _ _ (keyLt' oneType' (vs.getD i Value.none) (vs.getD j Value.none)) C _ _;rw[e1,e2];exact oneLt_str hC
  .
   rw[aM]at hp hr;refine h _ ?_;rw[<- Gw,<- kL hp hr,List.map_map];have hin:∀i∈p.toList,i<m.length:=λi hi=>by simpa using (Bi.mp hp).mem_iff.mp hi
   have:=jT hv (p:=p.toList) λi hi=>by rw[dE];exact hin i hi
   rw[show p.toList.map (λi=>(m.map vS).getD i .non)=p.toList.map (vS ∘ λi=>m.getD i [])from AL λi hi=>by simp[hin i hi]]at this
   exact this
theorem Bp{vs:List Value}{js:List Str}(h:StrsAre vs js):Vals ((js.map λx=>x.cps.toList).map vS) vs:=by
 induction h with
 |nil=>exact .nil
 |cons x t _ ih=>exact .cons #[t,rfl] ih
theorem uO{a:Addr}{ks:List (List Nat)}{Q:Value->Shared->Prop}(hh:A.in1.in1.handled=none)(hS:fh w s.heap a (ks.map tx))(hl:ks.length<1000)
  (q:∀(ep:Nat) (out:List Value) s1 s',Kept s s1->Kept s1 s'->s'.heap.get? s1⁻¹=!(seqObj "list" out.toArray ep)->Vals ((aJ ks).map vS) out->Q (.ref s1⁻¹) s') :
  wpAny (model prog w) A (call (.builtin "sorted") [.ref a]) Q E s:=by
 refine wX (R:=λvs s'=>∃js,js.Perm (ks.map tx)/\StrsAre vs js/\Kept s s') (Bo hh hS (by rw[dE];exact hl) λs' vs js jp je hk=>#[js,jp,je,hk]) ?_
 rintro vs s' ⟨js,jp,je,hk⟩;have hI:=Bp je;have Ew:(js.map λx=>x.cps.toList).Perm ks:=by
  have:=jp.map λx:Str=>x.cps.toList
  rw[List.map_map,show ((λx:Str=>x.cps.toList) ∘ tx)=id from funext λl=>wN l,List.map_id]at this
  exact this
 have aM:vs.length=ks.length:=by rw[<- hI.length,dE,Ew.length_eq]
 refine#[by rw[t7,aM];lia,m7 (dC _ rfl) hI (by rw[Ew.length_eq];lia) λout ho=>#[rfl,?_]]
 obtain⟨oE,he⟩:=sortedHeap_at (h:=s'.heap.push (seqObj "list" vs.toArray 0)) (a:=s'⁻¹) (vs:=vs) (n:=0) (out:=out.toArray) (dC _ rfl);rw[oN Ew]at ho;have kk:∀b o,s'.heap.get? b=!o->(sortedHeap (s'.heap.push (seqObj "list" vs.toArray 0)) s'⁻¹ vs out.toArray).get? b=!o:=λb o hb=>by
  have hlt:=fI hb;rw[sortedHeap_old (i6 hlt) (by rw[oQ];lia)]
  exact a7 _ hb
 refine q oE out s' _ hk ?_ he ho;exact#[kk,rfl,rfl,eA _]
end
section
variable{X:Cx}{z:Z}
theorem rS:bV X (.builtin "sorted") (λxs H Q=>∃p m,xs=[.ref p]/\bD X.K H p (m.map vS)/\m.length<1000/\∀q,H q=none->Q (.ref q) (upd H q (.lst ((aJ m).map vS)))):=by
 intro aj s σ H xs us Q I r h;obtain⟨p,m,rfl,hq,hl,q⟩:=h;obtain⟨u,rfl,rx⟩:=vals1 r;cases rx;obtain⟨its,r',pl,hz⟩:=I.list hq;have aM:=r'.length;rw[dE]at aM;have hz:its.length<=sizeLine:=by rw[t7];lia
 refine pR (.inl pl.isList) hz (m7 (lG _ _) r' ⋯ λout ho=>#[rfl,?_])
 obtain⟨ep,he⟩:=sortedAll_at s.heap its out.toArray;refine#[.ref (s⁻¹+1),_,I.laid (λb o e=>sortedAll_old e) (BI _) ?_,rfl,q _ (I.hok.fresh (BI _))]
 exact#[by rw[dE,(bQ m).length_eq,t7];lia,out,ep,ho,he]
theorem wY{l:List D}{m:List (List Nat)}(hi:dw l=!m)(hl:m.length<1000):CallD X z (.builtin "sorted") [.lst l] (.new ((aJ m).map dS)):=by
 refine#[_,rS,λg σ As M H vs Q s p k=>?_]
 obtain⟨v,rfl,pv⟩:=p.one;obtain⟨a,xs,rfl,e1,e2⟩:=pv.list;rw[fQ hi]at e2;have:=gA e2;subst this;exact#[a,m,rfl,bD.of e1,hl,λq hq=>k _ _ As (q::M) (s.aW hq) (ao.aW hq) #[q,_,rfl,bP,λhA=>s.fresh hq (s.sub q hA),s.bW hq,aC,jX _]]
end
open L2 PySem.W Sb
def bL{K:Type} [DecidableEq K] (ks:List K):List K->List K
 | []=>ks
 |k::l=>bL (dG ks k) l
theorem pY{d:Str}(val:Nat->Str):∀(l:List Str) (i:Nat),(∀j,j<l.length->val (i+j)=l.getD j d)->jZ val (i+l.length)=bL (jZ val i) l
 | [],i,_=>rfl
 |k::l,i,h=>by
  have h0:val i=k:=h 0 (BF _);have:=pY (d:=d) val l (i+1) λj hj=>by
   have:=h (j+1) (Nat.succ_lt_succ hj);rw[show i+1+j=i+(j+1)by lia,this]
   rfl
  rw[nK,show i+(l.length+1)=i+1+l.length by lia,this]
  show bL (dG (jZ val i) (val i)) l=_;rw[h0];rfl
theorem T5{a b:List Nat}(h:tx a=tx b):a=b:=by rw[<- wN a,h,wN]
theorem yM:∀l ks:List (List Nat),bL (ks.map tx) (l.map tx)=(bL ks l).map tx
 | [],_=>rfl
 |k::l,ks=>by
  have e:dG (ks.map tx) (tx k)=(dG ks k).map tx:=by
   have:tx k∈ks.map tx ↔ k∈ks:=#[λh=>by obtain⟨x,hx,e⟩:=i9.mp h;exact T5 e▸hx,λh=>yB h]
   unfold dG;by_cases h:k∈ks
   . rw[tJ h,tJ (this.mpr h)]
   .
    rw[sK h,sK λq=>h (this.mp q),AW]
    rfl
  show bL (dG (ks.map tx) (tx k)) (l.map tx)=_;rw[e];exact yM l _
section
variable{X:Cx}{z:Z}{g g1:G}{p p2 pos pos2:Pos}{e:Expr}
theorem T6:kD X (compareOp .GtE) (λx y H Q=>∃i j,x=.str i/\y=.str j/\Q (.bl ((not (decide (i.cps.toList<j.cps.toList))))) H):=by intro aj s σ H x y v u Q I rx ry h;obtain⟨i,j,rfl,rfl,q⟩:=h;obtain⟨t,rfl⟩:=rx;obtain⟨t',rfl⟩:=ry;exact PySem.P.ge_str (Qy I q rfl)
theorem T7{x y:Str}:lq X z (compareOp .GtE) (.str x) (.str y) (.dat (.bl ((not (decide (x.cps.toList<y.cps.toList)))))):=
 #[_,T6,λg σ As M H v1 v2 Q s p1 p2 kk=>#[x,y,p1.str,p2.str,kk _ H As M s (ao.refl _ _) (.bl _)]]
theorem T8{aj: ~~~1}{σ:Sg}{H:Hp}{s:Shared}{d:Drawn}(I:L2.Inv X aj σ H s):L2.Inv X aj σ H { s with drawn:=d}:=by cases I;constructor <;> assumption
theorem Gx{r:R}{l:List D}{m:List (List Nat)}(hc:X.calm=true)(hK:z.K=X.K)(ha:cu X z [e] g [r] g1)(hp:pk r g1=!(.lst l))(hi:dw l=!m)(hl:m.length<1000)
  (hg:Gl X "sorted") (hm:X.mg "sorted"=none) (Kl:Gl X "set") (hm2:X.mg "set"=none) (bT:starEach [e] X.env=(false,eval e X.env)::starEach [] X.env) :
  aA X z (.Call (.Name "sorted" p) [.Call (.Name "set" p2) [e] [] pos2] [] pos) g (.new ((aJ (bL [] m)).map dS)) g1:=by
 refine aA.of λaj s σ As M H Post I st k=>?_
 refine AG (eK I hg hm (by rfl:bootBuiltins ("sorted":Str)=!(.builtin "sorted")) (PyProof.Rows.callWith_builtin1 ?_ rfl rfl))
 show wpAny _ _ (spliced ((false,eval (.Call (.Name "set" p2) [e] [] pos2) X.env)::backTo pos (starEach [] X.env))) _ _ s;refine Calls.spliced_cons ?_;refine AG (eK I Kl hm2 (by rfl:bootBuiltins ("set":Str)=!(.type "set")) (An (ha.run I st λvs us s1 H1 aN M1 I1 r1 q1 q2 q3=>?_) bT rfl))
 have qW:=q1.qW q3 (ds:=[.lst l]) (by unfold qW;rw[hp];rfl)
 obtain⟨v1,rfl,pv1⟩:=qW.one;obtain⟨u1,rfl,ru1⟩:=vals1 r1;obtain⟨a,xs,rfl,e1,e2⟩:=pv1.list;cases ru1;rw[fQ hi]at e2;have ex:=gA e2;subst ex;obtain⟨its,rv,pl,_⟩:=I1.list (bD.of e1);have aM:its.length=m.length:=by rw[<- rv.length,dE]
 have hh:=I1.ok.hd hc;have hms:jZ (λj=>(m.map tx).getD j (tx [])) its.length=(bL [] m).map tx:=by
  have:=pY (d:=tx []) (λj=>(m.map tx).getD j (tx [])) (m.map tx) 0 λj _=>by rw[xI]
  rw[xI,dE]at this;rw[aM,this];exact yM m []
 have hln:(bL [] m).length<1000:=by
  have:=rQ (λj=>(m.map tx).getD j (tx [])) its.length
  rw[hms,dE]at this;lia
 refine call_set_list (val:=λj=>(m.map tx).getD j (tx [])) hh pl.isList (λi v hv=>?_) ⋯ λs' hD=>?_
 .
  have hi:i<m.length:=by rw[<- aM];exact (eJ.mp hv).1
  obtain⟨t,e⟩:=iG rv hi;rw[a9,hv]at e;have e:v=.str (tx (m.getD i [])) t:=e;exact#[t,by rw[e,show (m.map tx).getD i (tx [])=tx (m.getD i [])by simp[hi]]]
 rw[hms]at hD;obtain⟨d1,d2,d3,d4,d5,d6⟩:=hD;obtain⟨h',g',dr',tk',os'⟩:=s';dsimp only at d1 d2 d3 d4 d5 d6;subst d3 d4 d5;have I2:L2.Inv X aj σ H1 { s1 with heap:=h',toks:=tk'}:=I1.kept λb o hb=>d2 b o (fI hb) hb
 refine Calls.spliced_nil ?_;refine uO (s:={ s1 with heap:=h',toks:=tk'}) hh d1 hln λep out s2 s3 m1 m2 hget hB=>?_
 obtain⟨h2,g2,dr2,tk2,os2⟩:=s2;obtain⟨h3,g3,dr3,tk3,os3⟩:=s3;obtain⟨a1,a2,a3,a4⟩:=m1;obtain⟨b1,b2,b3,b4⟩:=m2;dsimp only at a1 a2 a3 a4 b1 b2 b3 b4 hget;subst a2 a3 b2 b3;have I3:L2.Inv X aj σ H1 { s1 with heap:=h2,toks:=tk2}:=I2.kept a1;have hf:H1 h2.objs.size=none:=I3.hok.fresh (eA _);have hsl:(aJ (bL [] m)).length<1000:=by rw[(bQ _).length_eq];exact hln
 refine k (.ref h2.objs.size) _ _ (upd H1 h2.objs.size (.lst ((aJ (bL [] m)).map vS))) aN (h2.objs.size::M1) (T8 (I3.laid (t':=tk3) (o:=.lst ((aJ (bL [] m)).map vS)) b1 (eA _) ?_)) rfl (q1.aW hf) (q2.trans (ao.aW hf)) #[_,_,rfl,bP,λhA=>q1.fresh hf (q1.sub _ hA),q1.bW hf,aC,jX _]
 exact#[by rw[dE,t7];lia,out,ep,hB,by simpa using hget]
end
inductive Bl where
 |len |list |tuple |max |min |str |all |sorted |sum |any |int
 deriving DecidableEq
set_option genInjectivity false in
inductive Ex where
 |val (d:D) |slot (i:Nat)
 |bin (op:Operator) (a b:Ex) |cmp (op:CmpOp) (a b:Ex) |chain (a:Ex) (ops:List CmpOp) (l:List Ex)
 |neg (a:Ex) |not (a:Ex) |and (l:List Ex) |or (l:List Ex) |ite (c a b:Ex)
 |tup (l:List Ex) |lst (l:List Ex)
 |ix (a b:Ex) |slice (a:Ex) (lo hi:Option Ex)
 |call (f:Nat) (l:List Ex) |blt (b:Bl) (l:List Ex) |Cj (a:Ex) (n:String) |Gy (a:Ex) (ns:List String)
 |comp (n k:Nat) (T:Tg) (it:Ex) (c:Option Ex) (e:Ex)
 |dY (a:Ex) |fS (a b:Ex)
 |enum (a:Ex) |zip (a b:Ex) |Gz (a:Ex) |sset (a:Ex) |join (e:Ex)
 |GC (l:List (Bool×Ex))
 |rev (a:Ex) |stk |peek (e:Ex)
 |uP (f ir:Nat) (ca:List Addr) (e:Ex) |pZ (a:Ex) (l:List (Addr×Bool))
 |append (i:Nat) (e:Ex) |extend (i:Nat) (e:Ex)
set_option genInjectivity false in
inductive Sm where
 |ret (e:Ex) |expr (e:Ex) |set (i:Nat) (e:Ex) |setC (i:Nat) (e:Ex) |item (i:Nat) (j e:Ex)
 |uQ (i:Nat) (j e:Ex)
 |ite (c:Ex) (a b:List Sm) |loop (T:Tg) (it:Ex) (b:List Sm) |raise (ci:Nat) (e:Ex) |ways (ip iy rM ih io:Nat) (e1 e2:Ex) |stuck
structure Fx where
 np:Nat
 n:Nat
 body:List Sm
noncomputable def Tg.Bq:Tg->Bool
 |.tp _=>true
 |.nm _=>false
noncomputable def Ma(i j:Int):Bool:=(decide (-(2 ^ 64)<i)&&decide (i<2 ^ 64))||(decide (-(2 ^ 64)<j)&&decide (j<2 ^ 64))
def lim:Nat:=16777216
noncomputable def rT{α:Type}(f:Int->Int->Option α)(a b:D):Option α:=match a with
 |.int i=>(match b with |.int j=>f i j |_=>none)
 |_=>none
noncomputable def T9(a b:D):Option R:=match a with
 |.int i=>(match b with |.int j=>!(.dat (.int (i+j))) |.bl c=>!(.dat (.int (i+Pb c))) |_=>none)
 |.str x=>(match b with |.str y=>if x.length+y.length<=lim then some (.dat (.str (x++y)))else none |_=>none)
 |.lst l=>(match b with |.lst m=>if l.length+m.length<=lim then some (.new (l++m))else none |_=>none)
 |.tup l=>(match b with |.tup m=>if l.length+m.length<=lim then some (.dat (.tup (l++m)))else none |_=>none)
 |_=>none
def Mf(a:D)(k:Int):Option R:=match a with
 |.int i=>if Ma i k=true then some (.dat (.int (i * k)))else none
 |.lst l=>if -(2 ^ 63)<=k/\k<2 ^ 63/\l.length * k.toNat<=lim then some (.new (List.replicate k.toNat l).flatten)else none
 |_=>none
noncomputable def Y0(a b:D):Option R:=match a with
 |.int i=>(match b with |.int j=>!(.dat (.int (i - j))) |.bl c=>!(.dat (.int (i - Pb c))) |_=>none)
 |_=>none
noncomputable def Y3(d:D):Option R:=match d with
 |.str x=>if x.length<=lim then some (.dat (.int x.length))else none
 |_=>none
def Pj(d:D):Option R:=match d with
 |.lst l=>(match dw l with |some m=>if m.length<1000 then some (.new ((aJ m).map dS))else none |none=>none)
 |_=>none
def lA(op:Operator)(a b:D):Option R:=match op with
 |.Add=>T9 a b
 |.Sub=>Y0 a b
 |.Mult=>(match b with |.int k=>Mf a k |_=>none)
 |.FloorDiv=>rT (λi j=>if 0<j/\j<18446744073709551616 then some (.dat (.int (i / j)))else none) a b
 |.Mod=>rT (λi j=>if 0<j then some (.dat (.int (i % j)))else none) a b
 |.Pow=>rT (λi j=>if 0<=j/\j<=1000/\i.natAbs<2 ^ 64 then some (.dat (.int (i ^ j.toNat)))else none) a b
 |_=>none
def jC(d1 d2:D):Bool:=iA d1&&iA d2&&decide (dep d1<=190)
def Br(d1:D)(l:List D):Bool:=iA d1&&iB l&&decide (deps l<=190)
noncomputable def geF(a b:D):Option Bool:=match a with
 |.int i=>(match b with |.int j=>!(decide (j<=i)) |_=>none)
 |.str x=>(match b with |.str y=>!((not (decide (x.cps.toList<y.cps.toList)))) |_=>none)
 |_=>none
def dQ(op:CmpOp)(d1 d2:D):Option Bool:=match op with
 |.Eq=>if jC d1 d2=true then some (cz d1 d2)else none
 |.NotEq=>if jC d1 d2=true then some ((not (cz d1 d2)))else none
 |.Lt=>rT (λi j=>!(decide (i<j))) d1 d2
 |.LtE=>rT (λi j=>!(decide (i<=j))) d1 d2
 |.GtE=>geF d1 d2
 |.In=>(match bF d2 with |some l=>if Br d1 l=true then some (l.any λd=>cz d d1)else none |none=>none)
 |_=>none
def Cp:D->D->Option D
 |.lst l,.int i=>iS l i
 |.fix l,.int i=>iS l i
 |.tup l,.int i=>iS l i
 |.emp m,.int n=>(match lC n m with |some v=>!(.int v) |none=>none)
 |_,_=>none
def Pn(b:Bl)(d:D):Option R:=match b with
 |.len=>(match Yb d with |some n=>!‹n› |none=>Y3 d)
 |.list=>(match bF d with |some l=>!(.new l) |none=>none)
 |.tuple=>(match bF d with |some l=>!(.dat (.tup l)) |none=>none)
 |.max=>(match bF d with |some l=>(match bu l with |!(n::ns)=>!(.dat (.int (fc n ns))) |_=>none) |none=>none)
 |.min=>(match bF d with |some l=>(match bu l with |!(n::ns)=>!(.dat (.int (gJ n ns))) |_=>none) |none=>none)
 |.all=>(match d with |.lst l=>(match tT l with |some bs=>!(.dat (.bl (bs.all id))) |none=>none) |_=>none)
 |.sorted=>(match bF d with |some l=>(match bu l with |some ns=>if ns.length<64 then some (.new ((gW ns).map .int))else none |none=>match kM l with |some cE=>if cE.length<64 then some (.new ((dF rA cE).map λns=>.tup (ns.map .int)))else none |none=>Pj d) |none=>none)
 |.sum=>(match bF d with |some l=>(match bu l with |some ns=>!(.dat (.int ns.sum)) |none=>none) |none=>none)
 |_=>none
def kW(b:Bl)(ds:List D):Option R:=match ds with
 | [d]=>Pn b d
 |_=>none
noncomputable def jD(t n:String):Bool:=t==n||(t == "bool" && n == "int")
noncomputable def isW:Ex->Bool
 |.dY _=>true
 |.fS _ _=>true
 |.enum _=>true
 |.zip _ _=>true
 |_=>false
structure Rn where
 e:List Nat->Nat->Ex->G->Option (R×G)
 t:List Nat->Nat->Ex->G->Option (Bool×G)
 b:List Nat->Nat->List Sm->G->Option (Fl×G)
 x:List Nat->Nat->Ex->G->Option (Nat×G)
 xt:List Nat->Nat->Ex->G->Option (Nat×G)
 xb:List Nat->Nat->List Sm->G->Option (Nat×G)
noncomputable def toD(bor:List Nat):R->G->Option (D×G)
 |.dat d,g=>!(d,g)
 |.new l,g=>!(.lst l,g)
 |.var i,g=>if i∈bor then none else match g[i]? with |!(.own l)=>!(.lst l,g.set i (.dat (.lst l))) |_=>none
noncomputable def norm:R->R
 |.new l=>.dat (.lst l)
 |.dat d=>.dat d
 |.var i=>.var i
section
variable(rn:Rn)(bor:List Nat)(k:Nat)
noncomputable def gP(e:Ex)(g:G):Option (D×G):=match rn.e bor k e g with
 |!(r,g1)=>toD bor r g1
 |none=>none
noncomputable def m8:List Ex->G->Option (List D×G)
 | [],g=>!([],g)
 |e::es,g=>match gP rn bor k e g with
  |!(d,g1)=>match m8 es g1 with
   |!(ds,g2)=>!(d::ds,g2)
   |none=>none
  |none=>none
def argsR:List Ex->G->Option (List R×G)
 | [],g=>!([],g)
 |e::es,g=>match rn.e bor k e g with
  |!(r,g1)=>match argsR es g1 with
   |!(rs,g2)=>!(norm r::rs,g2)
   |none=>none
  |none=>none
def Ua:D->List CmpOp->List Ex->G->Option (Bool×G)
 |d1,[op],[b],g=>match gP rn bor k b g with
  |!(d2,g1)=>match dQ op d1 d2 with |some c=>!(c,g1) |none=>none
  |none=>none
 |d1,op::op'::ops,b::b'::bs,g=>match gP rn bor k b g with
  |!(d2,g1)=>match dQ op d1 d2 with
   |some true=>Ua d2 (op'::ops) (b'::bs) g1
   |some false=>!(false,g1)
   |none=>none
  |none=>none
 |_,_,_,_=>none
def GD:List Ex->G->Option (R×G)
 | [],_=>none
 | [a],g=>rn.e bor k a g
 |a::b::l,g=>match rn.e bor k a g with
  |!(.dat (.bl true),g1)=>GD (b::l) g1
  |!(.dat (.bl false),g1)=>!(.dat (.bl false),g1)
  |_=>none
def Y4:List Ex->G->Option (R×G)
 | [],_=>none
 | [a],g=>rn.e bor k a g
 |a::b::l,g=>match rn.e bor k a g with
  |!(.dat (.bl false),g1)=>Y4 (b::l) g1
  |!(.dat (.bl true),g1)=>!(.dat (.bl true),g1)
  |_=>none
def uR:List Ex->G->Option (Bool×G)
 | [],_=>none
 | [a],g=>rn.t bor k a g
 |a::b::l,g=>match rn.t bor k a g with
  |!(true,g1)=>uR (b::l) g1
  |!(false,g1)=>!(false,g1)
  |none=>none
def GF:List Ex->G->Option (Bool×G)
 | [],_=>none
 | [a],g=>rn.t bor k a g
 |a::b::l,g=>match rn.t bor k a g with
  |!(false,g1)=>GF (b::l) g1
  |!(true,g1)=>!(true,g1)
  |none=>none
noncomputable def GJ:Option Ex->G->Option (Option Int×G)
 |none,g=>!(none,g)
 |!e,g=>match gP rn bor k e g with
  |!(.int i,g1)=>!(!i,g1)
  |_=>none
noncomputable def GK(j:Int):Bool:=decide (-(2 ^ 62)<=j)&&decide (j<2 ^ 62)
def g7(tp:Bool)(it:Ex)(g:G):Option (List D×G):=match it with
 |.dY a=>match gP rn bor k a g with
  |!(.int j,g1)=>if GK j=true then some (iC 0 j.toNat,g1)else none
  |_=>none
 |.fS a b=>match gP rn bor k a g with
  |!(.int c,g1)=>match gP rn bor k b g1 with
   |!(.int j,g2)=>if GK c=true/\GK j=true then some (iC c (j - c).toNat,g2)else none
   |_=>none
  |_=>none
 |.zip a b=>if tp=true then match m8 rn bor k [a,b] g with
  |!([d1,d2],g1)=>match bF d1,bF d2 with |!l,!m=>if isTup d1=isTup d2 then some (rE l m,g1)else none |_,_=>none
  |_=>none
  else none
 |.enum a=>if tp=true then match gP rn bor k a g with
  |!(d,g1)=>match bF d with |some l=>!(pU l,g1) |none=>none
  |none=>none
  else none
 |e=>match gP rn bor k e g with
  |!(.tup l,g1)=>!(l,g1)
  |!(.lst l,g1)=>!(l,g1)
  |!(.fix l,g1)=>!(l,g1)
  |!(.str x,g1)=>!(Wu x,g1)
  |!(.emp m,g1)=>!(m.map λp=>.int p.1,g1)
  |_=>none
def Bs:Option Ex->G->Option (Bool×G)
 |none,g=>!(true,g)
 |!c,g=>rn.t bor k c g
def Mi(T:Tg)(last:Nat)(c:Option Ex)(e:Ex):List D->G->Option G
 | [],g=>!g
 |d::l,g=>match T.set d g with
  |none=>none
  |some g1=>match Bs rn bor k c g1 with
   |none=>none
   |!(false,g2)=>Mi T last c e l g2
   |!(true,g2)=>match gP rn bor k e g2 with
    |none=>none
    |!(x,g3)=>match g3[last]? with
     |!(.own acc)=>if acc.length<lim then Mi T last c e l (g3.set last (.own (acc++[x])))else none
     |_=>none
def cR(n kk:Nat)(T:Tg)(it:Ex)(c:Option Ex)(e:Ex)(g:G):Option (List D×G):=match g7 rn bor k T.Bq it g with
 |none=>none
 |!(au,g1)=>if g1.length=n/\(T.ix.any λi=>decide (i∈bor))=false then match Mi rn bor k T (n+kk) c e au (gC kk g1)with
   |none=>none
   |some gE=>match gE[n+kk]? with
    |!(.own acc)=>!(acc,gE.take n)
    |_=>none
  else none
def dZ(fx:Fx)(k':Nat)(rs:List R)(g1:G):Option (R×G):=
 if rs.length=fx.np/\((vars 0 rs).map (·.2)).Nodup then match cL rs g1 with
  |none=>none
  |some gs=>match rn.b ((vars 0 rs).map (·.1)) k' fx.body (cO fx.n gs)with
   |!(.rt r,gc)=>match back (vars 0 rs) gc g1 with
    |some gO=>match bX ((vars 0 rs).map (·.1)) gc r with |some r'=>!(r',gO) |none=>none
    |none=>none
   |!(.nx,gc)=>match back (vars 0 rs) gc g1 with
    |some gO=>!(.dat .non,gO)
    |none=>none
   |_=>none
 else none
def Wx:Str->List (Bool×Ex)->G->Option (Str×G)
 |out,[],g=>!(out,g)
 |out,(false,.val (.str y))::es,g=>if (out++y).length<=lim then Wx (out++y) es g else none
 |out,(true,e)::es,g=>match gP rn bor k e g with
  |!(.int i,g1)=>if i.natAbs.log2<1920/\(out++(toString i:Str)).length<=lim then Wx (out++(toString i:Str)) es g1 else none
  |_=>none
 |_,_,_=>none
def aX(fns:List Fx)(e:Ex)(g:G):Option (R×G):=match e with
 |.val d=>!(.dat d,g)
 |.slot i=>match g[i]? with |!(.dat d)=>!(.dat d,g) |!(.own _)=>!(.var i,g) |_=>none
 |.bin op a b=>match argsR rn bor k [a,b] g with
  |!([r1,r2],g2)=>match pk r1 g2,pk r2 g2 with
   |!d1,!d2=>match lA op d1 d2 with |some r=>!(r,g2) |none=>none
   |_,_=>none
  |_=>none
 |.cmp op a b=>match argsR rn bor k [a,b] g with
  |!([r1,r2],g2)=>match pk r1 g2,pk r2 g2 with
   |!d1,!d2=>match dQ op d1 d2 with |some c=>!(.dat (.bl c),g2) |none=>none
   |_,_=>none
  |_=>none
 |.chain a ops l=>match gP rn bor k a g with
  |!(d1,g1)=>match Ua rn bor k d1 ops l g1 with |!(c,g2)=>!(.dat (.bl c),g2) |none=>none
  |none=>none
 |.neg a=>match gP rn bor k a g with |!(.int i,g1)=>!(.dat (.int (-i)),g1) |_=>none
 |.not a=>match rn.e bor k a g with |!(.dat (.bl c),g1)=>!(.dat (.bl ((not c))),g1) |_=>none
 |.and l=>GD rn bor k l g
 |.or l=>Y4 rn bor k l g
 |.ite c a b=>match rn.t bor k c g with
  |!(true,g1)=>rn.e bor k a g1
  |!(false,g1)=>rn.e bor k b g1
  |none=>none
 |.tup l=>match m8 rn bor k l g with |!(ds,g1)=>if ds.length<=lim then some (.dat (.tup ds),g1)else none |none=>none
 |.lst l=>match m8 rn bor k l g with |!(ds,g1)=>if ds.length<=lim then some (.new ds,g1)else none |none=>none
 |.ix a b=>match argsR rn bor k [a,b] g with
  |!([r1,r2],g2)=>match pk r1 g2,pk r2 g2 with
   |!d1,!d2=>match Cp d1 d2 with |some d=>!(.dat d,g2) |none=>none
   |_,_=>none
  |_=>none
 |.slice a lo hi=>match rn.e bor k a g with
  |!(r,g1)=>match GJ rn bor k lo g1 with
   |!(i,g2)=>match GJ rn bor k hi g2 with
    |!(j,g3)=>match pk (norm r) g3 with
     |!(.lst l)=>!(.new (Kw l i j),g3)
     |_=>none
    |none=>none
   |none=>none
  |none=>none
 |.call f l=>match fns[f]?,k with
  |!fx,k'+1=>match argsR rn bor k l g with
   |!(rs,g1)=>dZ rn fx k' rs g1
   |none=>none
  |_,_=>none
 |.blt b l=>match argsR rn bor k l g with
  |!(rs,g1)=>match qW rs g1 with
   |some ds=>match kW b ds with |some r=>!(r,g1) |none=>none
   |none=>none
  |none=>none
 |.Cj a n=>match rn.e bor k a g with
  |!(r,g1)=>match pk (norm r) g1 with |some d=>!(.dat (.bl (jD (wk d) n)),g1) |none=>none
  |none=>none
 |.Gy a ns=>match rn.e bor k a g with
  |!(r,g1)=>match pk (norm r) g1 with |some d=>!(.dat (.bl (ns.any (jD (wk d)))),g1) |none=>none
  |none=>none
 |.comp n kk T it c e=>match cR rn bor k n kk T it c e g with |!(acc,g1)=>!(.new acc,g1) |none=>none
 |.rev a=>match rn.e bor k a g with
  |!(r,g1)=>match pk (norm r) g1 with
   |!(.lst l)=>!(.new l.reverse,g1)
   |_=>none
  |none=>none
 |.stk=>none
 |.peek e=>if bor.isEmpty=true then match rn.e [] k e (g.map fB)with |!(.dat d,_)=>if flat d=true then some (.dat d,g)else none |!(.new l,_)=>if l.all jA=true then some (.new l,g)else none |_=>none else none
 |.uP f ir ca e=>match fns[f]?,k with
  |!fx,k'+2=>match rn.x [] k' e (g.map noOwn)with
   |!(ci,_)=>match ca[ci]? with
    |some C=>match rn.b [] k' (fx.body.drop 2) ((List.replicate fx.n .no).set ir (.dat (.kF C)))with
     |!(.rt r,g3)=>match bX [] g3 r with |some r'=>!(r',g) |none=>none
     |_=>none
    |none=>none
   |none=>none
  |_,_=>none
 |.pZ a l=>match rn.e bor k a g with
  |!(r,g1)=>match pk (norm r) g1 with
   |!(.kF C)=>match l.lookup C with |some b=>!(.dat (.bl b),g1) |none=>none
   |some .non=>!(.dat (.bl false),g1)
   |_=>none
  |none=>none
 |.append i e=>match g[i]? with
  |!(.own _)=>match gP rn bor k e g with
   |!(d,g1)=>match g1[i]? with |!(.own l)=>if l.length<lim then some (.dat .non,g1.set i (.own (l++[d])))else none |_=>none
   |none=>none
  |_=>none
 |.extend i e=>match g[i]? with
  |!(.own _)=>match gP rn bor k e g with
   |!(.lst m,g1)=>match g1[i]? with |!(.own l)=>if l.length+m.length<=lim then some (.dat .non,g1.set i (.own (l++m)))else none |_=>none
   |_=>none
  |_=>none
 |.GC l=>match l with
  |_::_::_=>match Wx rn bor k Str.empty l g with |!(r,g1)=>!(.dat (.str r),g1) |none=>none
  |_=>none
 |.dY _=>none
 |.fS _ _=>none
 |.enum _=>none
 |.zip _ _=>none
 |.Gz a=>match rn.e bor k a g with
  |!(r,g1)=>match pk (norm r) g1 with
   |some d=>match bF d with
    |some l=>match dw l with
     |some m=>match m with
      |b::bs=>!(.dat (dS (jW kU b bs)),g1)
      | []=>none
     |none=>none
    |none=>none
   |none=>none
  |none=>none
 |.sset a=>match rn.e bor k a g with
  |!(r,g1)=>match pk (norm r) g1 with
   |!(.lst l)=>(match dw l with |some m=>if m.length<1000 then some (.new ((aJ (bL [] m)).map dS),g1)else none |none=>none)
   |_=>none
  |none=>none
 |.join e=>match rn.e bor k e g with
  |!(r,g1)=>match pk (norm r) g1 with
   |!(.lst l)=>match dw l with
    |some m=>if (m.map List.length).sum<=lim then some (.dat (.str (tx m.flatten)),g1)else none
    |none=>none
   |_=>none
  |none=>none
def stepT(e:Ex)(g:G):Option (Bool×G):=match e with
 |.cmp op a b=>match argsR rn bor k [a,b] g with
  |!([r1,r2],g2)=>match pk r1 g2,pk r2 g2 with
   |!d1,!d2=>match dQ op d1 d2 with |some c=>!(c,g2) |none=>none
   |_,_=>none
  |_=>none
 |.chain a ops l=>match gP rn bor k a g with
  |!(d1,g1)=>Ua rn bor k d1 ops l g1
  |none=>none
 |.not a=>match rn.t bor k a g with |!(c,g1)=>!((not c),g1) |none=>none
 |.and l=>uR rn bor k l g
 |.or l=>GF rn bor k l g
 |.ite _ _ _=>none
 |e=>match rn.e bor k e g with
  |!(r,g1)=>match pk (norm r) g1 with
   |some d=>match Kv d with |some c=>!(c,g1) |none=>none
   |none=>none
  |none=>none
def jE(T:Tg)(b:G->Option (Fl×G)):List D->G->Option (Fl×G)
 | [],g=>!(.nx,g)
 |d::l,g=>match T.set d g with
  |none=>none
  |some g0=>match b g0 with
   |none=>none
   |!(.nx,g1)=>jE T b l g1
   |!(.ct,g1)=>jE T b l g1
   |!(.bk,g1)=>!(.nx,g1)
   |!(.rt r,g1)=>!(.rt r,g1)
def Wy(ih:Nat)(e2:Ex)(g:G)(h:Int):Option (~~~0):=match rn.e bor k e2 (g.set ih ‹h›)with
 |!(.new l,_)=>bu l
 |_=>none
def aY(st:Sm)(g:G):Option (Fl×G):=match st with
 |.ret e=>match rn.e bor k e g with |!(r,g1)=>!(.rt r,g1) |none=>none
 |.expr e=>match rn.e bor k e g with |!(_,g1)=>!(.nx,g1) |none=>none
 |.set i e=>if i∈bor then none else match rn.e bor k e g with
  |!(.new l,g1)=>if i<g1.length then some (.nx,g1.set i (.own l))else none
  |!(r,g1)=>match toD bor r g1 with |!(d,g2)=>!(.nx,g2.set i (.dat d)) |none=>none
  |none=>none
 |.setC i e=>if i∈bor then none else match e with
  |.comp n kk T it c e=>match cR rn bor k n kk T it c e g with
   |!(acc,g1)=>if i<g1.length then some (.nx,g1.set i (.own acc))else none
   |none=>none
  |_=>none
 |.item i j e=>match gP rn bor k e g with
  |!(d,g1)=>match g1[i]? with
   |!(.own _)=>match gP rn bor k j g1 with
    |!(.int n,g2)=>match g2[i]? with
     |!(.own l)=>match Ca l.length n with |some m=>!(.nx,g2.set i (.own (l.set m d))) |none=>none
     |_=>none
    |_=>none
   |_=>none
  |none=>none
 |.uQ i j e=>match g[i]? with
  |!(.own _)=>match gP rn bor k j g with
   |!(.int n,g1)=>match g1[i]? with
    |!(.own l1)=>match l1[n.toNat]? with
     |!(.int a)=>match gP rn bor k e g1 with
      |!(.int b,g2)=>match g2[i]? with
       |!(.own l)=>if 0<=n/\Ca l.length n=!n.toNat then some (.nx,g2.set i (.own (l.set n.toNat (.int (a+b)))))else none
       |_=>none
      |_=>none
     |_=>none
    |_=>none
   |_=>none
  |_=>none
 |.ite c a b=>match rn.t bor k c g with
  |!(true,g1)=>rn.b bor k a g1
  |!(false,g1)=>rn.b bor k b g1
  |none=>none
 |.loop T it b=>if T.ix.any (λi=>decide (i∈bor))=true then none else match g7 rn bor k T.Bq it g with
  |!(au,g1)=>jE T (rn.b bor k b) au g1
  |none=>none
 |.raise _ _=>none
 |.ways ip iy rM ih io e1 e2=>match g[ip]?,g[iy]? with
  |!‹c›,some .no=>match g[rM]?,g[ih]?,g[io]? with
   |some .no,some .no,some .no=>if (cP g&&bor.isEmpty)=true then match rn.e bor k e1 g with
     |!(‹n›,_)=>if GK n=true then match LW (Wy rn bor k ih e2 g) n.toNat [(c,0)]with |some m=>!(.rt (.dat (.emp m)),g) |none=>none else none
     |_=>none
    else none
   |_,_,_=>none
  |_,_=>none
 |.stuck=>none
def d7:List Sm->G->Option (Fl×G)
 | [],g=>!(.nx,g)
 |st::rest,g=>match aY rn bor k st g with
  |!(.nx,g1)=>d7 rest g1
  |!(f,g1)=>!(f,g1)
  |none=>none
def xW(it:Ex)(g:G):Option (Nat×G):=if isW it=true then none else rn.x bor k it g
def xArgs:List Ex->G->Option (Nat×G)
 | [],_=>none
 |e::es,g=>match rn.x bor k e g with
  |some r=>!r
  |none=>match rn.e bor k e g with
   |!(_,g1)=>xArgs es g1
   |none=>none
def uS(fx:Fx)(k':Nat)(rs:List R)(g1:G):Option (Nat×G):=
 if rs.length=fx.np/\((vars 0 rs).map (·.2)).Nodup then match cL rs g1 with
  |none=>none
  |some gs=>match rn.xb ((vars 0 rs).map (·.1)) k' fx.body (cO fx.n gs)with
   |!(ci,gc)=>match back (vars 0 rs) gc g1 with |some gO=>!(ci,gO) |none=>none
   |none=>none
 else none
def uT(fns:List Fx)(e:Ex)(g:G):Option (Nat×G):=match e with
 |.call f l=>match xArgs rn bor k l g with
  |some r=>!r
  |none=>match fns[f]?,k with
   |!fx,k'+1=>match argsR rn bor k l g with
    |!(rs,g1)=>uS rn fx k' rs g1
    |none=>none
   |_,_=>none
 |_=>none
def rW(e:Ex)(g:G):Option (Nat×G):=match e with
 |.not a=>rn.xt bor k a g
 |.call f l=>rn.x bor k (.call f l) g
 |_=>none
noncomputable def m9(st:Sm)(g:G):Option (Nat×G):=match st with
 |.ret e=>rn.x bor k e g
 |.expr e=>rn.x bor k e g
 |.ite c a b=>match rn.xt bor k c g with
  |some r=>!r
  |none=>match rn.t bor k c g with
   |!(true,g1)=>rn.xb bor k a g1
   |!(false,g1)=>rn.xb bor k b g1
   |none=>none
 |.raise ci e=>match gP rn bor k e g with |!(_,g1)=>!(ci,g1) |none=>none
 |_=>none
def iH:List Sm->G->Option (Nat×G)
 | [],_=>none
 |st::rest,g=>match m9 rn bor k st g with
  |some r=>!r
  |none=>match aY rn bor k st g with
   |!(.nx,g1)=>iH rest g1
   |_=>none
end
def step(fns:List Fx)(rn:Rn):Rn:=#[λbor k e g=>aX rn bor k fns e g,λbor k e g=>stepT rn bor k e g,λbor k l g=>d7 rn bor k l g,λbor k e g=>uT rn bor k fns e g,λbor k e g=>rW rn bor k e g,λbor k l g=>iH rn bor k l g]
noncomputable def rn0:Rn:=#[λ_ _ _ _=>none,λ_ _ _ _=>none,λ_ _ _ _=>none,λ_ _ _ _=>none,λ_ _ _ _=>none,λ_ _ _ _=>none]
def run(fns:List Fx):Nat->Rn
 | 0=>rn0
 |n+1=>step fns (run fns n)
structure Ct where
 N:List Str
 sc:Scope
 df:Bool
 q:Str
structure Fi where
 name:Str
 qual:Str
 st:Stmt
 N:List Str
 ps:List Str
structure Pg where
 fn:List Fi
 ct:List (Str×D)
 bn:List Str
 cls:List Str:=[]
 lam:Bool:=false
 qg:List Addr:=[]
 kt:Str:=Str.empty
 ups:List (Str×List (Addr×Bool)):=[]
def GL(K:Frag)(mg:Str->Option Value)(n:Str)(bz:Value):Prop:=
 ∃c q,bz=.ref c/\(∀b:Heap,K.In b->PySem.W.CodeHd b c q)/\(q,oH n)∈bO K/\(∀b:Heap,K.In b->b.BuiltinsAt mg q)/\mainGlobals≠q/\∀p∈bO K,p.1=q->p.2=oH n
structure rX(P:Pg)(K:Frag)(mg:Str->Option Value):Prop where
 fn:∀(i:Nat) (fi:Fi),P.fn[i]?=!fi->∃f fd,mg fi.name=!(.ref f)/\JH K fi.name fi.qual fi.st f fd/\bI fi.N fi.ps (aE fi.st)/\L2.Binds K fd fi.ps []/\(fi.name==(~~~3))=false
 ct:∀(x:Str) (d:D),(x,d)∈P.ct->(x==(~~~3))=false/\∃v u,mg x=!u/\RelV v u/\∀M H,Rep K M H d v
 bn:∀x∈P.bn,mg x=none
 cls:∀x∈P.cls,(x==(~~~3))=false/\∃C,mg x=!(.ref C)/\dj K C
 lam:P.lam=true->∀n∈gS,∀bz,PySem.W.codeIn K bz n=true->GL K mg n bz
 qg:∀(i:Nat) (C:Addr),P.qg[i]?=!C->∃x,P.cls[i]?=!x/\mg x=!(.ref C)/\dj K C/\Iw K C
 kt:P.lam=true->(P.kt==(~~~3))=false/\∃D,mg P.kt=!(.ref D)/\dj K D/\∀C∈P.qg,rH K C D=true
 ups:∀(x:Str) (l:List (Addr×Bool)),(x,l)∈P.ups->(x==(~~~3))=false/\∃cv,((mg x=!cv/\∃D,cv=.ref D)\/(x∈P.bn/\x≠ "__name__" /\bootBuiltins x=!cv/\∃n,cv=.type n))/\PySem.W.kitOne K (.type "NoneType") cv=!false/\∀C b,l.lookup C=!b->PySem.W.kitOne K (.ref C) cv=!b
structure bh(P:Pg)(k:Nat)(X:Cx)(c:Ct):Prop where
 N:X.N=c.N
 nd:c.N.Nodup
 lcl:∀x,c.sc.names.lookup x=some .local->X.env.scope.names.lookup x=some .local
 ng:∀x,c.sc.names.lookup x=some .globalImplicit->Gl X x
 fre:∀x,c.sc.names.lookup x=some .cell\/c.sc.names.lookup x=some .free->X.env.scope.names.lookup x=some .cell\/X.env.scope.names.lookup x=some .free
 cel:c.df=true->∀x,c.sc.names.lookup x=some .cell->X.env.scope.names.lookup x=some .cell
 fn:∀x,c.df=true\/c.sc.names.lookup x=some .local->X.fn x=true
 bk:c.df=true->X.env.blockKind=.function
 calm:X.calm=true
 xe:X.xe=λ_ _=>False
 md:rX P X.K X.mg
 room:bK k X.A
 lam:c.q∈gS->P.lam=true->X.env.qual ++ "<lambda>"=oH c.q/\GL X.K X.mg c.q X.env.code
noncomputable def nj(sc:Scope)(x:Str):Bool:=match sc.names.lookup x with |some .local=>true |some .cell=>true |some .free=>true |_=>false
noncomputable def d8(c:Ct)(x:Str):Bool:=match c.sc.names.lookup x with |some .local=>true |some .cell=>c.df |_=>false
noncomputable def bY(x:Str):Bool:=(not ((x==(~~~3))))&&(not ((x==("__classdict__":Str))))
section
theorem bh.vis(h:bh P k X c)(hv:nj c.sc x=true):sW X.env.scope x:=by
 unfold nj at hv;split at hv
 . rename_i e;exact .inl (h.lcl x e)
 . rename_i e;exact (h.fre x (.inl e)).elim (λq=>.inr (.inl q)) λq=>.inr (.inr q)
 . rename_i e;exact (h.fre x (.inr e)).elim (λq=>.inr (.inl q)) λq=>.inr (.inr q)
 . cases hv
theorem bh.nm(h:bh P k X c)(hi:c.N[i]?=!x)(hs:d8 c x=true):wm X x i:=by
 refine#[h.N▸h.nd,by rw[h.N];exact hi,?_,.inl (h.fn x ?_)]
 .
  unfold d8 at hs;split at hs
  . rename_i e;exact .inl (h.lcl x e)
  . rename_i e;exact .inr (h.cel hs x e)
  . cases hs
 .
  unfold d8 at hs;split at hs
  . rename_i e;exact .inr e
  . exact .inl hs
  . cases hs
theorem bZ(h:bY x=true):(x==(~~~3))=false/\(x==("__classdict__":Str))=false:=by unfold bY at h;simp only[gL,AZ]at h;exact h
theorem fT{α:Type}{f:Int->Int->Option α}{a b:D}{r:α}(h:rT f a b=!r):∃i j,a=.int i/\b=.int j/\f i j=!r:=by
 unfold rT at h;split at h
 .
  split at h
  . exact#[_,_,rfl,rfl,h]
  . symm
 . symm
theorem Mj{d1 d2:D}{r:R}(hK:z.K=X.K)(h:T9 d1 d2=!r):lq X z (binaryOp .Add) d1 d2 r:=by
 unfold T9 at h;split at h
 .
  split at h
  . symm;exact xX CV
  . symm;exact Ly
  . symm
 .
  split at h
  .
   split at h
   . rename_i hc;symm;exact Lx hc
   . symm
  . symm
 .
  split at h
  .
   split at h
   . rename_i hc;symm;exact Rv hc
   . symm
  . symm
 .
  split at h
  .
   split at h
   . rename_i hc;symm;exact J9 hK hc
   . symm
  . symm
 . symm
theorem GP:kD X (binaryOp .FloorDiv) (rI (λ_ j=>0<j/\j<18446744073709551616) λi j=>.int (i / j)):=opI λi j _ _ _ _ _ hc q=>by
 have h1:0<j/\j<18446744073709551616:=hc;refine floordiv_int ⋯ (by rw[Int.fdiv_eq_ediv_of_nonneg i ⋯];exact q) (.inl (PyProof.noPylong_of_log2 ?_))
 have h2:j.natAbs.log2<64:=(Nat.log2_lt ⋯).mpr (by show _<18446744073709551616;lia)
 lia
theorem Mk{d1:D}{k:Int}{r:R}(hK:z.K=X.K)(h:Mf d1 k=!r):lq X z (binaryOp .Mult) d1 (.int k) r:=by
 unfold Mf at h;split at h
 .
  split at h
  . rename_i hc;symm;refine qX Qw ?_;unfold Ma at hc;simp only[Cf,gL,t5]at hc;exact hc
  . symm
 .
  split at h
  . rename_i hc;symm;exact Rw hc.1 hc.2.1 hc.2.2
  . symm
 . symm
theorem Ub(hK:z.K=X.K)(h:lA op d1 d2=!r):lq X z (binaryOp op) d1 d2 r:=by
 cases op with
 |Add=>exact Mj hK h
 |Sub=>
  dsimp only[lA,Y0]at h;split at h
  .
   split at h
   . symm;exact xX Qv
   . symm;exact Lz
   . symm
  . symm
 |Mult=>
  dsimp only[lA]at h;split at h
  . exact Mk hK h
  . symm
 |FloorDiv=>
  obtain⟨i,j,rfl,rfl,h'⟩:=fT h;split at h'
  . rename_i hc;cases h';exact qX GP hc
  . cases h'
 |Mod=>
  obtain⟨i,j,rfl,rfl,h'⟩:=fT h;split at h'
  . rename_i hc;cases h';exact qX Qx hc
  . cases h'
 |Pow=>
  obtain⟨i,j,rfl,rfl,h'⟩:=fT h;split at h'
  . rename_i hc;cases h';exact qX qJ #[hc.1,by have:=hc.2.1;lia,hc.2.2]
  . cases h'
 |_=>symm
theorem nk(hK:z.K=X.K)(hr:bK k X.A)(h:dQ op d1 d2=!b):lq X z (compareOp op) d1 d2 (.dat (.bl b)):=by
 have hu:=hr.un;cases op with
 |Eq=>
  dsimp only[dQ]at h;split at h
  . rename_i hc;symm;simp only[jC,gL]at hc;exact X5 hK hc.1.1 hc.1.2 (by have:=hc.2;lia)
  . symm
 |NotEq=>
  dsimp only[dQ]at h;split at h
  . rename_i hc;symm;simp only[jC,gL]at hc;exact X7 hK hc.1.1 hc.1.2 (by have:=hc.2;lia)
  . symm
 |Lt=>obtain⟨i,j,rfl,rfl,h'⟩:=fT h;cases h';exact wj Xp
 |LtE=>obtain⟨i,j,rfl,rfl,h'⟩:=fT h;cases h';exact wj Xq
 |GtE=>
  dsimp only[dQ,geF]at h;split at h
  .
   split at h
   . symm;exact wj Xr
   . symm
  .
   split at h
   . symm;exact T7
   . symm
  . symm
 |In=>
  dsimp only[dQ]at h;split at h
  .
   rename_i hs;split at h
   . rename_i hc;symm;simp only[Br,gL]at hc;exact X8 hK hs hc.1.1 hc.1.2 (by have:=hc.2;lia)
   . symm
  . symm
 |_=>symm
theorem Uc(hK:z.K=X.K)(hr:X.A.units+1<cLine)(h:Cp d1 d2=!d):V9 X z d1 d2 (.dat d):=by
 unfold Cp at h;split at h
 . exact Ry hK h
 . exact Rz hK h
 . exact Ka hK h
 .
  split at h
  . rename_i e;symm;exact TX e
  . symm
 . symm
noncomputable def blV:Bl->Str×Value
 |.len=>("len",.builtin "len")
 |.list=>("list",.type "list")
 |.tuple=>("tuple",.type "tuple")
 |.max=>("max",.builtin "max")
 |.min=>("min",.builtin "min")
 |.str=>("str",.type "str")
 |.all=>("all",.builtin "all")
 |.any=>("any",.builtin "any")
 |.int=>("int",.type "int")
 |.sorted=>("sorted",.builtin "sorted")
 |.sum=>("sum",.builtin "sum")
theorem Ud{b:Bl}{d:D}{r:R}(hK:z.K=X.K)(hc:X.calm=true)(hr:X.A.units+6<cLine)(h:Pn b d=!r):CallD X z (blV b).2 [d] r:=by
 cases b <;> dsimp only[Pn]at h
 case len=>
  split at h
  . rename_i e;symm;exact RC hK e
  .
   unfold Y3 at h;split at h
   .
    split at h
    . rename_i hl;symm;exact LC hl
    . symm
   . symm
 case list=>
  split at h
  . rename_i e;symm;exact Kc hK e
  . symm
 case tuple=>
  split at h
  . rename_i e;symm;exact DK hK e
  . symm
 case max=>
  split at h
  .
   rename_i e1;split at h
   . rename_i e2;symm;exact La hc hK e1 e2
   . symm
  . symm
 case min=>
  split at h
  .
   rename_i e1;split at h
   . rename_i e2;symm;exact K9 hc hK e1 e2
   . symm
  . symm
 case all=>
  split at h
  .
   split at h
   . rename_i e;symm;exact RD hc e
   . symm
  . symm
 case sorted=>
  split at h
  .
   rename_i e1;split at h
   .
    rename_i e2;split at h
    . rename_i e3;symm;exact z9 hK e1 e2 e3
    . symm
   .
    split at h
    .
     rename_i e2;split at h
     . rename_i e3;symm;exact wG hK e1 e2 e3
     . symm
    .
     unfold Pj at h;split at h
     .
      split at h
      .
       rename_i e4;split at h
       . rename_i e5;symm;exact wY e4 e5
       . symm
      . symm
     . symm
  . symm
 case sum=>
  split at h
  .
   rename_i e1;split at h
   . rename_i e2;symm;exact Si hc hK e1 e2
   . symm
  . symm
 all_goals symm
theorem Ue{b:Bl}{ds:List D}{r:R}(hK:z.K=X.K)(hc:X.calm=true)(hr:X.A.units+6<cLine)(h:kW b ds=!r):CallD X z (blV b).2 ds r:=by
 unfold kW at h;split at h
 . exact Ud hK hc hr h
 . symm
noncomputable def rY:List String:=["int", "bool", "str", "tuple", "list", "dict"]
theorem uU{K:Frag}{M:List Addr}{H:Hp}{v:V}{d:D}(p:Pk K M H d v){n:String}(hn:n∈rY):PySem.W.kitOne K (Cb d) (.type n)=!(jD (wk d) n):=by
 cases d with
 |kF C=>
  cases p with
  |of q=>
   cases q with
   |kF k _ _=>refine (k.kit n hn).trans ?_;unfold rY at hn;simp only[dA,nN,A8]at hn;rcases hn with rfl |rfl |rfl |rfl |rfl |rfl <;> first |rfl |decide
 |_=>unfold rY at hn;simp only[dA,nN,A8]at hn;rcases hn with rfl |rfl |rfl |rfl |rfl |rfl <;> first |rfl |decide
theorem qh{K:Frag}{M:List Addr}{H:Hp}{v:V}{d:D}(p:Pk K M H d v):∀{ns:List String},(∀n∈ns,n∈rY)->PySem.W.kitAny K (Cb d) (ns.map Value.type)=!(ns.any (jD (wk d)))
 | [],_=>rfl
 |n::ns,h=>by
  show (match PySem.W.kitOne K (Cb d) (.type n)with |some true=>!true |some false=>PySem.W.kitAny K (Cb d) (ns.map Value.type) |none=>none)=_
  rw[uU p (h n bP),qh p λm hm=>h m (a8 _ hm),List.any_cons]
  cases jD (wk d) n <;> rfl
end
noncomputable def Bt(sc scope:Scope):Bool:=decide (scope.kind=.function)&&scope.names.all λy=>decide (y.2≠.cell)&&(decide (y.2≠.local)||decide (scope.names.lookup y.1=some .local)) &&
 (decide (y.2≠.free)||(decide (scope.names.lookup y.1=some .free)&&(decide (sc.names.lookup y.1=some .cell)||decide (sc.names.lookup y.1=some .free))))
noncomputable def rZ(N N':List Str)(scope:Scope)(k:Nat):Bool:=decide (N'.length=N.length+(k+1))&&(match N'[N.length+k]? with |some x=>decide (scope.names.lookup x=none) |none=>true) &&
 (List.range N.length).all λi=>match N'[i]? with |some x=>decide (scope.names.lookup x=none)||(decide (N[i]?=!x)&&decide (scope.names.lookup x≠some .local)) |none=>true
inductive Bu(c:Ct):List Expr->List Nat->Prop
 |nil:Bu c [] []
 |cons {x:Str}{i:Nat}{pos:Pos}{es:List Expr}{is:List Nat}:c.N[i]?=!x->d8 c x=true->Bu c es is->Bu c (.Name x pos::es) (i::is)
inductive Bv(P:Pg)(c:Ct):List Expr->List String->Prop
 |nil:Bv P c [] []
 |cons {T:Str}{n:String}{pos:Pos}{es:List Expr}{ns:List String}:T∈P.bn->c.sc.names.lookup T=some .globalImplicit->T=Str.ofString n->n∈rY->Bv P c es ns->Bv P c (.Name T pos::es) (n::ns)
inductive Ug(c:Ct):Expr->Tg->Prop
 |nm:c.N[i]?=!x->d8 c x=true->Ug c (.Name x pos) (.nm i)
 |tp:Bu c es is->Ug c (.Tuple es k pos) (.tp is)
noncomputable def Y5(c:Ct)(y:Str)(py pos:Pos)(scope:Scope):Bool:=(c.sc.names.lookup y==some .local)&&py.line==pos.line&&(not ((scope.names.any λ(n,k)=>n==y&&(k==.local||k==.cell))))
inductive wZ(R:Expr->Ex->Prop):List Expr->List Ex->Prop
 |nil:wZ R [] []
 |cons {e:Expr}{es:List Expr}{x:Ex}{xs:List Ex}:R e x->wZ R es xs->wZ R (e::es) (x::xs)
inductive uV(R:Expr->Ex->Prop):List Expr->List (Bool×Ex)->Prop
 |nil:uV R [] []
 |con {y:Str}{j:Nat}{p:Pos}{es:List Expr}{l:List (Bool×Ex)}:uV R es l->uV R (.Constant (.str y) j p::es) ((false,.val (.str y))::l)
 |fmt:R v x->uV R es l->uV R (.FormattedValue v (-1) Option.none p::es) ((true,x)::l)
inductive Ml(R:Expr->Ex->Prop):Option Expr->Option Ex->Prop
 |none:Ml R Option.none Option.none
 |some {e:Expr}{x:Ex}:R e x->Ml R (Option.some e) (Option.some x)
inductive yO(R:Expr->Ex->Prop):List Expr->Option Ex->Prop
 |none:yO R [] Option.none
 |some {e:Expr}{x:Ex}:R e x->yO R [e] (Option.some x)
inductive r9(P:Pg)(R:Expr->Ex->Prop)(c:Ct):Expr->Ex->Prop
 |seq:R e x->r9 P R c e x
 |dY:R a xa->("range":Str)∈P.bn->c.sc.names.lookup ("range":Str)=some .globalImplicit->r9 P R c (.Call (.Name "range" p) [a] [] pos) (.dY xa)
 |fS:R a xa->R b xb->("range":Str)∈P.bn->c.sc.names.lookup ("range":Str)=some .globalImplicit->r9 P R c (.Call (.Name "range" p) [a,b] [] pos) (.fS xa xb)
 |zip:R a xa->R b xb->("zip":Str)∈P.bn->c.sc.names.lookup ("zip":Str)=some .globalImplicit->r9 P R c (.Call (.Name "zip" p) [a,b] [] pos) (.zip xa xb)
 |enum:R a xa->("enumerate":Str)∈P.bn->c.sc.names.lookup ("enumerate":Str)=some .globalImplicit->r9 P R c (.Call (.Name "enumerate" p) [a] [] pos) (.enum xa)
noncomputable def yP(e:Expr):Option Str:=match e with |.Name x _=>!x |_=>none
theorem nq{e:Expr}{x:Str}(h:yP e=!x):∃p,e=.Name x p:=by cases e <;> first | (symm;exact#[_,rfl]) |symm
noncomputable def GQ{α:Type}(l:List α):Option α:=match l with | [a]=>!a |_=>none
theorem lH{α:Type}{l:List α}{a:α}(h:GQ l=!a):l=[a]:=by
 cases l with
 |nil=>symm
 |cons b l=>cases l with
  |nil=>symm;rfl
  |cons _ _=>symm
noncomputable def Y6(s:Stmt):Option (List Expr×Expr):=match s with |.Assign ts e _=>!(ts,e) |_=>none
theorem Mm{s:Stmt}{r:List Expr×Expr}(h:Y6 s=!r):∃p,s=.Assign r.1 r.2 p:=by cases s <;> first | (symm;exact#[_,rfl]) |symm
noncomputable def Y7(e:Expr):Option Const:=match e with |.Constant c _ _=>!c |_=>none
theorem Mp(h:Y7 e=!c):∃j p,e=.Constant c j p:=by cases e <;> first | (symm;exact#[_,_,rfl]) |symm
noncomputable def Y8(c:Const):Option Unit:=match c with |.none=>!() |_=>none
theorem Mq(h:Y8 c=!()):c=.none:=by cases c <;> first |rfl |symm
noncomputable def Y9(s:Stmt):Option Expr:=match s with |.Expr e _=>!e |_=>none
theorem Mr{s:Stmt}{e:Expr}(h:Y9 s=!e):∃p,s=.Expr e p:=by cases s <;> first | (symm;exact#[_,rfl]) |symm
noncomputable def Za(e:Expr):Option (Expr×List Expr×List Keyword):=match e with |.Call f as ks _=>!(f,as,ks) |_=>none
theorem Ms{e:Expr}{r:Expr×List Expr×List Keyword}(h:Za e=!r):∃p,e=.Call r.1 r.2.1 r.2.2 p:=by cases e <;> first | (symm;exact#[_,rfl]) |symm
noncomputable def Zb(s:Stmt):Option (List Stmt×List ExceptHandler×List Stmt×List Stmt):=match s with |.Try b h o f _=>!(b,h,o,f) |_=>none
theorem Mt{s:Stmt}{r:List Stmt×List ExceptHandler×List Stmt×List Stmt}(h:Zb s=!r):∃p,s=.Try r.1 r.2.1 r.2.2.1 r.2.2.2 p:=by cases s <;> first | (symm;exact#[_,rfl]) |symm
noncomputable def GR{α:Type}(l:List α):Option Unit:=match l with | []=>!() |_=>none
theorem lI{α:Type}{l:List α}(h:GR l=!()):l=[]:=by cases l with |nil=>rfl |cons _ _=>symm
noncomputable def Zc(h:ExceptHandler):Option (Expr×Str×List Stmt):=match h with |.ExceptHandler t n b _=>t.bind λt=>n.bind λn=>!(t,n,b)
theorem Mu{h:ExceptHandler}{r:Expr×Str×List Stmt}(e:Zc h=!r):∃p,h=.ExceptHandler (!r.1) (!r.2.1) r.2.2 p:=by
 obtain⟨t,n,b,p⟩:=h;cases t with
 |none=>cases e
 |some t=>cases n with
  |none=>cases e
  |some n=>cases e;exact#[p,rfl]
def yQ(s:Stmt):Option (Str×Expr):=(Y6 s).bind λr=>(GQ r.1).bind λt=>(yP t).bind λx=>!(x,r.2)
theorem uW{s:Stmt}{r:Str×Expr}(h:yQ s=!r):∃p q,s=.Assign [.Name r.1 p] r.2 q:=by unfold yQ at h;simp only[i5]at h;obtain⟨⟨ts,e⟩,h1,t,h2,x,h3,h4⟩:=h;cases h4;obtain⟨p,rfl⟩:=Mm h1;obtain⟨q,rfl⟩:=nq h3;have:=lH h2;subst this;exact#[q,p,rfl]
def Uh(l:List Stmt):Option Str:=(GQ l).bind λs3=>(Y9 s3).bind λce=>(Za ce).bind λf=>(GR f.2.1).bind λ_=>(GR f.2.2).bind λ_=>yP f.1
theorem Mv{l:List Stmt}{y:Str}(h:Uh l=!y):∃py cp ep,l=[.Expr (.Call (.Name y py) [] [] cp) ep]:=by replace h:=i5.1 h;obtain⟨s3,h1,h⟩:=h;cases lH h1;clear h1;replace h:=i5.1 h;obtain⟨ce,h1,h⟩:=h;obtain⟨p,e1⟩:=Mr h1;cases e1;clear h1;replace h:=i5.1 h;obtain⟨⟨f1,f2,f3⟩,h1,h⟩:=h;obtain⟨q,e1⟩:=Ms h1;cases e1;clear h1;replace h:=i5.1 h;obtain⟨_,h1,h⟩:=h;replace h:=i5.1 h;obtain⟨_,h2,h⟩:=h;obtain⟨r,e1⟩:=nq h;exact#[r,q,p,by have a:=lI h1;have b:=lI h2;dsimp only at a b e1 ⊢;rw[a,b,e1]]
def Ui(l:List ExceptHandler):Option (Str×Str×Str×Str):=(GQ l).bind λhh=>(Zc hh).bind λu=>(yP u.1).bind λke=>(GQ u.2.2).bind λs4=>(yQ s4).bind λb=>(yP b.2).bind λWz=>!(ke,u.2.1,b.1,Wz)
theorem Mw{l:List ExceptHandler}{r:Str×Str×Str×Str}(h:Ui l=!r):∃kp uH uG ap hp,l=[.ExceptHandler (!(.Name r.1 kp)) (!r.2.1) [.Assign [.Name r.2.2.1 uH] (.Name r.2.2.2 uG) ap] hp]:=by replace h:=i5.1 h;obtain⟨hh,h1,h⟩:=h;cases lH h1;clear h1;replace h:=i5.1 h;obtain⟨⟨u1,u2,u3⟩,h1,h⟩:=h;obtain⟨p,e1⟩:=Mu h1;cases e1;clear h1;replace h:=i5.1 h;obtain⟨ke,h1,h⟩:=h;obtain⟨q,e1⟩:=nq h1;cases e1;clear h1;replace h:=i5.1 h;obtain⟨s4,h1,h⟩:=h;cases lH h1;clear h1;replace h:=i5.1 h;obtain⟨⟨b1,b2⟩,h1,h⟩:=h;obtain⟨m,n,e1⟩:=uW h1;cases e1;clear h1;replace h:=i5.1 h;obtain⟨en,h1,h⟩:=h;obtain⟨o,e1⟩:=nq h1;cases e1;clear h1;symm;exact#[q,m,o,n,p,rfl]
def Zd(s:Stmt):Option Str:=(yQ s).bind λa=>(Y7 a.2).bind λc=>(Y8 c).bind λ_=>!a.1
theorem Mx(h:Zd s=!x):∃p j np ap,s=.Assign [.Name x p] (.Constant .none j np) ap:=by replace h:=i5.1 h;obtain⟨⟨a1,a2⟩,h1,h⟩:=h;obtain⟨p,q,e1⟩:=uW h1;cases e1;clear h1;replace h:=i5.1 h;obtain⟨c,h1,h⟩:=h;obtain⟨j,m,e1⟩:=Mp h1;cases e1;clear h1;replace h:=i5.1 h;obtain⟨_,h1,h⟩:=h;cases Mq h1;clear h1;symm;exact#[p,j,m,q,rfl]
def Ze(s:Stmt):Option (Str×Str×Str×Str×Str):=(Zb s).bind λt=>(GR t.2.2.1).bind λ_=>(GR t.2.2.2).bind λ_=>(Uh t.1).bind λy=>(Ui t.2.1).bind λu=>!(y,u)
theorem My{s:Stmt}{r:Str×Str×Str×Str×Str}(h:Ze s=!r):∃l hs p,Uh l=!r.1/\Ui hs=!r.2/\s=.Try l hs [] [] p:=by replace h:=i5.1 h;obtain⟨⟨t1,t2,t3,t4⟩,h1,h⟩:=h;obtain⟨p,e1⟩:=Mt h1;cases e1;clear h1;replace h:=i5.1 h;obtain⟨_,h1,h⟩:=h;cases lI h1;clear h1;replace h:=i5.1 h;obtain⟨_,h1,h⟩:=h;cases lI h1;clear h1;replace h:=i5.1 h;obtain⟨y,h1,h⟩:=h;replace h:=i5.1 h;obtain⟨u,h2,h⟩:=h;symm;exact#[t1,t2,p,h1,h2,rfl]
def Uj(l:List Stmt):Option (Str×Str×Str×Str×Str×Str):=match l with
 |s1::s2::_=>(Zd s1).bind λa=>(Ze s2).bind λt=>!(a,t)
 |_=>none
theorem Mz(h:Uj l=!(er,y,ke,en,MF,Wz)):∃Az j np Wo py cM oq kp uH uG dB oz kB rest,l=.Assign [.Name er Az] (.Constant .none j np) Wo::.Try [.Expr (.Call (.Name y py) [] [] cM) oq] [.ExceptHandler (!(.Name ke kp)) (!en) [.Assign [.Name MF uH] (.Name Wz uG) dB] oz] [] [] kB::rest:=by
 unfold Uj at h;split at h
 . replace h:=i5.1 h;obtain⟨a,h1,h⟩:=h;replace h:=i5.1 h;obtain⟨t,h2,h⟩:=h;symm;obtain⟨p,j,np,ap,e1⟩:=Mx h1;obtain⟨l,hs,tp,h3,h4,e2⟩:=My h2;obtain⟨py,cp,ep,e3⟩:=Mv h3;obtain⟨kp,uH,uG,ap',hp,e4⟩:=Mw h4;exact#[p,j,np,ap,py,cp,ep,kp,uH,uG,ap',hp,tp,_,by rw[e1,e2,e3,e4]]
 . symm
def MJ(fi:Fi)(ir:Nat)(kt:Str):Bool:=match Uj (bq fi.st)with
 |!(er,y,ke,en,MF,Wz)=>decide ((ke=kt/\MF=er/\Wz=en/\fi.ps=[y])/\((aE fi.st).names.lookup ke=some .globalImplicit/\fi.N[fi.N.idxOf en]?=!en/\(aE fi.st).names.lookup en=some .local)/\(fi.N[ir]?=!er/\fi.N[0]?=!y)/\(fi.N.idxOf en≠ir/\fi.N.idxOf en≠0/\ir≠0))&&((bY en&&bY y)&&(nj (aE fi.st) y&&d8 #[fi.N,aE fi.st,true,fi.qual] er))
 |none=>false
noncomputable def GX(params:Arguments)(scope:Scope):Bool:=((not scope.isCoroutine)&&(not scope.isGenerator))&&(decide (scope.kind=.function)&&((scope.names.all λy=>decide (y.2≠.cell)&&decide (y.2≠.local))&&((params.posonlyargs.isEmpty&&params.args.isEmpty)&&(params.vararg.isNone&&(params.kwonlyargs.isEmpty&&(params.kw_defaults.isEmpty&&(params.kwarg.isNone&&params.defaults.isEmpty)))))))
theorem yR(h:GX params scope=true):mV params scope:=by obtain⟨a,b,c,d,e,f,g⟩:=params;simp only[GX,gL,AZ,t5,mE,List.isEmpty_iff,Option.isNone_iff_eq_none]at h;obtain⟨h,h1,h2,⟨rfl,rfl⟩,rfl,rfl,rfl,rfl,rfl⟩:=h;exact#[h.1,h.2,h1,λx hx=>(h2 x hx).1,λx hx=>(h2 x hx).2,rfl]
abbrev p0:Pos:=#[0,0,0,0]
inductive w6(RG:List Stmt->Sm->Prop)(RS:Stmt->Sm->Prop):List Stmt->List Sm->Prop
 |nil:w6 RG RS [] []
 |grp {ss rest:List Stmt}{x:Sm}{xs:List Sm}:RG ss x->w6 RG RS rest xs->w6 RG RS (ss++rest) (x::xs)
 |cons {s:Stmt}{ss:List Stmt}{x:Sm}{xs:List Sm}:RS s x->w6 RG RS ss xs->w6 RG RS (s::ss) (x::xs)
noncomputable def xg(k:Scope->Pos->Bool)(e:Expr):Bool:=match e with |.ListComp _ _ s p=>k s p |.DictComp ..=>true |_=>false
theorem ak{a b:Bool}(h:(a&&b)=true):a=true/\b=true:=by cases a <;> cases b <;> first |exact#[rfl,rfl] |symm
theorem dec{p:Prop} [Decidable p] (h:decide p=true):p:=hU h
theorem j9(h:((not b))=true):b=false:=by cases b <;> first |rfl |symm
theorem GZ{α:Type}{l:List α}(h:l.isEmpty=true):l=[]:=by cases l with |nil=>rfl |cons _ _=>symm
theorem two{α:Type}{l:List α}(h:2<=l.length):∃a b m,l=a::b::m:=by
 cases l with
 |nil=>exact absurd h (Nat.not_succ_le_zero 1)
 |cons a l=>cases l with
  |nil=>exact absurd h (Nat.not_succ_le_self 1)
  |cons b m=>exact#[a,b,m,rfl]
noncomputable def WD(c:Ct)(x:Str):Bool:=decide (c.sc.names.lookup x=some .globalImplicit)
def vP(P:Pg)(c:Ct)(x:Str):Bool:=P.bn.contains x&&WD c x
theorem aQ(h:vP P c x=true):x∈P.bn/\c.sc.names.lookup x=some .globalImplicit:=#[Cn.mp (ak h).1,dec (ak h).2]
noncomputable def nm(c:Ct)(i:Nat):Str:=c.N.getD i Str.empty
def oO(c:Ct)(i:Nat):Bool:=decide (c.N[i]?=!(nm c i))&&(nj c.sc (nm c i)&&bY (nm c i))
def stB(c:Ct)(i:Nat):Bool:=decide (c.N[i]?=!(nm c i))&&d8 c (nm c i)
theorem iI(h:oO c i=true):c.N[i]?=!(nm c i)/\nj c.sc (nm c i)=true/\bY (nm c i)=true:=#[dec (ak h).1,(ak (ak h).2).1,(ak (ak h).2).2]
def bang(x:Str):Str:=#[x.cps.push 33]
def Zf(n:Nat):Str:=#[(List.replicate n 33).toArray]
noncomputable def G0(scope:Scope):List Str:=scope.names.filterMap λy=>if y.2==.local then some y.1 else none
def uX(N:List Str)(scope:Scope):List Str:=(N.map λy=>if scope.names.lookup y==some .local then bang y else y)++G0 scope++[Zf (N.length+1)]
noncomputable def xh:List Str->Bool
 | []=>true
 |x::l=>(not (l.contains x))&&xh l
theorem qi:∀{l:List Str},xh l=true->l.Nodup
 | [],_=>AA
 |x::l,h=>by
  refine lL.mpr #[λhm=>?_,qi (ak h).2]
  have:=(ak h).1;rw[Cn.mpr hm]at this;cases this
noncomputable def kids(e:Expr):List Expr:=match e with
 |.BoolOp _ vs _=>vs
 |.BinOp a _ b _=>[a,b]
 |.UnaryOp _ a _=>[a]
 |.Lambda _ b _ _=>[b]
 |.IfExp t a b _=>[t,a,b]
 |.ListComp e gs _ _=>e::gs.flatMap λg=>g.target::g.iter::g.ifs
 |.SetComp e gs _ _=>e::gs.flatMap λg=>g.target::g.iter::g.ifs
 |.DictComp e v gs _ _=>e::v::gs.flatMap λg=>g.target::g.iter::g.ifs
 |.Compare a _ bs _=>a::bs
 |.Call f as ks _=>f::(as++ks.map (·.value))
 |.Dict ks vs _=>ks.filterMap id++vs
 |.FormattedValue v _ _ _=>[v]
 |.JoinedStr vs _=>vs
 |.Attribute v _ _=>[v]
 |.Subscript a b _=>[a,b]
 |.List es _=>es
 |.Tuple es _ _=>es
 |.Slice a b s p=>[a.getD (.Name Str.empty p),b.getD (.Name Str.empty p),s.getD (.Name Str.empty p)]
 |_=>[]
def kid(e:Expr)(i:Nat):Expr:=(kids e).getD i e
noncomputable def oR(e:Expr):Nat:=match e with |.Constant _ k _=>k |.Tuple _ k _=>k |_=>0
noncomputable def gQ(e:Expr):Scope:=match e with |.Lambda _ _ s _=>s |.ListComp _ _ s _=>s |.SetComp _ _ s _=>s |.DictComp _ _ _ s _=>s |_=>aE (.Pass e.pos)
noncomputable def Zg(e:Expr):Arguments:=match e with |.Lambda a _ _ _=>a |_=>default
noncomputable def opT(e:Expr):Operator:=match e with |.BinOp _ o _ _=>o |_=>.Add
def Cq(c:Ct)(t:Expr):Ct:=#[uX c.N (gQ t),gQ t,false,Str.empty]
def Zh(c:Ct)(t:Expr):Ct:=#[c.N,gQ t,false,Str.empty]
noncomputable def uY(P:Pg)(i:Nat):Str:=match P.fn[i]? with |some fi=>fi.name |none=>Str.empty
theorem sf(h:P.fn[i]?.isSome=true):∃fi,P.fn[i]?=!fi/\fi.name=uY P i:=by
 unfold uY;cases e:P.fn[i]? with
 |none=>rw[e]at h;symm
 |some g=>exact#[g,rfl,rfl]
section
variable{R:Expr->Ex->Prop}{s:Ex->Expr->Expr}{f:Ex->Expr->Bool}(hf:∀{x t},f x t=true->R (s x t) x)
include hf
noncomputable def iJ(s:Ex->Expr->Expr)(t:Expr):Nat->List Ex->List Expr
 |_,[]=>[]
 |i,x::xs=>s x (kid t i)::iJ s t (i+1) xs
noncomputable def MK(f:Ex->Expr->Bool)(t:Expr):Nat->List Ex->Bool
 |_,[]=>true
 |i,x::xs=>f x (kid t i)&&MK f t (i+1) xs
theorem cA(h:MK f t i xs=true):wZ R (iJ s t i xs) xs:=by
 induction xs generalizing i with
 |nil=>exact .nil
 |cons x xs ih=>exact .cons (hf (ak h).1) (ih (ak h).2)
noncomputable def Uk(s:Ex->Expr->Expr)(t:Expr)(x:Option Ex):Option Expr:=match x with |some x=>!(s x t) |none=>none
noncomputable def Zi(f:Ex->Expr->Bool)(t:Expr)(x:Option Ex):Bool:=match x with |some x=>f x t |none=>true
theorem G3(h:Zi f t x=true):Ml R (Uk s t x) x:=by
 cases x with
 |none=>exact .none
 |some x=>exact .some (hf h)
noncomputable def Ul(s:Ex->Expr->Expr)(t:Expr)(x:Option Ex):List Expr:=match x with |some x=>[s x t] |none=>[]
theorem Um(h:Zi f t x=true):yO R (Ul s t x) x:=by
 cases x with
 |none=>exact .none
 |some x=>exact .some (hf h)
noncomputable def Uo(x:Ex):Str:=match x with |.val d=>(match d with |.str y=>y |_=>Str.empty) |_=>Str.empty
noncomputable def Zj(x:Ex):Bool:=match x with |.val d=>(match d with |.str _=>true |_=>false) |_=>false
omit hf in
theorem MN(h:Zj x=true):x=.val (.str (Uo x)):=by
 cases x
 case val d=>cases d <;> first |rfl |exact nt h
 all_goals exact nt h
def Up(s:Ex->Expr->Expr)(t:Expr):Nat->List (Bool×Ex)->List Expr
 |_,[]=>[]
 |i,p::l=>(if p.1=true then .FormattedValue (s p.2 (kid (kid t i) 0)) (-1) none (kid t i).pos else .Constant (.str (Uo p.2)) (oR (kid t i)) (kid t i).pos)::Up s t (i+1) l
def okF(f:Ex->Expr->Bool)(t:Expr):Nat->List (Bool×Ex)->Bool
 |_,[]=>true
 |i,p::l=>(if p.1=true then f p.2 (kid (kid t i) 0)else Zj p.2)&&okF f t (i+1) l
theorem Uq(h:okF f t i l=true):uV R (Up s t i l) l:=by
 induction l generalizing i with
 |nil=>exact .nil
 |cons p l ih=>
  obtain⟨b,x⟩:=p;obtain⟨h1,h2⟩:=ak h;cases b with
  |true=>exact .fmt (hf h1) (ih h2)
  |false=>have e:=MN h1;have q:=uV.con (y:=Uo x) (j:=oR (kid t i)) (p:=(kid t i).pos) (ih h2);rw[<- e]at q;exact q
end
noncomputable def MP(s:Ex->Expr->Expr)(x:Ex)(t:Expr):Expr:=match x with
 |.dY a=>.Call (.Name "range" (kid t 0).pos) [s a (kid t 1)] [] t.pos
 |.fS a b=>.Call (.Name "range" (kid t 0).pos) [s a (kid t 1),s b (kid t 2)] [] t.pos
 |.zip a b=>.Call (.Name "zip" (kid t 0).pos) [s a (kid t 1),s b (kid t 2)] [] t.pos
 |.enum a=>.Call (.Name "enumerate" (kid t 0).pos) [s a (kid t 1)] [] t.pos
 |x=>s x t
def okW(P:Pg)(c:Ct)(f:Ex->Expr->Bool)(x:Ex)(t:Expr):Bool:=match x with
 |.dY a=>vP P c "range" && f a (kid t 1)
 |.fS a b=>vP P c "range" && (f a (kid t 1)&&f b (kid t 2))
 |.zip a b=>vP P c "zip" && (f a (kid t 1)&&f b (kid t 2))
 |.enum a=>vP P c "enumerate" && f a (kid t 1)
 |x=>f x t
theorem G4{P:Pg}{R:Expr->Ex->Prop}{s:Ex->Expr->Expr}{f:Ex->Expr->Bool}(hf:∀{x t},f x t=true->R (s x t) x){c:Ct}{x:Ex}{t:Expr}(h:okW P c f x t=true):r9 P R c (MP s x t) x:=by
 cases x
 case dY a=>exact .dY (hf (ak h).2) (aQ (ak h).1).1 (aQ (ak h).1).2
 case fS a b=>exact .fS (hf (ak (ak h).2).1) (hf (ak (ak h).2).2) (aQ (ak h).1).1 (aQ (ak h).1).2
 case zip a b=>exact .zip (hf (ak (ak h).2).1) (hf (ak (ak h).2).2) (aQ (ak h).1).1 (aQ (ak h).1).2
 case enum a=>exact .enum (hf (ak h).2) (aQ (ak h).1).1 (aQ (ak h).1).2
 all_goals exact .seq (hf h)
noncomputable def Ur(t:Expr):Nat->List String->List Expr
 |_,[]=>[]
 |i,n::ns=>.Name (Str.ofString n) (kid t i).pos::Ur t (i+1) ns
def okY(P:Pg)(c:Ct):List String->Bool
 | []=>true
 |n::ns=>(rY.contains n&&vP P c (Str.ofString n))&&okY P c ns
theorem Us(h:okY P c ns=true):Bv P c (Ur t i ns) ns:=by
 induction ns generalizing i with
 |nil=>exact .nil
 |cons n ns ih=>exact .cons (aQ (ak (ak h).1).2).1 (aQ (ak (ak h).1).2).2 rfl (Cn.mp (ak (ak h).1).1) (ih (ak h).2)
noncomputable def Ut(c:Ct)(t:Expr):Nat->List Nat->List Expr
 |_,[]=>[]
 |j,i::is=>.Name (nm c i) (kid t j).pos::Ut c t (j+1) is
def okN(c:Ct):List Nat->Bool
 | []=>true
 |i::is=>stB c i&&okN c is
theorem Uu(h:okN c is=true):Bu c (Ut c t j is) is:=by
 induction is generalizing j with
 |nil=>exact .nil
 |cons i is ih=>exact .cons (dec (ak (ak h).1).1) (ak (ak h).1).2 (ih (ak h).2)
def MT(c:Ct)(T:Tg)(t:Expr):Expr:=match T with
 |.nm i=>.Name (nm c i) t.pos
 |.tp is=>.Tuple (Ut c t 0 is) (oR t) t.pos
theorem G5(h:okN c T.ix=true):Ug c (MT c T t) T:=by
 cases T with
 |nm i=>exact .nm (dec (ak (ak h).1).1) (ak (ak h).1).2
 |tp is=>exact .tp (Uu h)
noncomputable def Uv(a b:D):Bool:=match a with |.int i=>(match b with |.int j=>decide (i=j) |_=>false) |_=>false
theorem M7(h:Uv a b=true):a=b:=by
 cases a with
 |int i=>cases b with
  |int j=>exact congrArg D.int (dec (show decide (i=j)=true from h))
  |_=>exact nt h
 |_=>exact nt h
def ctB(y:Str)(d:D):List (Str×D)->Bool
 | []=>false
 |p::l=>(decide (p.1=y)&&Uv p.2 d)||ctB y d l
theorem Uw(h:ctB y d l=true):(y,d)∈l:=by
 induction l with
 |nil=>symm
 |cons p l ih=>
  obtain⟨x,d'⟩:=p;have hh:((decide (x=y)&&Uv d' d)||ctB y d l)=true:=h
  rcases Cf _ _▸hh with h |h
  . obtain⟨h1,h2⟩:=ak h;obtain rfl:=dec h1;rw[M7 h2];exact bP
  . exact a8 _ (ih h)
noncomputable def cstD(d:D):Const:=match d with |.int i=>.int i |.bl b=>.bool b |.str y=>.str y |_=>.none
noncomputable def cstK(d:D):Bool:=match d with |.int _=>true |.bl _=>true |.str _=>true |.non=>true |_=>false
def xm(d:D)(t:Expr):Expr:=match yP t with |some y=>.Name y t.pos |none=>.Constant (cstD d) (oR t) t.pos
def okV(P:Pg)(c:Ct)(d:D)(t:Expr):Bool:=match yP t with |some y=>WD c y&&ctB y d P.ct |none=>cstK d
def blK(c:Ct)(t:Expr)(k:Nat):Bool:=Bt c.sc (gQ t)&&(rZ c.N (uX c.N (gQ t)) (gQ t) k&&xh (uX c.N (gQ t)))
def ixK(c:Ct)(k:Nat)(T:Tg):Bool:=T.ix.all λi=>decide (c.N.length<=i/\i<c.N.length+k)
theorem Ux(h:ixK c k T=true):∀i∈T.ix,c.N.length<=i/\i<c.N.length+k:=λi hi=>dec (mE.mp h i hi)
def o1(x:Option Ex):Nat:=match x with |some _=>1 |none=>0
def Zm(P:Pg)(i ir:Nat):Bool:=match P.fn[i]? with |some fi=>MJ fi ir P.kt |none=>false
def Pp(e:Expr):Bool:=match e with |.Call f es ks _=>(yP f).isSome&&((not es.isEmpty)&&ks.isEmpty) |.ListComp ..=>true |_=>false
theorem uZ{e:Expr}(h:Pp e=true):(∃x p a es pos,e=.Call (.Name x p) (a::es) [] pos)\/∃a b s p,e=.ListComp a b s p:=by
 cases e
 case Call f es ks pos=>
  obtain⟨h1,h2⟩:=ak (show ((yP f).isSome&&((not es.isEmpty)&&ks.isEmpty))=true from h);obtain⟨x,hx⟩:=Option.isSome_iff_exists.mp h1;obtain⟨p,rfl⟩:=nq hx;cases es with
  |nil=>cases (ak h2).1
  |cons a es=>rw[GZ (ak h2).2];exact .inl #[x,p,a,es,pos,rfl]
 case ListComp a b s p=>exact .inr #[a,b,s,p,rfl]
 all_goals exact nt h
def M8(P:Pg)(s:Ct->Ex->Expr->Expr)(c:Ct)(x:Ex)(t:Expr):Expr:=match x with
 |.val d=>xm d t
 |.slot i=>.Name (nm c i) t.pos
 |.bin op a b=>.BinOp (s c a (kid t 0)) op (s c b (kid t 1)) t.pos
 |.cmp op a b=>.Compare (s c a (kid t 0)) [op] [s c b (kid t 1)] t.pos
 |.chain a ops xs=>.Compare (s c a (kid t 0)) ops (iJ (s c) t 1 xs) t.pos
 |.neg a=>.UnaryOp .USub (s c a (kid t 0)) t.pos
 |.not a=>.UnaryOp .Not (s c a (kid t 0)) t.pos
 |.and xs=>.BoolOp .And (iJ (s c) t 0 xs) t.pos
 |.or xs=>.BoolOp .Or (iJ (s c) t 0 xs) t.pos
 |.ite a b d=>.IfExp (s c a (kid t 0)) (s c b (kid t 1)) (s c d (kid t 2)) t.pos
 |.tup xs=>.Tuple (iJ (s c) t 0 xs) (oR t) t.pos
 |.lst xs=>.List (iJ (s c) t 0 xs) t.pos
 |.ix a b=>.Subscript (s c a (kid t 0)) (s c b (kid t 1)) t.pos
 |.slice a lo hi=>.Subscript (s c a (kid t 0)) (.Slice (Uk (s c) (kid (kid t 1) 0) lo) (Uk (s c) (kid (kid t 1) 1) hi) none (kid t 1).pos) t.pos
 |.call i xs=>.Call (.Name (uY P i) (kid t 0).pos) (iJ (s c) t 1 xs) [] t.pos
 |.blt b xs=>.Call (.Name (blV b).1 (kid t 0).pos) (iJ (s c) t 1 xs) [] t.pos
 |.Cj a n=>.Call (.Name "isinstance" (kid t 0).pos) [s c a (kid t 1),.Name (Str.ofString n) (kid t 2).pos] [] t.pos
 |.Gy a ns=>.Call (.Name "isinstance" (kid t 0).pos) [s c a (kid t 1),.Tuple (Ur (kid t 2) 0 ns) (oR (kid t 2)) (kid t 2).pos] [] t.pos
 |.comp _ _ T it co xe=>.ListComp (s (Cq c t) xe (kid t 0)) [#[MT (Cq c t) T (kid t 1),MP (s c) it (kid t 2),Ul (s (Cq c t)) (kid t 3) co,0]] (gQ t) t.pos
 |.rev a=>.Subscript (s c a (kid t 0)) (.Slice none none (!(m1 (oR (kid (kid (kid t 1) 2) 0)) (kid (kid (kid t 1) 2) 0).pos (kid (kid t 1) 2).pos)) (kid t 1).pos) t.pos
 |.peek xe=>s c xe t
 |.stk=>.BinOp (kid t 0) (opT t) (kid t 1) t.pos
 |.pZ a _=>.Call (.Name "isinstance" (kid t 0).pos) [s c a (kid t 1),.Name ((yP (kid t 2)).getD Str.empty) (kid t 2).pos] [] t.pos
 |.uP i _ _ xb=>.Call (.Name (uY P i) (kid t 0).pos) [.Lambda (Zg (kid t 1)) (s (Zh c (kid t 1)) xb (kid (kid t 1) 0)) (gQ (kid t 1)) (kid t 1).pos] [] t.pos
 |.Gz a=>.Call (.Name "min" (kid t 0).pos) [s c a (kid t 1)] [] t.pos
 |.sset a=>.Call (.Name "sorted" (kid t 0).pos) [.Call (.Name "set" (kid (kid t 1) 0).pos) [s c a (kid (kid t 1) 1)] [] (kid t 1).pos] [] t.pos
 |.join x=>.Call (.Attribute (.Constant (.str Str.empty) (oR (kid (kid t 0) 0)) (kid (kid t 0) 0).pos) "join" (kid t 0).pos) [s c x (kid t 1)] [] t.pos
 |.GC l=>.JoinedStr (Up (s c) t 0 l) t.pos
 |.append i x=>.Call (.Attribute (.Name (nm c i) (kid (kid t 0) 0).pos) "append" (kid t 0).pos) [s c x (kid t 1)] [] t.pos
 |.extend i x=>.Call (.Attribute (.Name (nm c i) (kid (kid t 0) 0).pos) "extend" (kid t 0).pos) [s c x (kid t 1)] [] t.pos
 |_=>t
noncomputable def lnB(t:Expr):Bool:=(kid t 0).pos.endLine==t.pos.line
def ok1(P:Pg)(s:Ct->Ex->Expr->Expr)(f:Ct->Ex->Expr->Bool)(c:Ct)(x:Ex)(t:Expr):Bool:=match x with
 |.val d=>okV P c d t
 |.slot i=>oO c i
 |.bin _ a b=>f c a (kid t 0)&&f c b (kid t 1)
 |.cmp op a b=>f c a (kid t 0)&&(f c b (kid t 1)&&(not (behindInMarks op (s c b (kid t 1)))))
 |.chain a ops xs=>f c a (kid t 0)&&(MK (f c) t 1 xs&&((not (lastMarks ops (iJ (s c) t 1 xs)))&&(decide (2<=ops.length)&&decide (2<=xs.length))))
 |.neg a=>f c a (kid t 0)
 |.not a=>f c a (kid t 0)
 |.and xs=>MK (f c) t 0 xs
 |.or xs=>MK (f c) t 0 xs
 |.ite a b d=>f c a (kid t 0)&&(f c b (kid t 1)&&f c d (kid t 2))
 |.tup xs=>MK (f c) t 0 xs
 |.lst xs=>MK (f c) t 0 xs
 |.ix a b=>f c a (kid t 0)&&f c b (kid t 1)
 |.slice a lo hi=>f c a (kid t 0)&&(Zi (f c) (kid (kid t 1) 0) lo&&Zi (f c) (kid (kid t 1) 1) hi)
 |.call i xs=>P.fn[i]?.isSome&&(WD c (uY P i)&&(MK (f c) t 1 xs&&(not xs.isEmpty)))
 |.blt b xs=>vP P c (blV b).1&&(MK (f c) t 1 xs&&(not xs.isEmpty))
 |.Cj a n=>vP P c "isinstance" && (f c a (kid t 1)&&(rY.contains n&&vP P c (Str.ofString n)))
 |.Gy a ns=>vP P c "isinstance" && (f c a (kid t 1)&&(decide (ns.length<=100)&&okY P c ns))
 |.comp n k T it co xe=>decide (n=c.N.length)&&(blK c t k&&(okN (Cq c t) T.ix&&(ixK c k T&&(okW P c (f c) it (kid t 2)&&(Zi (f (Cq c t)) (kid t 3) co&&f (Cq c t) xe (kid t 0))))))
 |.rev a=>f c a (kid t 0)
 |.peek xe=>Pp (s c xe t)&&f c xe t
 |.stk=>true
 |.pZ a l=>vP P c "isinstance" && (f c a (kid t 1)&&(WD c ((yP (kid t 2)).getD Str.empty)&&decide (((yP (kid t 2)).getD Str.empty,l)∈P.ups)))
 |.uP i ir ca xb=>P.fn[i]?.isSome&&((decide (ca=P.qg)&&WD c (uY P i)||ca.isEmpty)&&((decide (c.q∈gS)&&P.lam)&&(Zm P i ir&&(Bt c.sc (gQ (kid t 1))&&(GX (Zg (kid t 1)) (gQ (kid t 1))&&f (Zh c (kid t 1)) xb (kid (kid t 1) 0))))))
 |.Gz a=>vP P c "min" && f c a (kid t 1)
 |.sset a=>(vP P c "sorted" && vP P c "set")&&f c a (kid (kid t 1) 1)
 |.join x=>lnB t&&f c x (kid t 1)
 |.GC l=>okF (f c) t 0 l
 |.append i x=>lnB t&&(oO c i&&f c x (kid t 1))
 |.extend i x=>lnB t&&(oO c i&&f c x (kid t 1))
 |_=>false
def fj(P:Pg):Nat->Ct->Ex->Expr->Expr
 | 0=>λ_ _ t=>t
 |n+1=>M8 P (fj P n)
def sS(P:Pg):Nat->Ct->Ex->Expr->Bool
 | 0=>λ_ _ _=>false
 |n+1=>ok1 P (fj P n) (sS P n)
def Cm(P:Pg)(c:Ct)(e:Expr)(x:Ex):Prop:=∃n t,e=fj P n c x t/\sS P n c x t=true
theorem Cm.mk{P:Pg}{n:Nat}{c:Ct}{x:Ex}{t:Expr}(h:sS P n c x t=true):Cm P c (fj P n c x t) x:=#[n,t,rfl,h]
theorem Cm.M9(h:Cm P c e x):∃n t,e=M8 P (fj P n) c x t/\ok1 P (fj P n) (sS P n) c x t=true:=by
 obtain⟨n,t,rfl,h⟩:=h;cases n with
 |zero=>symm
 |succ n=>exact#[n,t,rfl,h]
theorem Cm.notW(h:Cm P c e x):isW x=false:=by obtain⟨n,t,_,q⟩:=h.M9;cases x <;> first |rfl |exact Bool.noConfusion (show false=true from q)
abbrev Cr (P:Pg) (c:Ct) (es:List Expr) (xs:List Ex):Prop:=wZ (Cm P c) es xs
abbrev CmF (P:Pg) (c:Ct) (es:List Expr) (l:List (Bool×Ex)):Prop:=uV (Cm P c) es l
abbrev CmO (P:Pg) (c:Ct) (e:Option Expr) (x:Option Ex):Prop:=Ml (Cm P c) e x
abbrev Nc (P:Pg) (c:Ct) (es:List Expr) (x:Option Ex):Prop:=yO (Cm P c) es x
abbrev CmI (P:Pg) (c:Ct) (e:Expr) (x:Ex):Prop:=r9 P (Cm P c) c e x
noncomputable def ek(t:Stmt):List Expr:=match t with
 |.Return o p=>[o.getD (.Name Str.empty p)]
 |.Assign ts e _=>e::ts
 |.AugAssign a _ e _=>[a,e]
 |.For a b _ _ _=>[a,b]
 |.While a _ _ _=>[a]
 |.If a _ _ _=>[a]
 |.Raise o _ p=>[o.getD (.Name Str.empty p)]
 |.Expr e _=>[e]
 |_=>[]
def aI(t:Stmt)(i:Nat):Expr:=(ek t).getD i (.Name Str.empty t.pos)
noncomputable def Pq(t:Stmt):List Stmt:=match t with |.For _ _ b _ _=>b |.While _ b _ _=>b |.If _ b _ _=>b |_=>[]
noncomputable def bd1(t:Stmt):List Stmt:=match t with |.If _ _ b _=>b |_=>[]
noncomputable def sg(l:List Stmt)(i:Nat):Stmt:=l.getD i (.Pass p0)
def WK(ss:List Stmt):Stmt:=sg (Pq (sg ss 1)) 0
def Zn(ss:List Stmt):Stmt:=sg (Pq (WK ss)) 0
def Zo(ss:List Stmt):Stmt:=sg (Pq (Zn ss)) 0
def Jg(ss:List Stmt):Stmt:=sg (Pq (Zo ss)) 0
def wyS(p y st h o:Str)(E1 E2:Expr)(ss:List Stmt):List Stmt:=
 [.Assign [.Name y (aI (sg ss 0) 1).pos] (.Dict [!(.Name p (kid (aI (sg ss 0) 0) 0).pos)] [.Constant (.int 0) (oR (kid (aI (sg ss 0) 0) 1)) (kid (aI (sg ss 0) 0) 1).pos] (aI (sg ss 0) 0).pos) (sg ss 0).pos,
 .For (.Name st (aI (sg ss 1) 0).pos) (.Call (.Name "range" (kid (aI (sg ss 1) 1) 0).pos) [E1] [] (aI (sg ss 1) 1).pos)
  [.For (.Name h (aI (WK ss) 0).pos) (.Call (.Name "list" (kid (aI (WK ss) 1) 0).pos) [.Name y (kid (aI (WK ss) 1) 1).pos] [] (aI (WK ss) 1).pos)
   [.For (.Name o (aI (Zn ss) 0).pos) E2 [uL y o h (kid (aI (Zo ss) 0) 0).pos (kid (aI (Zo ss) 0) 1).pos (aI (Zo ss) 0).pos (kid (aI (Jg ss) 1) 0).pos (kid (aI (Jg ss) 1) 1).pos (aI (Jg ss) 1).pos (kid (kid (aI (Jg ss) 0) 0) 0).pos (kid (kid (aI (Jg ss) 0) 0) 1).pos (kid (aI (Jg ss) 0) 0).pos (kid (aI (Jg ss) 0) 1).pos (aI (Jg ss) 0).pos (Jg ss).pos (Zo ss).pos (oR (kid (aI (Jg ss) 0) 1))] [] (Zn ss).pos] [] (WK ss).pos] [] (sg ss 1).pos,
 .Return (!(.Name y (aI (sg ss 2) 0).pos)) (sg ss 2).pos]
inductive Zq(P:Pg)(R:Expr->Ex->Prop)(RS:Stmt->Sm->Prop)(c:Ct):List Stmt->Sm->Prop
 |ways {p y st h o:Str}{ip iy rM ih io:Nat}{e1 e2:Ex}{E1 E2:Expr}{ss:List Stmt} :
   (c.N[ip]?=!p/\nj c.sc p=true/\bY p=true)->((c.N[iy]?=!y/\nj c.sc y=true/\bY y=true)/\d8 c y=true)->(c.N[rM]?=!st/\d8 c st=true)->((c.N[ih]?=!h/\nj c.sc h=true/\bY h=true)/\d8 c h=true)->((c.N[io]?=!o/\nj c.sc o=true/\bY o=true)/\d8 c o=true)->
   (io≠iy/\ih≠iy/\rM≠iy/\io≠ih)->(("range":Str)∈P.bn/\c.sc.names.lookup ("range":Str)=some .globalImplicit)->(("list":Str)∈P.bn/\c.sc.names.lookup ("list":Str)=some .globalImplicit)->R E1 e1->R E2 e2->Zq P R RS c (wyS p y st h o E1 E2 ss) (.ways ip iy rM ih io e1 e2)
def Uy:Sm->Nat
 |.ways _ _ _ _ _ _ _=>3
 |_=>0
def sr(fg:Sm->List Stmt->List Stmt)(fs:Sm->Stmt->Stmt):List Sm->List Stmt->List Stmt
 | [],_=>[]
 |x::xs,ss=>if 0<Uy x then fg x (ss.take (Uy x))++sr fg fs xs (ss.drop (Uy x))else fs x (sg ss 0)::sr fg fs xs ss.tail
def Ng(fg:Sm->List Stmt->Bool)(fs:Sm->Stmt->Bool):List Sm->List Stmt->Bool
 | [],_=>true
 |x::xs,ss=>if 0<Uy x then fg x (ss.take (Uy x))&&Ng fg fs xs (ss.drop (Uy x))else fs x (sg ss 0)&&Ng fg fs xs ss.tail
theorem Uz(hg:∀{x ss},kg x ss=true->RG (sg' x ss) x)(hs:∀{x t},ks x t=true->RS (ss' x t) x)(h:Ng kg ks xs ss=true):w6 RG RS (sr sg' ss' xs ss) xs:=by
 induction xs generalizing ss with
 |nil=>exact .nil
 |cons x xs ih=>
  unfold Ng at h;unfold sr;by_cases hx:0<Uy x
  .
   rw[tJ hx]at h ⊢
   exact .grp (hg (ak h).1) (ih (ak h).2)
  .
   rw[sK hx]at h ⊢
   exact .cons (hs (ak h).1) (ih (ak h).2)
def WL(P:Pg)(m:Nat)(fs:Sm->Stmt->Stmt)(c:Ct)(x:Sm)(ss:List Stmt):List Stmt:=match x with
 |.ways ip iy rM ih io e1 e2=>wyS (nm c ip) (nm c iy) (nm c rM) (nm c ih) (nm c io) (fj P m c e1 (kid (aI (sg ss 1) 1) 1)) (fj P m c e2 (aI (Zn ss) 1)) ss
 |_=>ss
def WM(P:Pg)(m:Nat)(ks:Sm->Stmt->Bool)(c:Ct)(x:Sm)(ss:List Stmt):Bool:=match x with
 |.ways ip iy rM ih io e1 e2=>decide (io≠iy/\ih≠iy/\rM≠iy/\io≠ih)&&(oO c ip&&((oO c iy&&d8 c (nm c iy))&&(stB c rM&&((oO c ih&&d8 c (nm c ih))&&((oO c io&&d8 c (nm c io))&&((vP P c "range" && vP P c "list")&&(sS P m c e1 (kid (aI (sg ss 1) 1) 1)&&sS P m c e2 (aI (Zn ss) 1))))))))
 |_=>false
theorem UG(hs:∀{x t},ks x t=true->RS (fs x t) x)(h:WM P m ks c x ss=true):Zq P (Cm P c) RS c (WL P m fs c x ss) x:=by
 cases x
 case ways ip iy rM ih io e1 e2=>obtain⟨h1,a1⟩:=ak h;obtain⟨h2,a2⟩:=ak a1;obtain⟨h3,a3⟩:=ak a2;obtain⟨h4,a4⟩:=ak a3;obtain⟨h5,a5⟩:=ak a4;obtain⟨h6,a6⟩:=ak a5;obtain⟨h7,h8⟩:=ak a6;exact .ways (iI h2) #[iI (ak h3).1,(ak h3).2] #[dec (ak h4).1,(ak h4).2] #[iI (ak h5).1,(ak h5).2] #[iI (ak h6).1,(ak h6).2] (dec h1) (aQ (ak h7).1) (aQ (ak h7).2) (.mk (ak h8).1) (.mk (ak h8).2)
 all_goals exact nt h
def Zr(P:Pg)(m:Nat)(fs:Sm->Stmt->Stmt)(c:Ct)(x:Sm)(t:Stmt):Stmt:=match x with
 |.ret x=>.Return (!(fj P (m+1) c x (aI t 0))) t.pos
 |.expr x=>.Expr (fj P (m+1) c x (aI t 0)) t.pos
 |.set i x=>.Assign [.Name (nm c i) (aI t 1).pos] (fj P (m+1) c x (aI t 0)) t.pos
 |.setC i x=>.Assign [.Name (nm c i) (aI t 1).pos] (fj P (m+1) c x (aI t 0)) t.pos
 |.item i xj x=>.Assign [.Subscript (.Name (nm c i) (kid (aI t 1) 0).pos) (fj P (m+1) c xj (kid (aI t 1) 1)) (aI t 1).pos] (fj P (m+1) c x (aI t 0)) t.pos
 |.uQ i xj x=>.AugAssign (.Subscript (.Name (nm c i) (kid (aI t 0) 0).pos) (fj P (m+1) c xj (kid (aI t 0) 1)) (aI t 0).pos) .Add (fj P (m+1) c x (aI t 1)) t.pos
 |.ite e a b=>.If (fj P (m+1) c e (aI t 0)) (sr (WL P m fs c) fs a (Pq t)) (sr (WL P m fs c) fs b (bd1 t)) t.pos
 |.loop T it b=>.For (MT c T (aI t 0)) (MP (fj P (m+1) c) it (aI t 1)) (sr (WL P m fs c) fs b (Pq t)) [] t.pos
 |.raise i x=>.Raise (!(.Call (.Name (P.cls.getD i Str.empty) (kid (aI t 0) 0).pos) [fj P (m+1) c x (kid (aI t 0) 1)] [] (aI t 0).pos)) none t.pos
 |_=>t
def Zt(P:Pg)(m:Nat)(ks:Sm->Stmt->Bool)(c:Ct)(x:Sm)(t:Stmt):Bool:=match x with
 |.ret x=>sS P (m+1) c x (aI t 0)
 |.expr x=>sS P (m+1) c x (aI t 0)&&(not (xg (λ_ _=>true) (fj P (m+1) c x (aI t 0))))
 |.set i x=>stB c i&&(sS P (m+1) c x (aI t 0)&&(not (xg (λs p=>Y5 c (nm c i) (aI t 1).pos p s) (fj P (m+1) c x (aI t 0)))))
 |.setC i x=>decide (c.N[i]?=!(nm c i))&&(Y5 c (nm c i) (aI t 1).pos (aI t 0).pos (gQ (aI t 0))&&(sS P (m+1) c x (aI t 0)&&(match x with
  |.comp _ _ _ _ _ _=>true
  |_=>false)))
 |.item i xj x=>oO c i&&(sS P (m+1) c xj (kid (aI t 1) 1)&&(sS P (m+1) c x (aI t 0)&&(not (xg (λ_ _=>true) (fj P (m+1) c x (aI t 0))))))
 |.uQ i xj x=>oO c i&&(sS P (m+1) c xj (kid (aI t 0) 1)&&sS P (m+1) c x (aI t 1))
 |.ite e a b=>sS P (m+1) c e (aI t 0)&&(Ng (WM P m ks c) ks a (Pq t)&&Ng (WM P m ks c) ks b (bd1 t))
 |.loop T it b=>okN c T.ix&&(okW P c (sS P (m+1) c) it (aI t 1)&&Ng (WM P m ks c) ks b (Pq t))
 |.raise i x=>decide (P.cls[i]?=!(P.cls.getD i Str.empty))&&(WD c (P.cls.getD i Str.empty)&&sS P (m+1) c x (kid (aI t 0) 1))
 |.stuck=>true
 |_=>false
def Pu(P:Pg)(m:Nat):Nat->Ct->Sm->Stmt->Stmt
 | 0=>λ_ _ t=>t
 |n+1=>λc=>Zr P m (Pu P m n c) c
def Pw(P:Pg)(m:Nat):Nat->Ct->Sm->Stmt->Bool
 | 0=>λ_ _ _=>false
 |n+1=>λc=>Zt P m (Pw P m n c) c
def Jh(P:Pg)(c:Ct)(s:Stmt)(x:Sm):Prop:=∃m n t,s=Pu P m n c x t/\Pw P m n c x t=true
abbrev vQ (P:Pg) (c:Ct) (ss:List Stmt) (xs:List Sm):Prop:=w6 (Zq P (Cm P c) (Jh P c) c) (Jh P c) ss xs
theorem Jh.mk{P:Pg}{m n:Nat}{c:Ct}{x:Sm}{t:Stmt}(h:Pw P m n c x t=true):Jh P c (Pu P m n c x t) x:=#[m,n,t,rfl,h]
theorem vQ.mk{P:Pg}{m n:Nat}{c:Ct}{xs:List Sm}{ss:List Stmt}(h:Ng (WM P m (Pw P m n c) c) (Pw P m n c) xs ss=true):vQ P c (sr (WL P m (Pu P m n c) c) (Pu P m n c) xs ss) xs:=Uz (UG .mk) .mk h
theorem noC(h:((not (xg (λ_ _=>true) e)))=true):xg (λ_ _=>true) e=false:=j9 h
theorem Jh.M9(h:Jh P c s x):∃m n t,s=Zr P m (Pu P m n c) c x t/\Zt P m (Pw P m n c) c x t=true:=by
 obtain⟨m,n,t,rfl,h⟩:=h;cases n with
 |zero=>symm
 |succ n=>exact#[m,n,t,rfl,h]
noncomputable def G6(e:Expr):Bool:=match e with
 |.Constant .. |.Name .. |.BinOp .. |.Compare .. |.UnaryOp .. |.BoolOp .. |.IfExp .. |.Tuple .. |.List .. |.Subscript .. |.Call .. |.JoinedStr .. |.ListComp .. |.Dict .. |.DictComp ..=>true
 |_=>false
theorem Cm.G6(h:Cm P c e x):G6 e=true:=by
 obtain⟨n,t,rfl,q⟩:=h.M9;clear h;cases x
 case val d=>show Ev.G6 (xm d t)=true;unfold xm;split <;> rfl
 case peek xe=>rcases uZ (ak q).1 with ⟨x,p,a,es,pos,e⟩ |⟨a,b,s,p,e⟩ <;> (show Ev.G6 (fj P n c xe t)=true;rw[e];rfl)
 all_goals first |rfl |exact Bool.noConfusion (show false=true from q)
section
theorem Cm.star(h:Cm P c e x)(es:List Expr):starEach (e::es) env=(false,eval e env)::starEach es env:=by have hs:=h.G6;cases e <;> first |rfl |exact Bool.noConfusion (show false=true from hs)
theorem wZ.star(h:Cr P c es xs):starEach es env=es.map λe=>(false,eval e env):=by
 induction es generalizing xs with
 |nil=>rfl
 |cons e es ih=>
  cases h with
  |cons h1 h2=>rw[h1.star,ih h2];rfl
theorem wZ.plain(h:Cr P c es xs):(backTo pos (starEach es env)).any (·.1)=false:=by
 rw[h.star];unfold backTo
 induction es generalizing xs with
 |nil=>rfl
 |cons e es ih=>
  cases h with
  |cons h1 h2=>rw[List.map_cons,List.map_cons,List.any_cons,ih h2];rfl
theorem Cm.folded(h:Cm P c e x)(y:Value):foldedSetIterable e env y=pure y:=by have hs:=h.G6;cases e <;> first |rfl |exact Bool.noConfusion (show false=true from hs)
theorem r9.folded(h:CmI P c e x)(y:Value):foldedSetIterable e env y=pure y:=by
 cases h with
 |seq h=>exact h.folded y
 |dY _ _ _=>rfl
 |fS _ _ _ _=>rfl
 |enum _ _ _=>rfl
 |zip _ _ _ _=>rfl
theorem Cm.Nh(h:Cm P c e x):qM e:=by have hs:=h.G6;cases e <;> first |exact λ_ _=>rfl |exact Bool.noConfusion (show false=true from hs)
end
structure jF(P:Pg)(rn:Rn):Prop where
 e:∀{X:Cx}{c:Ct}{z:Z}{k:Nat}{x:Ex}{e:Expr}{g g':G}{r:R},bh P k X c->z.K=X.K->Cm P c e x->rn.e z.bor k x g=!(r,g')->aA X z e g r g'
 t:∀{X:Cx}{c:Ct}{z:Z}{k:Nat}{x:Ex}{e:Expr}{g g':G}{b:Bool},bh P k X c->z.K=X.K->Cm P c e x->rn.t z.bor k x g=!(b,g')->cI X z e g b g'
 b:∀{X:Cx}{c:Ct}{z:Z}{k:Nat}{xs:List Sm}{ig:List Stmt}{g g':G}{f:Fl},bh P k X c->c.df=true->z.K=X.K->vQ P c ig xs->rn.b z.bor k xs g=!(f,g')->eV X z ig g f g'
theorem qj(h:rZ N N' scope k=true):Names N N' scope k:=by
 unfold rZ at h;simp only[gL,t5,mE,w8]at h;obtain⟨⟨h1,h2⟩,h3⟩:=h;refine#[h1,λx e=>?_,λi x e hi=>?_]
 . rw[e]at h2;exact hU h2
 . have h4:=h3 i hi;rw[e]at h4;simp only[Cf,gL,t5]at h4;exact h4
theorem su(ct:bh P k X c)(h:Bt c.sc scope=true):bN X.env.scope scope:=by
 unfold Bt at h;simp only[gL,t5,mE,Cf]at h;obtain⟨h1,h2⟩:=h;refine#[h1,λy hy=>(h2 y hy).1.1,λy hy e=>?_,λy hy e=>?_,λy hy e=>?_]
 . exact ((h2 y hy).1.2).elim (λq=>absurd e q) id
 . exact ((h2 y hy).2).elim (λq=>absurd e q) λq=>q.1
 . exact ((h2 y hy).2).elim (λq=>absurd e q) λq=>ct.fre _ q.2
theorem iK{X:Cx}{N':List Str}{scope:Scope}{b:Bk}{x:Str}:(X.blk N' scope b).env.scope.names.lookup x=(scope.names.lookup x).map λk=>if (k==NameKind.free&&X.env.scope.kind==.function&&X.env.kindOf x==some .cell)then NameKind.cell else k:=cN
theorem bh.blk{P:Pg}{k:Nat}{X:Cx}{c:Ct}{scope:Scope}{N':List Str}(ct:bh P k X c)(hnd:N'.Nodup)(b:Bk):bh P k (X.blk N' scope b) #[N',scope,false,Str.empty]:=by
 refine#[rfl,hnd,λx e=>?_,λx e=>?_,λx e=>?_,λe=>absurd e ⋯,λx e=>?_,λe=>absurd e ⋯,ct.calm,rfl,ct.md,ct.room,λe=>absurd (show Str.empty∈gS from e) ⋯]
 . have e':=e;rw[iK,e'];rfl
 . have e':=e;show (X.blk N' scope b).env.scope.names.lookup x=_;rw[iK,e'];rfl
 .
  rw[iK];rcases e with e |e
  . have e':=e;rw[e'];exact .inl rfl
  .
   have e':=e;rw[e',EK];by_cases hq:(NameKind.free==NameKind.free&&X.env.scope.kind==.function&&X.env.kindOf x==some .cell)=true
   . rw[tJ hq];exact .inl rfl
   . rw[sK hq];exact .inr rfl
 .
  rcases e with e |e
  . cases e
  . have e':=e;show (scope.names.lookup x==some .local)=true;rw[e'];rfl
section
theorem aZ(h:aA X z e g r g'):aA X z e g (norm r) g':=by
 cases r with
 |dat d=>exact h
 |new l=>exact lY h
 |var i=>exact h
theorem G7(h:aA X z e g r g1)(hd:toD z.bor r g1=!(d,g')):aA X z e g (.dat d) g':=by
 cases r with
 |dat d'=>cases hd;exact h
 |new l=>cases hd;exact lY h
 |var i=>
  have hd:(if i∈z.bor then none else match g1[i]? with |!(.own l)=>!(D.lst l,g1.set i (.dat (.lst l))) |_=>none)=!(d,g'):=hd
  split at hd
  . cases hd
  .
   rename_i hb;split at hd
   . rename_i l hg;cases hd;exact zO h hg hb
   . cases hd
theorem aV(hS:jF P rn)(ct:bh P k X c)(hK:z.K=X.K)(hc:Cm P c e x)(h:gP rn z.bor k x g=!(d,g')):aA X z e g (.dat d) g':=by
 unfold gP at h;split at h
 . rename_i r g1 e1;exact G7 (hS.e ct hK hc e1) h
 . symm
theorem nB:∀(ds:List D),tN (ds.map R.dat)=!ds
 | []=>rfl
 |d::ds=>by
  show (match tN (ds.map R.dat)with |some ds=>!(d::ds) |none=>none)=_
  rw[nB ds]
theorem nD(hS:jF P rn)(ct:bh P k X c)(hK:z.K=X.K):∀{es:List Expr}{xs:List Ex}{g g':G}{ds:List D},Cr P c es xs->m8 rn z.bor k xs g=!(ds,g')->cu X z es g (ds.map .dat) g':=by
 intro es xs g g' ds hc h
 induction hc generalizing g ds with
 |nil=>symm;exact dM
 |cons h1 h2 ih=>
  unfold m8 at h
  repeat' split at h
  all_goals try contradiction
  rename_i d g1 e1 _ ds g2 e2;symm;exact dg (aV hS ct hK h1 e1) (ih e2) (h1.star _)
theorem nF(hS:jF P rn)(ct:bh P k X c)(hK:z.K=X.K):∀{es:List Expr}{xs:List Ex}{g g':G}{rs:List R},Cr P c es xs->argsR rn z.bor k xs g=!(rs,g')->cu X z es g rs g':=by
 intro es xs g g' rs hc h
 induction hc generalizing g rs with
 |nil=>symm;exact dM
 |cons h1 h2 ih=>
  unfold argsR at h
  repeat' split at h
  all_goals try contradiction
  rename_i r g1 e1 _ rs g2 e2;symm;have q:=aZ (hS.e ct hK h1 e1);have q2:=ih e2;cases r with
  |dat d=>exact dg q q2 (h1.star _)
  |new l=>exact dg q q2 (h1.star _)
  |var i=>exact Dt q q2 (h1.star _)
theorem gD(h:argsR rn bor k [a,b] g=!(rs,g2)):∃r1 r2 g1,rn.e bor k a g=!(r1,g1)/\rn.e bor k b g1=!(r2,g2)/\rs=[norm r1,norm r2]:=by
 unfold argsR at h;split at h
 .
  rename_i r1 g1 e1;unfold argsR at h;split at h
  .
   rename_i rs' g3 e3;split at e3
   . rename_i r2 g4 e2;cases e3;symm;exact#[r1,r2,g1,e1,e2,rfl]
   . cases e3
  . symm
 . symm
theorem G8(hS:jF P rn)(ct:bh P k X c)(hK:z.K=X.K):∀{bs:List Expr}{xs:List Ex}{ops:List CmpOp}{g g':G}{d1:D}{b:Bool},Cr P c bs xs->Ua rn z.bor k d1 ops xs g=!(b,g')->qY X z d1 ops bs g b g':=by
 intro bs xs ops g g' d1 b hc h
 induction hc generalizing ops g d1 with
 |nil=>unfold Ua at h;split at h <;> first |contradiction |symm
 |cons h1 h2 ih=>
  unfold Ua at h;split at h
  .
   rename_i op x _ e;cases e;cases h2
   repeat' split at h
   all_goals try contradiction
   rename_i d2 g1 e1 _ b e2;symm;exact .last (aV hS ct hK h1 e1) (nk hK ct.room e2)
  .
   rename_i e;cases e;split at h
   .
    rename_i d2 g1 e1;split at h
    .
     rename_i e2;cases h2 with
     |cons h2 h3=>exact .link (aV hS ct hK h1 e1) (nk hK ct.room e2) (ih h)
    .
     rename_i e2;symm;cases h2 with
     |cons h2 h3=>exact .stop (aV hS ct hK h1 e1) (nk hK ct.room e2)
    . symm
   . symm
  . symm
theorem xq(hS:jF P rn)(ct:bh P k X c)(hK:z.K=X.K):∀{es:List Expr}{l:List (Bool×Ex)}{out r:Str}{g g':G},CmF P c es l->Wx rn z.bor k out l g=!(r,g')->ud X z out es g r g'
 |_,_,_,_,_,_,.nil,h=>by symm;exact .nil
 |_,_,_,_,_,_,.con h1,h=>by
  unfold Wx at h;split at h
  . rename_i hl;exact .con hl (xq hS ct hK h1 h)
  . symm
 |_,_,_,_,_,_,.fmt h1 h2,h=>by
  unfold Wx at h;split at h
  .
   rename_i i g1 e1;split at h
   . rename_i hl;exact .int (aV hS ct hK h1 e1) hl.1 hl.2 (xq hS ct hK h2 h)
   . symm
  . symm
variable{pos:Pos}
theorem Ni(hS:jF P rn)(ct:bh P k X c)(hK:z.K=X.K):∀{es:List Expr}{xs:List Ex}{g g':G}{r:R},Cr P c es xs->GD rn z.bor k xs g=!(r,g')->aA X z (.BoolOp .And es pos) g r g':=by
 intro es xs g g' b hc h
 induction hc generalizing g with
 |nil=>symm
 |cons h1 h2 ih=>
  cases h2 with
  |nil=>exact Ds (hS.e ct hK h1 h)
  |cons h2 h3=>
   unfold GD at h;split at h
   . rename_i g1 e1;exact J5 (hS.e ct hK h1 e1) (ih h)
   . rename_i g1 e1;symm;exact J4 (hS.e ct hK h1 e1)
   . symm
theorem UJ(hS:jF P rn)(ct:bh P k X c)(hK:z.K=X.K):∀{es:List Expr}{xs:List Ex}{g g':G}{r:R},Cr P c es xs->Y4 rn z.bor k xs g=!(r,g')->aA X z (.BoolOp .Or es pos) g r g':=by
 intro es xs g g' b hc h
 induction hc generalizing g with
 |nil=>symm
 |cons h1 h2 ih=>
  cases h2 with
  |nil=>exact Ds (hS.e ct hK h1 h)
  |cons h2 h3=>
   unfold Y4 at h;split at h
   . rename_i g1 e1;exact Ri (hS.e ct hK h1 e1) (ih h)
   . rename_i g1 e1;symm;exact Rh (hS.e ct hK h1 e1)
   . symm
theorem G9(hS:jF P rn)(ct:bh P k X c)(hK:z.K=X.K):∀{es:List Expr}{xs:List Ex}{g g':G}{b:Bool},Cr P c es xs->uR rn z.bor k xs g=!(b,g')->lu X z (.BoolOp .And es pos) g b g':=by
 intro es xs g g' b hc h
 induction hc generalizing g with
 |nil=>symm
 |cons h1 h2 ih=>
  cases h2 with
  |nil=>exact J1 (hS.t ct hK h1 h)
  |cons h2 h3=>
   unfold uR at h;split at h
   . rename_i g1 e1;exact J3 (hS.t ct hK h1 e1) (ih h)
   . rename_i g1 e1;symm;exact J2 (hS.t ct hK h1 e1)
   . symm
theorem Nj(hS:jF P rn)(ct:bh P k X c)(hK:z.K=X.K):∀{es:List Expr}{xs:List Ex}{g g':G}{b:Bool},Cr P c es xs->GF rn z.bor k xs g=!(b,g')->lu X z (.BoolOp .Or es pos) g b g':=by
 intro es xs g g' b hc h
 induction hc generalizing g with
 |nil=>symm
 |cons h1 h2 ih=>
  cases h2 with
  |nil=>exact Rc (hS.t ct hK h1 h)
  |cons h2 h3=>
   unfold GF at h;split at h
   . rename_i g1 e1;exact Rg (hS.t ct hK h1 e1) (ih h)
   . rename_i g1 e1;symm;exact Rf (hS.t ct hK h1 e1)
   . symm
theorem u5(hS:jF P rn)(ct:bh P k X c)(hK:z.K=X.K)(hc:CmO P c e x)(h:GJ rn z.bor k x g=!(o,g')):Ef X z e g o g':=by
 cases hc with
 |none=>symm;exact zX
 |@some e' x' hc=>
  have h:(match gP rn z.bor k x' g with |!(.int i,g1)=>!(!i,g1) |_=>none)=!(o,g'):=h
  split at h
  . rename_i e1;symm;exact zY (aV hS ct hK hc e1)
  . symm
theorem yS(ct:bh P k X c)(h:c.sc.names.lookup x=some .globalImplicit):Gl X x:=ct.ng x h
theorem Nk{tp:Bool}{bor:List Nat}{it:Ex}{g:G}(h:isW it=false):g7 rn bor k tp it g=match gP rn bor k it g with |!(.tup l,g1)=>!(l,g1) |!(.lst l,g1)=>!(l,g1) |!(.fix l,g1)=>!(l,g1) |!(.str x,g1)=>!(Wu x,g1) |!(.emp m,g1)=>!(m.map λp=>.int p.1,g1) |_=>none:=by cases it <;> first |rfl |exact Bool.noConfusion (show true=false from h)
theorem Hf(hS:jF P rn)(ct:bh P k X c)(hK:z.K=X.K){Zu tg:Expr}{it:Ex}{g g':G}{au:List D}{tp:Bool}(htp:tp=true->∃es k pos,tg=.Tuple es k pos)(hc:CmI P c Zu it)(h:g7 rn z.bor k tp it g=!(au,g')):eW X z tg Zu g au g':=by
 cases hc with
 |zip ha ha2 hb hg=>
  unfold g7 at h;dsimp only at h;split at h
  .
   rename_i ht;obtain⟨es,k0,pos,rfl⟩:=htp ht
   repeat' split at h
   all_goals try contradiction
   rename_i d1 d2 g1 e1 _ _ l m e2 e3 e4;symm;exact S9 hK (nD hS ct hK (.cons ha (.cons ha2 .nil)) e1) e2 e3 e4 (yS ct hg) (ct.md.bn _ hb) (ha.star _) (by rw[ha2.star];rfl)
  . symm
 |enum ha hb hg=>
  unfold g7 at h;dsimp only at h;split at h
  .
   rename_i ht;obtain⟨es,k0,pos,rfl⟩:=htp ht
   repeat' split at h
   all_goals try contradiction
   rename_i d g1 e1 _ l e2;symm;exact Lb hK (dg (aV hS ct hK ha e1) dM (ha.star _)) e2 (yS ct hg) (ct.md.bn _ hb) (ha.star _)
  . symm
 |dY ha hb hg=>
  unfold g7 at h;dsimp only at h
  repeat' split at h
  all_goals try contradiction
  rename_i j g1 e1 hj;symm;simp only[GK,gL,t5]at hj;exact Km (dg (aV hS ct hK ha e1) dM (ha.star _)) (yS ct hg) (ct.md.bn _ hb) (by rw[ha.star];rfl) hj.1 hj.2
 |fS ha hb' hb hg=>
  unfold g7 at h;dsimp only at h
  repeat' split at h
  all_goals try contradiction
  rename_i c0 g1 e1 _ j g2 e2 hj;symm;simp only[GK,gL,t5]at hj;exact Ko (dg (aV hS ct hK ha e1) (dg (aV hS ct hK hb' e2) dM (hb'.star _)) (ha.star _)) (yS ct hg) (ct.md.bn _ hb) (by rw[ha.star,hb'.star];rfl) (by rw[hb'.star];rfl) #[hj.1.1,hj.1.2,hj.2.1,hj.2.2]
 |seq hc=>
  have h':=(Nk hc.notW).symm.trans h;split at h'
  . rename_i e1;cases h';exact RV hK (aV hS ct hK hc e1)
  . rename_i e1;cases h';exact RW (aV hS ct hK hc e1)
  . rename_i e1;cases h';exact RX hK (aV hS ct hK hc e1)
  . rename_i e1;cases h';exact TF (aV hS ct hK hc e1)
  . rename_i e1;cases h';exact TY (aV hS ct hK hc e1)
  . cases h'
theorem Hg(hS:jF P rn)(ct:bh P k X c)(hK:z.K=X.K)(hc:Nc P c ifs co)(h:Bs rn z.bor k co g=!(b,g')):jm X z ifs g b g':=by
 cases hc with
 |none=>symm;exact Kp
 |some hc=>exact Kq (hS.t ct hK hc h)
theorem Px(h:Ug c tg T):T.Bq=true->∃es k pos,tg=.Tuple es k pos:=by
 cases h with
 |nm _ _=>intro e;cases e
 |tp _=>intro _;exact#[_,_,_,rfl]
theorem UL(ct:bh P k X c)(h:Bu c es is):jl X es is:=by
 induction h with
 |nil=>exact .nil
 |cons h1 h2 _ ih=>exact .cons (ct.nm h1 h2) ih
theorem Py(ct:bh P k X c)(hK:z.K=X.K)(h:Ug c tg T)(hb:∀i∈T.ix,i∉z.bor):tW X z tg T:=by
 cases h with
 |nm h1 h2=>exact Yc (ct.nm h1 h2) (hb _ (fA.mpr rfl))
 |tp h1=>exact Yd ct.calm hK (UL ct h1) hb
theorem xr(hS:jF P rn){Xb:Bk->Cx}{cb:Ct}(Zv:∀b,bh P k (Xb b) cb)(O8:∀b,z.K=(Xb b).K){T:Tg}{last:Nat}{ifs:List Expr}{co:Option Ex}{lO:Expr}{xe:Ex}(hi:Nc P cb ifs co)(he:Cm P cb lO xe) :
  ∀{au:List D}{g gE:G},Mi rn z.bor k T last co xe au g=!gE->mG T last (λg b g'=>∀bk:Bk,jm (Xb bk) z ifs g b g') (λg d g'=>∀bk:Bk,aA (Xb bk) z lO g (.dat d) g') au g gE
 | [],_,_,h=>by symm;exact .nil
 |d::l,_,_,h=>by
  unfold Mi at h;split at h
  . symm
  .
   rename_i g1 e1;split at h
   . symm
   . rename_i g2 e2;exact .skip e1 (λbk=>Hg hS (Zv bk) (O8 bk) hi e2) (xr hS Zv O8 hi he h)
   .
    rename_i g2 e2;split at h
    . symm
    .
     rename_i x g3 e3
     repeat' split at h
     all_goals try contradiction
     rename_i acc e4 hl;exact .take e1 (λbk=>Hg hS (Zv bk) (O8 bk) hi e2) (λbk=>aV hS (Zv bk) (O8 bk) he e3) e4 hl (xr hS Zv O8 hi he h)
end
def g8(P:Pg)(mg:Str->Option Value)(ci:Nat)(C:Addr):Prop:=∃x,P.cls[ci]?=!x/\mg x=!(.ref C)
structure Nm(P:Pg)(k:Nat)(X:Cx)(c:Ct):Prop where
 ct:bh P k X.qG c
 ex:X.ex=[]
 pa:PassesOwn (~~~2) X.A X.env X.xe
structure oU(P:Pg)(rn:Rn):Prop where
 x:∀{X:Cx}{c:Ct}{z:Z}{k:Nat}{x:Ex}{e:Expr}{g g':G}{ci:Nat}{C:Addr},Nm P k X c->z.K=X.K->g8 P X.mg ci C->Cm P c e x->rn.x z.bor k x g=!(ci,g')->Cg X z e g C g'
 t:∀{X:Cx}{c:Ct}{z:Z}{k:Nat}{x:Ex}{e:Expr}{g g':G}{ci:Nat}{C:Addr},Nm P k X c->z.K=X.K->g8 P X.mg ci C->Cm P c e x->rn.xt z.bor k x g=!(ci,g')->Wf X z e g C g'
 b:∀{X:Cx}{c:Ct}{z:Z}{k:Nat}{xs:List Sm}{ig:List Stmt}{g g':G}{ci:Nat}{C:Addr},Nm P k X c->c.df=true->z.K=X.K->g8 P X.mg ci C->vQ P c ig xs->rn.xb z.bor k xs g=!(ci,g')->KC X z ig g C g'
structure Np(P:Pg)(fi:Fi)(fx:Fx):Prop where
 np:fx.np=fi.ps.length
 n:fx.n=fi.N.length
 body:vQ P #[fi.N,aE fi.st,true,fi.qual] (bq fi.st) fx.body
def g9(P:Pg)(fns:List Fx):Prop:=∀(f:Nat) (fi:Fi) (fx:Fx),P.fn[f]?=!fi->fns[f]?=!fx->Np P fi fx
theorem nG{P:Pg}{k:Nat}{prog:Program}{w:World}{K:Frag}{mg:Str->Option Value}{base:Heap}{N ps:List Str}{qual:Str}{scope:Scope}{f:Addr}{bz:Value}{A:Around}{outer:List Env}{s:Shared}{H:Hp}{E:XK}
  (S:bI N ps scope) (md:rX P K mg) (bM:PySem.W.codeIn K bz qual=true) (hr:bK k (A.deeper (envOfC qual scope s⁻¹ f bz))):bh P k (eU v8 prog w K mg base N qual scope f bz A outer s H E).qG #[N,scope,true,qual]:=by
 refine#[rfl,S.nd,λx e=>e,λx e=>e,λx e=>e,λ_ x e=>e,λx _=>rfl,λ_=>?_,rfl,rfl,md,hr,λe h=>#[rfl,md.lam h _ e _ bM]]
 show (if scope.kind.isAnnotationScope then ScopeKind.function else scope.kind)=.function
 rw[S.kind];rfl
section
theorem Hi(hS:jF P rn){k':Nat}(ct:bh P (k'+1) X c)(hK:z.K=X.K){f:Nat}{fi:Fi}{fx:Fx}(Zw:P.fn[f]?=!fi)(sN:Np P fi fx)(hgl:c.sc.names.lookup fi.name=some .globalImplicit){e:Expr}{es:List Expr}{xs:List Ex}{rs:List R}{g g1 gO:G}{r:R}
  (hc:Cr P c (e::es) xs) (ha:cu X z (e::es) g rs g1) (h:dZ rn fx k' rs g1=!(r,gO)):aA X z (.Call (.Name fi.name p) (e::es) [] pos) g r gO:=by
 obtain⟨f,fd,hm,hF,WN,hB,iU⟩:=ct.md.fn _ fi Zw;have F:iu X.prog X.w X.K X.mg X.base v8 (k'+1) f fd fi.ps (O2 X.K fi.N fi.ps.length λbor g r g'=>rn.b bor k' fx.body g=!(.rt r,g')\/(rn.b bor k' fx.body g=!(.nx,g')/\r=.dat .non)):=by
  refine DW hF WN λbz A outer s H E bM hr z' g r g' Wq hrun=>?_
  have ct':bh P k' (eU v8 X.prog X.w X.K X.mg X.base fi.N fi.qual (aE fi.st) f bz A outer s H E).qG #[fi.N,aE fi.st,true,fi.qual]:=nG WN ct.md bM hr;rcases hrun with h |⟨h,rfl⟩
  . exact#[_,hS.b ct' rfl Wq sN.body h,.inl rfl]
  . exact#[_,hS.b ct' rfl Wq sN.body h,.inr #[rfl,rfl]]
 have h1:∃h2:Cr P c es xs.tail,starEach (e::es) X.env=(false,eval e X.env)::starEach es X.env:=by
  cases hc with
  |cons h1 h2=>exact#[h2,h1.star _]
 obtain⟨h2,bT⟩:=h1;unfold dZ at h;split at h
 .
  rename_i hl;split at h
  . symm
  .
   rename_i gs e1;split at h
   .
    rename_i r0 gc e2;split at h
    .
     rename_i gO' e3;split at h
     . rename_i r' e4;symm;exact x9 F hK ct.room (ct.ng _ hgl) hm hF.kp hB ha (by rw[hl.1,sN.np]) e1 hl.2 (.inl (by rw[<- sN.n];exact e2)) e3 e4 iU bT h2.plain
     . symm
    . symm
   .
    rename_i gc e2;split at h
    . rename_i gO' e3;symm;exact x9 F hK ct.room (ct.ng _ hgl) hm hF.kp hB ha (by rw[hl.1,sN.np]) e1 hl.2 (.inr #[by rw[<- sN.n];exact e2,rfl]) e3 rfl iU bT h2.plain
    . symm
   . symm
 . symm
theorem u6(hS:jF P rn)(ct:bh P k X c)(hK:z.K=X.K){tg Zu lO:Expr}{ifs:List Expr}{scope:Scope}{N':List Str}{kk:Nat}{T:Tg}{it xe:Ex}{co:Option Ex}{g g':G}{acc:List D}
  (hnd:N'.Nodup) (hT:Ug #[N',scope,false,Str.empty] tg T) (hTi:∀i∈T.ix,c.N.length<=i/\i<c.N.length+kk) (hi:CmI P c Zu it) (hf:Nc P #[N',scope,false,Str.empty] ifs co) (he:Cm P #[N',scope,false,Str.empty] lO xe)
  (h:cR rn z.bor k c.N.length kk T it co xe g=!(acc,g')) :
  ∃au g1 gE,eW X z tg Zu g au g1/\(∀b:Bk,tW (X.blk N' scope b) z tg T)/\(∀i∈T.ix,g1.length<=i/\i<g1.length+kk)/\
   mG T (g1.length+kk) (λg b g'=>∀bk:Bk,jm (X.blk N' scope bk) z ifs g b g') (λg d g'=>∀bk:Bk,aA (X.blk N' scope bk) z lO g (.dat d) g') au (gC kk g1) gE/\gE[g1.length+kk]?=!(.own acc)/\g'=gE.take g1.length:=by
 unfold cR at h;split at h
 . symm
 .
  rename_i au g1 e1;split at h
  .
   rename_i hl;split at h
   . symm
   .
    rename_i gE e2;split at h
    .
     rename_i acc' e3;symm;obtain⟨hl,hb⟩:=hl;rw[<- hl]at e2 e3 hTi ⊢
     refine#[au,g1,gE,Hf hS ct hK (Px hT) hi e1,λb=>Py (ct.blk hnd b) hK hT λi hi hm=>?_,hTi,xr hS (λb=>ct.blk hnd b) (λb=>hK) hf he e2,e3,rfl]
     rw[List.any_eq_false]at hb;exact hb i hi (w9 hm)
    . symm
  . symm
end
theorem Nq{P:Pg}{c:Ct}{er y ke en MF:Str}{Az np Wo py cM oq kp uH uG dB oz kB:Pos}{j:Nat}{rest:List Stmt}{bd:List Sm}(h:vQ P c (.Assign [.Name er Az] (.Constant .none j np) Wo::FQ y ke en MF py cM oq kp uH uG dB oz kB::rest) bd):vQ P c rest (bd.drop 2):=by
 have nog:∀{s:Stmt}{ss:List Stmt}{x:Sm}{r:List Stmt},Zq P (Cm P c) (Jh P c) c ss x->ss++r=s::rest->(∀a b p,s≠.Assign a b p)->False:=λg e n=>by
  cases g <;> (injection e with e1 e2;exact n _ _ _ e1.symm)
 generalize hq:(Stmt.Assign [.Name er Az] (.Constant .none j np) Wo::FQ y ke en MF py cM oq kp uH uG dB oz kB::rest)=ig at h;cases h with
 |nil=>cases hq
 |grp g _=>cases g <;> (injection hq with e1 e2;injection e1 with e3 e4;cases e4)
 |cons _ h1=>
  injection hq with e1 e2;generalize hq2:(FQ y ke en MF py cM oq kp uH uG dB oz kB::rest)=aL at e2;subst e2;cases h1 with
  |nil=>cases hq2
  |grp g _=>exact (nog g hq2.symm (λa b p e=>nomatch e)).elim
  |cons _ h2=>injection hq2 with e1 e2;subst e2;exact h2
section
variable{X:Cx}{c:Ct}
theorem Hj(ct:bh P k X c)(h:Bv P c es ns):mK X es ns/\∀n∈ns,n∈rY:=by
 induction h with
 |nil=>exact#[.nil,λn hn=>nomatch hn]
 |@cons T n pos es ns h1 h2 h3 h4 _ ih=>
  refine#[.cons ?_ ih.1,λm hm=>(dA.mp hm).elim (λe=>e▸h4) (ih.2 m)]
  subst h3;refine#[ct.ng _ h2,ct.md.bn _ h1,?_,?_,?_] <;> (unfold rY at h4;simp only[dA,nN,A8]at h4;rcases h4 with rfl |rfl |rfl |rfl |rfl |rfl <;> first |rfl |decide)
theorem Hl(h:aA X z e g r g1)(hp:pk r g1=!d)(hs:starEach [e] X.env=(false,eval e X.env)::starEach [] X.env):cu X z [e] g [r] g1:=by
 cases r with
 |dat d=>exact dg h dM hs
 |new l=>cases hp
 |var i=>exact Dt h dM hs
theorem Nr(hS:jF P rn)(hX:oU P rn){fns:List Fx}(hF:g9 P fns){k':Nat}{Y:Cx}(md:rX P Y.K Y.mg)(hr:bK (k'+2) Y.A)(hcm:Y.calm=true)(hKY:z.K=Y.K)(XT:c.N.Nodup)(hN:X.N=c.N){f ir:Nat}{fi:Fi}{l:Lt}{xb:Ex}{g Je g3:G}{r0 r':R}{fx:Fx}{ci:Nat}{C:Addr}{n:Str}
  (h1:P.fn[f]?=!fi) (h5:P.lam=true) (h6:MJ fi ir P.kt=true) (h8:GX l.params l.scope=true) (h9:Cm P #[c.N,l.scope,false,Str.empty] l.body xb)
  (e1:fns[f]?=!fx) (e2:rn.x [] k' xb (g.map noOwn)=!(ci,Je)) (e3:P.qg[ci]?=!C) (e4:rn.b [] k' (fx.body.drop 2) ((List.replicate fx.n .no).set ir (.dat (.kF C)))=!(.rt r0,g3)) (e5:bX [] g3 r0=!r') {fa:Addr}{fd:FuncData} (F:JH Y.K fi.name fi.qual fi.st fa fd) (Sc:bI fi.N fi.ps (aE fi.st)) (bd:L2.Binds Y.K fd fi.ps []):FT Y X z g (oH n) l r' fa:=by
 have sN:=hF f fi fx h1 e1;obtain⟨xC,c1,c2,qC,kC⟩:=md.qg ci C e3;obtain⟨dk,D,mD,qD,hup⟩:=md.kt h5;have L:=yR h8;unfold MJ at h6;split at h6
 .
  rename_i er y ke en MF Wz hv;obtain⟨Az,j,np,Wo,py,cM,oq,kp,uH,uG,dB,oz,kB,rest,bT⟩:=Mz hv;obtain⟨p1,p2⟩:=ak h6;obtain⟨⟨q1,q2,q3,q4⟩,⟨q5,q6,q7⟩,⟨q8,q9⟩,q10,q11,q12⟩:=dec p1;subst q1 q2 q3;obtain⟨p3,p4⟩:=ak p2;have pe:=bZ (ak p3).1;have py':=bZ (ak p3).2;have vy:sW (aE fi.st) y:=by
   have:=(ak p4).1;unfold nj at this;split at this
   . rename_i e;exact .inl e
   . rename_i e;exact .inr (.inl e)
   . rename_i e;exact .inr (.inr e)
   . cases this
  have lr:Loc (aE fi.st) MF:=by
   have:=(ak p4).2;unfold d8 at this;split at this
   . rename_i e;exact .inl e
   . rename_i e;exact .inr e
   . cases this
  have hb:=sN.body;rw[bT]at hb;have hrs:=Nq hb;intro aj σ1 σ0 H1 s1 g1 As A0 M p c' cl pm iQ us Q E I1 S1 hp1 hc1 Cl0 sl0 rv hQ;refine Tp (Je:=Je) hKY hr hcm F bT (q4▸Sc) (q4▸bd)
   #[Sc.nd,q5,mD,dk,qC,qD,hup C (pE e3),kC,q6,q7,pe.1,pe.2,q8,lr,q9,vy,py'.1,py'.2,q10,q11,q12] L (λXf s H xe zl a1 a2 a3 a4 a5 hr hc hp hzK hzb=>?_) (λbz A outer s H E bM hr zf hzK hzb=>?_) e5 I1 S1 hp1 hc1 Cl0 sl0.noOwn (λi l e=>Ay e) rv hQ
  .
   have hci:g8 P (uE Xf X.N (oH n) l.scope p (.ref c') cl s H xe).mg ci C:=#[xC,c1,a4▸c2];refine hX.x (c:=#[c.N,l.scope,false,Str.empty]) #[#[hN,XT,λx e=>e,λx e=>e,λx e=>e,(λe=>nomatch e),λx e=>?_,(λe=>nomatch e),rfl,rfl,?_,hr.deeper _,λe=>absurd (show Str.empty∈gS from e) ⋯],rfl,hp] (hzK.trans a3.symm) hci h9 (by rw[hzb];exact e2)
   .
    rcases e with e |e
    . cases e
    . exact absurd rfl (L.nl _ (L2.mem_of_lookup e))
   . show rX P Xf.K Xf.mg;rw[a3,a4];exact md
  .
   have e4':rn.b zf.bor k' (fx.body.drop 2) ((List.replicate fi.N.length .no).set ir (.dat (.kF C)))=!(.rt r0,g3):=by rw[hzb,<- sN.n];exact e4
   exact hS.b (nG Sc md bM hr) rfl hzK hrs e4'
 . cases h6
theorem Zx(ct:bh P k X c)(h4:c.q∈gS)(h5:P.lam=true):∃q cc,Ti X (oH c.q) q cc:=by obtain⟨hqn,cc,q,hcode,hC,hq,hbi,YC,hu⟩:=ct.lam h4 h5;exact#[q,cc,hq,hu,hcode,hC,hqn,hbi,YC]
theorem Nt(hS:jF P rn)(hX:oU P rn){fns:List Fx}(hF:g9 P fns){k':Nat}(ct:bh P (k'+2) X c)(hK:z.K=X.K){x:Str}{f ir:Nat}{fi:Fi}{params:Arguments}{body:Expr}{scope:Scope}{xb:Ex}{fp Zy pos:Pos}{g Je g3:G}{r0 r':R}{fx:Fx}{ci:Nat}{C:Addr}
  (h1:P.fn[f]?=!fi) (h2:fi.name=x) (h3:c.sc.names.lookup x=some .globalImplicit) (h4:c.q∈gS) (h5:P.lam=true) (h6:MJ fi ir P.kt=true) (h7:Bt c.sc scope=true) (h8:GX params scope=true) (h9:Cm P #[c.N,scope,false,Str.empty] body xb)
  (e1:fns[f]?=!fx) (e2:rn.x [] k' xb (g.map noOwn)=!(ci,Je)) (e3:P.qg[ci]?=!C) (e4:rn.b [] k' (fx.body.drop 2) ((List.replicate fx.n .no).set ir (.dat (.kF C)))=!(.rt r0,g3)) (e5:bX [] g3 r0=!r') :
  aA X z (.Call (.Name x fp) [.Lambda params body scope Zy] [] pos) g r' g:=by
 obtain⟨fa,fd,m1,F,Sc,bd,db⟩:=ct.md.fn f fi h1;obtain⟨q,cc,mk⟩:=Zx ct h4 h5;subst h2;exact Ln (l:=#[params,body,scope,Zy]) hK F (ct.ng _ h3) m1 db mk (su ct h7) (yR h8) (Nr hS hX hF ct.md ct.room ct.calm hK ct.nd ct.N h1 h5 h6 h8 h9 e1 e2 e3 e4 e5 F Sc bd)
def WQ(X:Cx)(z:Z)(e:Expr)(g:G)(o:Option (R×G)):Prop:=∀r g',o=!(r,g')->aA X z e g r g'
theorem WQ.none:WQ X z e g none:=λ_ _ h=>nomatch h
theorem WQ.some{e:Expr}{g g':G}{r:R}(h:aA X z e g r g'):WQ X z e g (!(r,g')):=λ_ _ q=>by cases q;exact h
theorem u9(h:sS P (m+1) c (.comp n' kk T it co xe) t=true):n'=c.N.length/\Bt c.sc (gQ t)=true/\rZ c.N (uX c.N (gQ t)) (gQ t) kk=true/\(uX c.N (gQ t)).Nodup/\Ug (Cq c t) (MT (Cq c t) T (kid t 1)) T/\(∀i∈T.ix,c.N.length<=i/\i<c.N.length+kk)/\CmI P c (MP (fj P m c) it (kid t 2)) it/\Nc P (Cq c t) (Ul (fj P m (Cq c t)) (kid t 3) co) co/\Cm P (Cq c t) (fj P m (Cq c t) xe (kid t 0)) xe:=by obtain⟨h1,a1⟩:=ak h;obtain⟨h2,a2⟩:=ak a1;obtain⟨h3,a3⟩:=ak a2;obtain⟨h4,a4⟩:=ak a3;obtain⟨h5,a5⟩:=ak a4;exact#[dec h1,(ak h2).1,(ak (ak h2).2).1,qi (ak (ak h2).2).2,G5 h3,Ux h4,G4 .mk h5,Um .mk (ak a5).1,.mk (ak a5).2]
theorem UT(ct:bh P k X c)(hK:z.K=X.K)(h:okV P c d t=true):aA X z (xm d t) g (.dat d) g:=by
 unfold okV at h;unfold xm;cases e:yP t with
 |some y=>rw[e]at h;obtain⟨hd,v,u,q1,q2,q3⟩:=ct.md.ct _ _ (Uw (ak h).2);exact J0 (ct.ng _ (dec (ak h).1)) q1 q2 (hK▸q3) hd
 |none=>
  rw[e]at h;cases d with
  |int i=>exact QZ
  |bl i=>exact XZ
  |str i=>exact Q6
  |non=>exact Q5
  |_=>exact nt h
theorem Nu(hS:jF P rn)(hX:oU P rn){fns:List Fx}(hF:g9 P fns)(ct:bh P k X c)(hK:z.K=X.K){e:Expr}{x:Ex}{g:G}(hc:Cm P c e x):WQ X z e g (aX rn z.bor k fns x g):=by
 obtain⟨n,t,rfl,hk⟩:=hc.M9;cases x
 case val d=>exact .some (UT ct hK hk)
 case slot i=>
  have h1:=(iI hk).1;have h2:=(iI hk).2.1;have h3:=(iI hk).2.2;obtain⟨hd,bM⟩:=bZ h3;unfold aX;dsimp only;split
  . rename_i e1;exact .some (Q7 (by rw[ct.N];exact h1) (ct.vis h2) hd bM e1)
  . rename_i e1;exact .some (JZ (by rw[ct.N];exact h1) (ct.vis h2) hd bM e1)
  . exact .none
 case bin op a b=>
  have h1:=(Cm.mk (ak hk).1);have h2:=(Cm.mk (ak hk).2);unfold aX;dsimp only;split
  .
   rename_i r1 r2 g2 e1;obtain⟨s1,s2,g1,q1,q2,q3⟩:=gD e1;cases q3
   repeat' split
   all_goals try exact .none
   rename_i d1 d2 p1 p2 _ r0 e3;exact .some (Q8 (aZ (hS.e ct hK h1 q1)) (aZ (hS.e ct hK h2 q2)) p1 p2 (Ub hK e3))
  . exact .none
 case cmp op a b=>
  have h1:=(Cm.mk (ak hk).1);have h2:=(Cm.mk (ak (ak hk).2).1);have h3:=j9 (ak (ak hk).2).2;unfold aX;dsimp only;split
  .
   rename_i r1 r2 g2 e1;obtain⟨s1,s2,g1,q1,q2,q3⟩:=gD e1;cases q3
   repeat' split
   all_goals try exact .none
   rename_i d1 d2 p1 p2 _ r0 e3;exact .some (Q9 (aZ (hS.e ct hK h1 q1)) (aZ (hS.e ct hK h2 q2)) p1 p2 (nk hK ct.room e3) h3)
  . exact .none
 case chain a ops xs=>
  obtain⟨k1,k2⟩:=ak hk;obtain⟨k3,k4⟩:=ak k2;obtain⟨k5,k6⟩:=ak k4;obtain⟨Se,Sf,ops,rfl⟩:=two (dec (ak k6).1);obtain⟨x1,x2,xs,rfl⟩:=two (dec (ak k6).2);have h1:=Cm.mk k1;have h2:=cA (R:=Cm P c) .mk k3;have h3:=j9 k5;unfold aX;dsimp only
  repeat' split
  all_goals try exact .none
  rename_i d1 g1 e1 _ b g2 e2;exact .some (Ec (aV hS ct hK h1 e1) (G8 hS ct hK h2 e2) h3)
 case neg a=>
  have h1:=Cm.mk hk;unfold aX;dsimp only;split
  . rename_i i g1 e1;exact .some (X4 (aV hS ct hK h1 e1) rfl RB)
  . exact .none
 case not a=>
  have h1:=Cm.mk hk;unfold aX;dsimp only;split
  . rename_i b g1 e1;exact .some (Rj (hS.e ct hK h1 e1))
  . exact .none
 case and xs=>have h1:=cA (R:=Cm P c) .mk hk;exact λ_ _ h=>Ni hS ct hK h1 h
 case or xs=>have h1:=cA (R:=Cm P c) .mk hk;exact λ_ _ h=>UJ hS ct hK h1 h
 case ite a b d=>
  have h1:=(Cm.mk (ak hk).1);have h2:=(Cm.mk (ak (ak hk).2).1);have h3:=(Cm.mk (ak (ak hk).2).2);unfold aX;dsimp only;split
  . rename_i g1 e1;exact λ_ _ h=>Rk (hS.t ct hK h1 e1) (hS.e ct hK h2 h)
  . rename_i g1 e1;exact λ_ _ h=>Rm (hS.t ct hK h1 e1) (hS.e ct hK h3 h)
  . exact .none
 case tup xs=>
  have h1:=cA (R:=Cm P c) .mk hk;unfold aX;dsimp only
  repeat' split
  all_goals try exact .none
  rename_i ds g1 e1 hl;exact .some (Rp (nD hS ct hK h1 e1) (nB _) hl)
 case lst xs=>
  have h1:=cA (R:=Cm P c) .mk hk;unfold aX;dsimp only
  repeat' split
  all_goals try exact .none
  rename_i ds g1 e1 hl;exact .some (Rq (nD hS ct hK h1 e1) (nB _) hl)
 case ix a b=>
  have h1:=(Cm.mk (ak hk).1);have h2:=(Cm.mk (ak hk).2);unfold aX;dsimp only;split
  .
   rename_i r1 r2 g2 e1;obtain⟨s1,s2,g1,q1,q2,q3⟩:=gD e1;cases q3
   repeat' split
   all_goals try exact .none
   rename_i d1 d2 p1 p2 _ r0 e3;exact .some (X3 (aZ (hS.e ct hK h1 q1)) (aZ (hS.e ct hK h2 q2)) p1 p2 (Uc hK (by have:=ct.room.units;lia) e3) h2.Nh)
  . exact .none
 case slice a lo hi=>
  have h1:=(Cm.mk (ak hk).1);have h2:=G3 (R:=Cm P c) .mk (ak (ak hk).2).1;have h3:=G3 (R:=Cm P c) .mk (ak (ak hk).2).2;unfold aX;dsimp only;split
  .
   rename_i r0 g1 e1;have q:=aZ (hS.e ct hK h1 e1);split
   .
    rename_i i g2 e2;have q2:=u5 hS ct hK h2 e2;split
    .
     rename_i j g3 e3;have q3:=u5 hS ct hK h3 e3;split
     . rename_i e5;exact .some (zZ (d:=.non) hK q q2 q3 e5)
     . exact .none
    . exact .none
   . exact .none
  . exact .none
 case call i xs=>
  obtain⟨k1,k2⟩:=ak hk;obtain⟨k3,k4⟩:=ak k2;obtain⟨fi,h1,h2⟩:=sf k1;cases xs with
  |nil=>cases (ak k4).2
  |cons x xs=>
  have h3:=dec k3;have h4:=cA (R:=Cm P c) .mk (ak k4).1;show WQ X z (.Call (.Name (uY P i) (kid t 0).pos) (iJ (fj P n c) t 1 (x::xs)) [] t.pos) g _;rw[<- h2]at h3 ⊢
  unfold aX;dsimp only
  repeat' split
  all_goals try exact .none
  rename_i fx k' ct' sN _ rs g1 e1;exact λ_ _ h=>Hi hS ct hK h1 (hF _ _ _ h1 sN) h3 h4 (nF hS ct hK h4 e1) h
 case blt b xs=>
  cases xs with
  |nil=>cases (ak (ak hk).2).2
  |cons x xs=>
  have h2:=(aQ (ak hk).1).1;have h3:=(aQ (ak hk).1).2;have h4:=cA (R:=Cm P c) .mk (ak (ak hk).2).1;unfold aX;dsimp only
  repeat' split
  all_goals try exact .none
  rename_i rs g1 e1 _ ds e2 _ r0 e3;have ha:=nF hS ct hK h4 e1;have bM:=Ue hK ct.calm (by have:=ct.room.units;lia) e3
  have bT:=(Cm.mk (ak (ak (ak hk).2).1).1).star (env:=X.env) (iJ (fj P n c) t 2 xs);have gI:=(cA .mk (ak (ak (ak hk).2).1).2).plain (env:=X.env) (pos:=t.pos);cases b <;> first |exact .some (tQ ha e2 bM (ct.ng _ h3) (ct.md.bn _ h2) rfl ⋯ ⋯ bT gI) |exact .some (zP ha e2 bM (ct.ng _ h3) (ct.md.bn _ h2) rfl ⋯ ⋯ bT gI)
 case Cj a n'=>
  have h1:=Cm.mk (ak (ak hk).2).1;have h2:=(aQ (ak hk).1).1;have h3:=(aQ (ak hk).1).2;have h4:=(aQ (ak (ak (ak hk).2).2).2).1;have h5:=(aQ (ak (ak (ak hk).2).2).2).2;have h7:=Cn.mp (ak (ak (ak hk).2).2).1;unfold aX;dsimp only
  repeat' split
  all_goals try exact .none
  rename_i r0 g1 e1 _ d e2;obtain⟨t1,_⟩:=Hj ct (Bv.cons (pos:=(kid t 2).pos) h4 h5 rfl h7 .nil);cases t1 with
  |cons t1 _=>exact .some (RJ hK (aZ (hS.e ct hK h1 e1)) e2 (λ_ _ _ p=>uU p h7) (ct.ng _ h3) (ct.md.bn _ h2) rfl t1.gl t1.mg t1.bt t1.nn t1.db (h1.star _))
 case Gy a ns=>
  have h1:=Cm.mk (ak (ak hk).2).1;have h2:=(aQ (ak hk).1).1;have h3:=(aQ (ak hk).1).2;have h4:=dec (ak (ak (ak hk).2).2).1;have h5:=Us (t:=kid t 2) (i:=0) (ak (ak (ak hk).2).2).2;unfold aX;dsimp only
  repeat' split
  all_goals try exact .none
  rename_i r0 g1 e1 _ d e2;obtain⟨t1,t2⟩:=Hj ct h5;exact .some (Ky hK (aZ (hS.e ct hK h1 e1)) e2 t1 ⋯ (λ_ _ _ p=>qh p t2) (ct.ng _ h3) (ct.md.bn _ h2) rfl (h1.star _))
 case rev a=>
  have h1:=Cm.mk hk;unfold aX;dsimp only;split
  .
   rename_i r0 g1 e1;have q:=aZ (hS.e ct hK h1 e1);split
   . rename_i e5;exact .some (Lc hK q e5)
   . exact .none
  . exact .none
 case peek xe=>
  have h1:=Cm.mk (ak hk).2;unfold aX;dsimp only;split
  .
   rename_i hb;have hb:=List.isEmpty_iff.mp hb;split
   .
    rename_i d g1 e1;split
    . rename_i hf;exact .some (Lq hb hf (hS.e ct hK h1 (by rw[hb];exact e1)))
    . exact .none
   .
    rename_i l g1 e1;split
    . rename_i hf;exact .some (Gb hb hf (hS.e ct hK h1 (by rw[hb];exact e1)))
    . exact .none
   . exact .none
  . exact .none
 case stk=>exact .none
 case pZ a l=>
  have h1:=Cm.mk (ak (ak hk).2).1;have h2:=(aQ (ak hk).1).1;have h3:=(aQ (ak hk).1).2;have h4:=dec (ak (ak (ak hk).2).2).2;have h5:=dec (ak (ak (ak hk).2).2).1;unfold aX;dsimp only;obtain⟨db,cv,hcv,hn,hC⟩:=ct.md.ups _ _ h4;have cls:∃w:V,(∀u,RelV w u->u=cv)/\PE X (.Name ((yP (kid t 2)).getD Str.empty) (kid t 2).pos) (tC w):=by
   rcases hcv with ⟨m1,D,rfl⟩ |⟨m1,m2,m3,n,rfl⟩
   . exact#[.ref D,λu r=>r,xK (ct.ng _ h5) m1 rfl db]
   . exact#[.ty n,λu r=>r,qF (ct.ng _ h5) (ct.md.bn _ m1) m3 rfl m2 db]
  obtain⟨w,hw,pw⟩:=cls;split
  .
   rename_i r0 g1 e1;split
   .
    rename_i C e2;split
    . rename_i b e3;exact .some (FZ hK (aZ (hS.e ct hK h1 e1)) e2 (λ_ _ _ _=>hC C b e3) (ct.ng _ h3) (ct.md.bn _ h2) rfl hw pw (h1.star _))
    . exact .none
   . rename_i e2;exact .some (FZ hK (aZ (hS.e ct hK h1 e1)) e2 (λ_ _ _ _=>hn) (ct.ng _ h3) (ct.md.bn _ h2) rfl hw pw (h1.star _))
   . exact .none
  . exact .none
 case uP i ir ca xb=>
  obtain⟨g1,k1⟩:=ak hk;obtain⟨g2,k2⟩:=ak k1;obtain⟨g3,k3⟩:=ak k2;obtain⟨h6,k5⟩:=ak k3;obtain⟨fi,h1,h2⟩:=sf g1;unfold Zm at h6;rw[h1]at h6;have h3:=(Bool.or_eq_true_iff.mp g2).imp (λh=>(#[dec (ak h).1,dec (ak h).2]:_/\_)) GZ
  have h4:=dec (ak g3).1;have h5:=(ak g3).2;have h7:=(ak k5).1;have h8:=(ak (ak k5).2).1;have h9:=Cm.mk (ak (ak k5).2).2;unfold aX;dsimp only
  repeat' split
  all_goals try exact .none
  rename_i fx k' e1 _ ci Je e2 _ C e3 _ r0 g3 e4 _ r' e5;rcases h3 with ⟨rfl,h3⟩ |rfl
  . exact .some (Nt hS hX hF ct hK h1 h2 h3 h4 h5 h6 h7 h8 h9 e1 e2 e3 e4 e5)
  . exact .some (nomatch e3)
 case comp n' kk T it co xe=>
  obtain⟨rfl,h1,h2,h3,h4,h5,h6,h7,h8⟩:=u9 hk;unfold aX;dsimp only;split
  . rename_i acc g1 e1;obtain⟨au,g1,gE,w1,w2,w3,w4,w5,rfl⟩:=u6 hS ct hK h3 h4 h5 h6 h7 h8 e1;exact .some (Kr (su ct h1) ct.calm (by rw[ct.N];exact qj h2) w1 w2 w3 w4 w5 λy=>h6.folded y)
  . exact .none
 case join a=>
  have h1:=(Cm.mk (ak hk).2);unfold aX;dsimp only
  repeat' split
  all_goals try exact .none
  rename_i r0 g1 e1 _ l e2 _ m e3 hl;exact .some (LQ hK (aZ (hS.e ct hK h1 e1)) e2 e3 hl (h1.star _) (ak hk).1)
 case Gz a=>
  have h1:=(Cm.mk (ak hk).2);have h2:=(aQ (ak hk).1).1;have h3:=(aQ (ak hk).1).2;unfold aX;dsimp only
  repeat' split
  all_goals try exact .none
  rename_i r0 g1 e1 _ d e2 _ l e3 _ _ b bs e4;have hp:qW [norm r0] g1=![d]:=by unfold qW;rw[e2];rfl
  exact .some (tQ (Hl (aZ (hS.e ct hK h1 e1)) e2 (h1.star _)) hp (L1 ct.calm hK e3 e4) (ct.ng _ h3) (ct.md.bn _ h2) rfl ⋯ ⋯ (h1.star _) rfl)
 case sset a=>
  have h1:=(Cm.mk (ak hk).2);have h2:=(aQ (ak (ak hk).1).1).1;have h3:=(aQ (ak (ak hk).1).1).2;have h4:=(aQ (ak (ak hk).1).2).1;have h5:=(aQ (ak (ak hk).1).2).2;unfold aX;dsimp only
  repeat' split
  all_goals try exact .none
  rename_i r0 g1 e1 _ l e2 _ m e3 hl;exact .some (Gx ct.calm hK (Hl (aZ (hS.e ct hK h1 e1)) e2 (h1.star _)) e2 e3 hl (ct.ng _ h3) (ct.md.bn _ h2) (ct.ng _ h5) (ct.md.bn _ h4) (h1.star _))
 case GC l=>
  have h1:=Uq (R:=Cm P c) .mk hk;unfold aX;dsimp only;split
  .
   split
   . rename_i e1;exact .some (KY (xq hS ct hK h1 e1))
   . exact .none
  . exact .none
 case append i x=>
  obtain⟨h5,hk⟩:=ak hk;obtain⟨h1,h2,h3⟩:=iI (ak hk).1;have h4:=Cm.mk (ak hk).2;obtain⟨hd,bM⟩:=bZ h3;unfold aX;dsimp only
  repeat' split
  all_goals try exact .none
  rename_i l0 e0 _ d g1 e1 _ l e2 hl;exact .some (zV (by rw[ct.N];exact h1) (ct.vis h2) hd bM e0 (dg (aV hS ct hK h4 e1) dM (h4.star _)) e2 hl rfl h5 (h4.star _))
 case extend i x=>
  obtain⟨h5,hk⟩:=ak hk;obtain⟨h1,h2,h3⟩:=iI (ak hk).1;have h4:=Cm.mk (ak hk).2;obtain⟨hd,bM⟩:=bZ h3;unfold aX;dsimp only
  repeat' split
  all_goals try exact .none
  rename_i l0 e0 _ d g1 e1 _ l e2 hl;exact .some (z8 (by rw[ct.N];exact h1) (ct.vis h2) hd bM e0 (dg (aV hS ct hK h4 e1) dM (h4.star _)) e2 hl rfl h5 (h4.star _))
 all_goals exact Bool.noConfusion (show false=true from hk)
theorem Ho(hS:jF P rn)(hX:oU P rn)(hF:g9 P fns)(ct:bh P k X c)(hK:z.K=X.K)(hc:Cm P c e x)(h:aX rn z.bor k fns x g=!(r,g')):aA X z e g r g':=Nu hS hX hF ct hK hc r g' h
end
section
theorem Hq(hS:jF P rn)(ct:bh P k X c)(hK:z.K=X.K)(hc:Cm P c e x)(h:stepT rn z.bor k x g=!(b,g')):cI X z e g b g':=by
 have plain:(match rn.e z.bor k x g with |!(r,g1)=>(match pk (norm r) g1 with |some d=>(match Kv d with |some c=>!(c,g1) |none=>none) |none=>none) |none=>none)=!(b,g')->
   (∀whole,isTrue e X.env whole=(do let v <- whole;standAt e.pos;holding [v] (truthy v)))->cI X z e g b g':=by
  intro h he
  repeat' split at h
  all_goals try contradiction
  rename_i r g1 e1 _ d e2 _ b' e3;symm;exact Eg hK (aZ (hS.e ct hK hc e1)) e2 e3 he
 obtain⟨n,t,rfl,hk⟩:=hc.M9;cases x
 case cmp op a b=>
  have h1:=Cm.mk (ak hk).1;have h2:=Cm.mk (ak (ak hk).2).1;have h3:=j9 (ak (ak hk).2).2;unfold stepT at h;dsimp only at h;split at h
  .
   rename_i r1 r2 g2 e1;obtain⟨s1,s2,g1,q1,q2,q3⟩:=gD e1;cases q3
   repeat' split at h
   all_goals try contradiction
   rename_i d1 d2 p1 p2 _ r0 e3;symm;exact Ra (aZ (hS.e ct hK h1 q1)) (aZ (hS.e ct hK h2 q2)) p1 p2 (nk hK ct.room e3) h3
  . symm
 case chain a ops xs=>
  obtain⟨k1,k2⟩:=ak hk;obtain⟨k3,k4⟩:=ak k2;obtain⟨k5,k6⟩:=ak k4;obtain⟨Se,Sf,ops,rfl⟩:=two (dec (ak k6).1);obtain⟨x1,x2,xs,rfl⟩:=two (dec (ak k6).2);have h1:=Cm.mk k1;have h2:=cA (R:=Cm P c) .mk k3;have h3:=j9 k5;unfold stepT at h;dsimp only at h;split at h
  . rename_i d1 g1 e1;exact Ed (aV hS ct hK h1 e1) (G8 hS ct hK h2 h) h3
  . symm
 case not a=>
  have h1:=Cm.mk hk;unfold stepT at h;dsimp only at h;split at h
  . rename_i b' g1 e1;symm;exact Rb (hS.t ct hK h1 e1)
  . symm
 case and xs=>exact (G9 hS ct hK (cA .mk hk) h).tr
 case or xs=>exact (Nj hS ct hK (cA .mk hk) h).tr
 case ite a b d=>symm
 case val d=>exact plain h (by rw[show M8 P (fj P n) c (.val d) t=xm d t from rfl];unfold xm;split <;> exact λ_=>rfl)
 case peek xe=>exact plain h (by rcases uZ (ak hk).1 with ⟨x,p,a,es,pos,e⟩ |⟨a,b,s,p,e⟩ <;> (rw[show M8 P (fj P n) c (.peek xe) t=fj P n c xe t from rfl,e];exact λ_=>rfl))
 all_goals first |exact plain h λ_=>rfl |exact Bool.noConfusion (show false=true from hk)
theorem yT(ct:bh P k X c):PassesOwn (~~~2) X.A X.env X.xe:=by rw[ct.xe];exact PassesOwn.never
theorem nI(hb:∀{g g':G}{f:Fl},b g=!(f,g')->eV X z body g f g'):∀{au:List D}{g g':G}{f:Fl},jE T b au g=!(f,g')->dN X z body T au g f g'
 | [],_,_,_,h=>by symm;exact .nil
 |d::l,_,_,_,h=>by
  unfold jE at h;split at h
  . symm
  .
   rename_i g0 e0;split at h
   . symm
   . rename_i g1 e1;exact .next e0 (hb e1) (nI hb h)
   . rename_i g1 e1;exact .cont e0 (hb e1) (nI hb h)
   . rename_i g1 e1;symm;exact .brk e0 (hb e1)
   . rename_i g1 e1;symm;exact .ret e0 (hb e1)
theorem nJ(h:Cm P c e x)(hn:xg (λ_ _=>true) e=false)(t:Option Expr)(l:Nat)(env:Env):swapsWith e t l env=pure false:=by have hs:=h.G6;cases e <;> first |rfl |exact Bool.noConfusion (show true=false from hn) |exact Bool.noConfusion (show false=true from hs)
theorem vd(ct:bh P k X c)(iR:c.df=true)(hl:d8 c y=true):swapsWith (.ListComp a b s p) (!(.Name y py)) l X.env=pure (Y5 c y py p s):=by
 show (pure (X.env.blockKind==.function&&X.env.kindOf y==some .local&&py.line==(Expr.ListComp a b s p).pos.line&&(not ((s.names.any λ(n,k)=>n==y&&(k==.local||k==.cell))))):Sem Bool)=_
 rw[ct.bk iR];have e:(X.env.kindOf y==some .local)=(c.sc.names.lookup y==some .local):=by
  unfold d8 at hl;split at hl
  . rename_i e;rw[e];show (X.env.scope.names.lookup y==_)=_;rw[ct.lcl y e]
  . rename_i e;rw[e];show (X.env.scope.names.lookup y==_)=_;rw[ct.cel iR y e]
  . cases hl
 rw[e];rfl
theorem Bw(ct:bh P k X c)(iR:c.df=true)(hl:d8 c y=true)(h:Cm P c e x)(hn:xg (λs p=>Y5 c y py p s) e=false):swapsWith e (!(.Name y py)) l X.env=pure false:=by have hs:=h.G6;cases e <;> first |rfl |exact Bool.noConfusion (show true=false from hn) |exact Bool.noConfusion (show false=true from hs) | (rw[vd ct iR hl];exact congrArg pure hn)
theorem UW{x:Str}{pn fZ:Pos}{ix:Expr}{xi:Ex}{X:Cx}(h:Cm P c ix xi):∀v,assign (.Subscript (.Name x pn) ix fZ) X.env v=(do
   let ov <- holding [v] (eval (.Name x pn) X.env)
   let iv <- holding [v,ov] (eval ix X.env)
   standAt fZ
   holding [v,ov,iv] (setItem ov iv v)
   release [v,ov,iv] []):=by
 have hs:=h.G6;cases ix <;> first |exact λ_=>rfl |exact Bool.noConfusion (show false=true from hs)
theorem Nv{ix:Expr}{xi:Ex}(h:Cm P c ix xi):∀ov iv new,augStore ix ov iv new=(do holding [new,ov,iv] (setItem ov iv new);release [new,ov,iv] [];pure .next):=by have hs:=h.G6;cases ix <;> first |exact λ_ _ _=>rfl |exact Bool.noConfusion (show false=true from hs)
theorem U0(h:Cm P c e x):swappedStores [.Subscript (.Name y pn) ix fZ] e env=pure none:=by cases e <;> first |rfl |exact Bool.noConfusion (show false=true from hs)
theorem nL(hS:jF P rn)(ct:bh P k X c)(iR:c.df=true)(hK:z.K=X.K)(hc:Jh P c s x)(h:aY rn z.bor k x g=!(f,g')):fD X z s g f g':=by
 obtain⟨mm,n,t,rfl,hk⟩:=hc.M9;cases x
 case ret x=>
  have h1:=Cm.mk hk;unfold aY at h;dsimp only at h;split at h
  . rename_i r g1 e1;symm;exact RP (hS.e ct hK h1 e1)
  . symm
 case expr x=>
  have h1:=Cm.mk (ak hk).1;have h2:=noC (ak hk).2;unfold aY at h;dsimp only at h;split at h
  . rename_i r g1 e1;symm;exact Ke (hS.e ct hK h1 e1) (nJ h1 h2 _ _ _)
  . symm
 case set i x=>
  have h1:=dec (ak (ak hk).1).1;have h2:=(ak (ak hk).1).2;have h3:=Cm.mk (ak (ak hk).2).1;have h4:=j9 (ak (ak hk).2).2;have nm:=ct.nm h1 h2;have hsw:swapsWith (fj P (mm+1) c x (aI t 0)) (!(.Name (Ev.nm c i) (aI t 1).pos)) t.pos.line X.env=pure false:=Bw ct iR h2 h3 h4;unfold aY at h;dsimp only at h;split at h
  . symm
  .
   rename_i hb;split at h
   .
    rename_i l g1 e1;split at h
    . rename_i hl;symm;exact Kg nm.nd nm.ix nm.lc (hS.e ct hK h3 e1) hl hsw nm.fn hb
    . symm
   .
    rename_i r g1 _ e1;split at h
    . rename_i d g2 e2;symm;exact Kf nm.nd nm.ix nm.lc (G7 (hS.e ct hK h3 e1) e2) hsw nm.fn hb
    . symm
   . symm
 case setC i x=>
  obtain⟨g1,g2⟩:=ak hk;obtain⟨h2,g4⟩:=ak g2;obtain⟨h3,g6⟩:=ak g4;have h1:=dec g1;cases x
  case comp n' kk T it co xe=>
   have hl:c.sc.names.lookup (Ev.nm c i)=some .local:=by unfold Y5 at h2;simp only[gL]at h2;exact eq_of_beq h2.1.1
   have bT:d8 c (Ev.nm c i)=true:=by unfold d8;rw[hl]
   have nm:=ct.nm h1 bT;unfold aY at h;dsimp only at h;split at h
   . symm
   .
    rename_i hb
    repeat' split at h
    all_goals try contradiction
    rename_i acc g1 e1 hi;symm;obtain⟨rfl,k1,k2,k3,k4,k5,k6,k7,k8⟩:=u9 h3
    . obtain⟨au,g1,gE,w1,w2,w3,w4,w5,rfl⟩:=u6 hS ct hK k3 k4 k5 k6 k7 k8 e1;exact Ks (su ct k1) ct.calm (by rw[ct.N];exact qj k2) w1 w2 w3 w4 w5 nm.nd nm.ix (ct.lcl _ hl) hb hi (by rw[vd ct iR bT,h2]) λww=>k6.folded ww
  all_goals exact Bool.noConfusion (show false=true from g6)
 case item i xj x=>
  have h1:=(iI (ak hk).1).1;have h2:=(iI (ak hk).1).2.1;have h3:=(iI (ak hk).1).2.2;have h4:=Cm.mk (ak (ak hk).2).1;have h5:=Cm.mk (ak (ak (ak hk).2).2).1;have h6:=noC (ak (ak (ak hk).2).2).2;obtain⟨hd,bM⟩:=bZ h3;unfold aY at h;dsimp only at h
  repeat' split at h
  all_goals try contradiction
  rename_i d g1 e1 _ l0 e2 _ n g2 e3 _ l e4 _ m e5;symm;have hsw:=nJ h5 h6 (!(.Subscript (.Name (Ev.nm c i) (kid (aI t 1) 0).pos) (fj P (mm+1) c xj (kid (aI t 1) 1)) (aI t 1).pos)) t.pos.line X.env;have bT:swappedStores [.Subscript (.Name (Ev.nm c i) (kid (aI t 1) 0).pos) (fj P (mm+1) c xj (kid (aI t 1) 1)) (aI t 1).pos] (fj P (mm+1) c x (aI t 0)) X.env=pure none:=U0 h5;exact Kh (by rw[ct.N];exact h1) (ct.vis h2) hd bM (aV hS ct hK h5 e1) e2 (aV hS ct hK h4 e3) e4 e5 (UW h4) hsw bT rfl
 case uQ i xj x=>
  have h1:=(iI (ak hk).1).1;have h2:=(iI (ak hk).1).2.1;have h3:=(iI (ak hk).1).2.2;have h4:=Cm.mk (ak (ak hk).2).1;have h5:=Cm.mk (ak (ak hk).2).2;obtain⟨hd,bM⟩:=bZ h3;unfold aY at h;dsimp only at h
  repeat' split at h
  all_goals try contradiction
  rename_i l0 e0 _ n g1 e1 _ l1 e2 _ a e3 _ b g2 e4 _ l e5 hn;symm;obtain⟨m,rfl⟩:∃m:Nat,n=m:=#[n.toNat,by have:=hn.1;lia]
  exact Ge (by rw[ct.N];exact h1) (ct.vis h2) hd bM e0 (aV hS ct hK h4 e1) e2 e3 (aV hS ct hK h5 e4) e5 hn.2 (Nv h4)
 case ite e a b=>
  have h1:=Cm.mk (ak hk).1;have h2:=vQ.mk (ak (ak hk).2).1;have h3:=vQ.mk (ak (ak hk).2).2;unfold aY at h;dsimp only at h;split at h
  . rename_i g1 e1;exact O1 (hS.t ct hK h1 e1) (by rw[tJ rfl];exact hS.b ct iR hK h2 h)
  . rename_i g1 e1;exact O1 (hS.t ct hK h1 e1) (by rw[sK BB];exact hS.b ct iR hK h3 h)
  . symm
 case loop T it b=>
  have h1:=G5 (t:=aI t 0) (ak hk).1;have h2:=G4 (R:=Cm P c) .mk (ak (ak hk).2).1;have h3:=vQ.mk (ak (ak hk).2).2;unfold aY at h;dsimp only at h;split at h
  . symm
  .
   rename_i hb;split at h
   . rename_i au g1 e1;exact RZ (yT ct) ct.calm (Hf hS ct hK (Px h1) h2 e1) (Py ct hK h1 λi hi hm=>hb (by rw[List.any_eq_true];exact#[i,hi,w9 hm])) (nI (λe=>hS.b ct iR hK h3 e) h) λy=>h2.folded y
   . symm
 case raise i x=>symm
 case stuck=>symm
 all_goals exact Bool.noConfusion (show false=true from hk)
theorem xu(hS:jF P rn)(ct:bh P k X c)(iR:c.df=true)(hK:z.K=X.K)(h:Zq P (Cm P c) (Jh P c) c ss x)(e:aY rn z.bor k x g=!(f,g')):mW X z ss g f g':=by
 cases h with
 |@ways p y st h o ip iy rM ih io e1 e2 E1 E2 ss h1 h2 h3 h4 h5 h6 h7 h8 q1 q2=>
  unfold aY at e;dsimp only at e;split at e
  .
   rename_i n gp gy;split at e
   .
    rename_i gs gh go;split at e
    .
     rename_i hn;split at e
     .
      rename_i j g1 r1;split at e
      .
       rename_i hj;split at e
       .
        rename_i m hm;cases e;obtain⟨n1,n2⟩:=ak hn;simp only[GK,gL,t5]at hj;have vr:∀{i:Nat}{x:Str},(c.N[i]?=!x/\nj c.sc x=true/\bY x=true)->Vr X x i:=λq=>#[by rw[ct.N];exact q.1,ct.vis q.2.1,(bZ q.2.2).1,(bZ q.2.2).2]
        have ev2:∀{a:Int}{ns: ~~~0},Wy rn z.bor k ih e2 g a=!ns->∃l g',aA X z E2 (g.set ih ‹a›) (.new l) g'/\bu l=!ns:=by
         intro a ns w;unfold Wy at w;split at w
         . rename_i l g2 r2;exact#[l,g2,hS.e ct hK q2 r2,w]
         . cases w
        exact Gj #[n1,List.isEmpty_iff.mp n2,yT ct,ct.calm,vr h2.1,vr h5.1,vr h4.1,ct.nm h5.1.1 h5.2,ct.nm h4.1.1 h4.2,ct.nm h3.1 h3.2,h6.1,h6.2.1,h6.2.2.1,h6.2.2.2,gy,go,gh,gs,ct.ng _ h8.2,ct.md.bn _ h8.1,ct.ng _ h7.2,ct.md.bn _ h7.1,ev2,λx=>(r9.seq (P:=P) (c:=c) q2).folded x] (ct.nm h2.1.1 h2.2) (vr h1) gp (hS.e ct hK q1 r1) (by rw[q1.star];rfl) hj.1 hj.2 hm
       . cases e
      . cases e
     . cases e
    . cases e
   . cases e
  . cases e
theorem Hr(hS:jF P rn)(ct:bh P k X c)(iR:c.df=true)(hK:z.K=X.K):∀{ig:List Stmt}{xs:List Sm}{g g':G}{f:Fl},vQ P c ig xs->d7 rn z.bor k xs g=!(f,g')->eV X z ig g f g':=by
 intro ig xs g g' f hc h
 induction hc generalizing g with
 |nil=>symm;exact RK
 |grp h1 h2 ih=>
  unfold d7 at h;split at h
  . rename_i g1 e1;exact (xu hS ct iR hK h1 e1).bk (ih h)
  . rename_i hn e1;symm;exact (xu hS ct iR hK h1 e1).end λe=>hn e
  . symm
 |cons h1 h2 ih=>
  unfold d7 at h;split at h
  . rename_i g1 e1;exact Kd (nL hS ct iR hK h1 e1) (ih h)
  .
   rename_i hn e1;symm;have q:=nL hS ct iR hK h1 e1;cases f with
   |nx=>exact absurd rfl hn
   |rt r=>exact RL q
   |bk=>exact RM q
   |ct=>exact RN q
  . symm
end
theorem Nx{P:Pg}{k:Nat}{prog:Program}{w:World}{K:Frag}{mg:Str->Option Value}{base:Heap}{N ps:List Str}{qual:Str}{scope:Scope}{f:Addr}{bz:Value}{A:Around}{outer:List Env}{s:Shared}{H:Hp}{E:XK}
  (S:bI N ps scope) (md:rX P K mg) (bM:PySem.W.codeIn K bz qual=true) (hr:bK k (A.deeper (envOfC qual scope s⁻¹ f bz))):Nm P k (eU (Ce prog w) prog w K mg base N qual scope f bz A outer s H E) #[N,scope,true,qual]:=by
 refine#[#[rfl,S.nd,λx e=>e,λx e=>e,λx e=>e,λ_ x e=>e,λx _=>rfl,λ_=>?_,rfl,rfl,md,hr,λe h=>#[rfl,md.lam h _ e _ bM]],rfl,PassesOwn.leaving]
 show (if scope.kind.isAnnotationScope then ScopeKind.function else scope.kind)=.function
 rw[S.kind];rfl
section
theorem ve(hS:jF P rn)(hX:oU P rn)(cx:Nm P k X c)(hK:z.K=X.K)(hC:g8 P X.mg ci C):∀{es:List Expr}{xs:List Ex}{g g':G},Cr P c es xs->xArgs rn z.bor k xs g=!(ci,g')->Yo X z es g C g':=by
 intro es xs g g' hc h
 induction hc generalizing g with
 |nil=>symm
 |cons h1 h2 ih=>
  unfold xArgs at h;split at h
  . rename_i e1;symm;exact KH (hX.x cx hK hC h1 e1) (h1.star _)
  .
   split at h
   . rename_i r g1 e1;exact KJ (hS.e cx.ct hK h1 e1).lift (ih h) (h1.star _)
   . symm
theorem Ht(hS:jF P rn)(hX:oU P rn)(hF:g9 P fns)(cx:Nm P k X c)(hK:z.K=X.K)(hC:g8 P X.mg ci C)(hc:Cm P c e x)(h:uT rn z.bor k fns x g=!(ci,g')):Cg X z e g C g':=by
 have ct:=cx.ct;obtain⟨n,t,rfl,hk⟩:=hc.M9;cases x
 case call i xs=>
  obtain⟨k1,k2⟩:=ak hk;obtain⟨k3,k4⟩:=ak k2;obtain⟨fi,h1,h2⟩:=sf k1;cases xs with
  |nil=>cases (ak k4).2
  |cons x xs=>
  have h3:=dec k3;have h4:=cA (R:=Cm P c) .mk (ak k4).1;show Cg X z (.Call (.Name (uY P i) (kid t 0).pos) (iJ (fj P n c) t 1 (x::xs)) [] t.pos) g C g';rw[<- h2]at h3 ⊢
  have bT:=(Cm.mk (ak (ak k4).1).1).star (env:=X.env) (iJ (fj P n c) t 2 xs);have gI:=(cA .mk (ak (ak k4).1).2).plain (env:=X.env) (pos:=t.pos);obtain⟨fa,fd,hm,Zz,WN,hB,iU⟩:=ct.md.fn _ fi h1;unfold uT at h;dsimp only at h;split at h
  .
   rename_i r e1;symm;cases k with
   |zero=>
    obtain⟨tt,q,kk⟩:=ve hS hX cx hK hC h4 e1;refine#[_,?_,λσ As M H Q s ac=>kk σ As M H (λ_ _=>False) s ac]
    intro aj s σ H Q I ht;refine AG (eH I (ct.ng _ h3) hm ?_ iU);exact C9 I.ok.mod.vR Zz.kp (bA (q t.pos aj s σ H _ I ht) (by rintro us s1 ⟨_,_,_,_,h⟩;exact h.elim)) bT gI
   |succ k'=>
    have F:iu X.prog X.w X.K X.mg X.base v8 (k'+1) fa fd fi.ps (O2 X.K fi.N fi.ps.length λ_ _ _ _=>False):=DW Zz WN λ_ _ _ _ _ _ _ _ _ _ _ _ _ h=>h.elim
    exact En F (ve hS hX cx hK hC h4 e1) ct.room (ct.ng _ h3) hm Zz.kp hB iU bT gI
  .
   cases sN:fns[i]? with
   |none=>rw[sN]at h;symm
   |some fx=>
    rw[sN]at h;cases k with
    |zero=>symm
    |succ k'=>
     dsimp only at h;split at h
     .
      rename_i rs g1 e1;have U1:=hF _ _ _ h1 sN;have F:iu X.prog X.w X.K X.mg X.base (Ce X.prog X.w) (k'+1) fa fd fi.ps (SpX X.K fi.N fi.ps.length λbor g C g'=>∃ci,g8 P X.mg ci C/\rn.xb bor k' fx.body g=!(ci,g')):=by refine Sw Zz WN ?_;rintro bz A outer s H E bM hr z' g C g' Wq ⟨ci,hci,hrun⟩;exact hX.b (Nx WN ct.md bM hr) rfl Wq hci U1.body hrun
      unfold uS at h;split at h
      .
       rename_i hl;split at h
       . symm
       .
        rename_i gs e2;split at h
        .
         rename_i ci' gc e3;split at h
         .
          rename_i gO e4;symm;have ha:=nF hS ct hK h4 e1;have ha':cu X z (fj P n c x (kid t 1)::iJ (fj P n c) t 2 xs) g rs g1:=by
           obtain⟨t,q,kk⟩:=ha;refine#[t,λpos aj s σ H Q I hw=>?_,kk]
           exact qS (q pos aj s σ H Q (I.wish _) hw) (by rintro _ _ ⟨v,H',I',r,q⟩;exact#[v,H',I'.bU,r,q]) λ_ _ z=>False.elim z
          exact KS F hK cx.ex ct.room (ct.ng _ h3) hm Zz.kp hB ha' (by rw[hl.1,U1.np]) e2 hl.2 #[ci,hC,by rw[<- U1.n];exact e3] e4 iU bT gI
         . symm
        . symm
      . symm
     . symm
 all_goals symm
theorem Bx(hX:oU P rn)(cx:Nm P k X c)(hK:z.K=X.K)(hC:g8 P X.mg ci C)(hc:Cm P c e x)(h:rW rn z.bor k x g=!(ci,g')):Wf X z e g C g':=by
 obtain⟨n,t,e,hk⟩:=hc.M9;cases x
 case not a=>subst e;exact KD (hX.t cx hK hC (.mk hk) h)
 case call i l=>exact Sq (hX.x cx hK hC hc h) (by rw[e];exact λ_=>rfl)
 all_goals symm
theorem fD.lift{st:Stmt}{g g':G}{f:Fl}(h:fD X.qG z st g f g'):fD X z st g f g':=by
 obtain⟨t,q,k⟩:=h;refine#[t,λaj s σ H D I hw=>?_,k]
 exact qS (q aj s σ H D (I.wish _) hw) (λ_ _ q=>q.bU) λ_ _ z=>False.elim z
theorem By(hS:jF P rn)(hX:oU P rn)(cx:Nm P k X c)(iR:c.df=true)(hK:z.K=X.K)(hC:g8 P X.mg ci C)(hc:Jh P c s x)(h:m9 rn z.bor k x g=!(ci,g')):Sl X z s g C g':=by
 have ct:=cx.ct;obtain⟨mm,n,t,rfl,hk⟩:=hc.M9;cases x
 case ret x=>exact Ss (hX.x cx hK hC (.mk hk) h)
 case expr x=>have h1:=Cm.mk (ak hk).1;have h2:=noC (ak hk).2;exact KN (hX.x cx hK hC h1 h) (nJ h1 h2 _ _ _)
 case ite e a b=>
  have h1:=Cm.mk (ak hk).1;have h2:=vQ.mk (ak (ak hk).2).1;have h3:=vQ.mk (ak (ak hk).2).2;unfold m9 at h;dsimp only at h;split at h
  . rename_i e1;symm;exact Sv (hX.t cx hK hC h1 e1)
  .
   split at h
   . rename_i g1 e1;exact El (hS.t ct hK h1 e1).lift (by rw[tJ rfl];exact hX.b cx iR hK hC h2 h)
   . rename_i g1 e1;exact El (hS.t ct hK h1 e1).lift (by rw[sK BB];exact hX.b cx iR hK hC h3 h)
   . symm
 case raise i x=>
  have h1:=dec (ak hk).1;have h2:=dec (ak (ak hk).2).1;have h3:=Cm.mk (ak (ak hk).2).2;unfold m9 at h;dsimp only at h;split at h
  .
   rename_i d g1 e1;symm;obtain⟨y,q1,q2⟩:=hC;rw[h1]at q1;cases q1;obtain⟨iU,C',q3,q4⟩:=ct.md.cls _ (pE h1);have e:C'=C:=by have:=q3.symm.trans q2;cases this;rfl
   subst e;exact Em ct.calm cx.ex q4 (ct.ng _ h2) q2 iU (dg (aV hS ct hK h3 e1).lift dM (h3.star _)) (h3.star _)
  . symm
 all_goals symm
theorem BG(hS:jF P rn)(hX:oU P rn)(cx:Nm P k X c)(iR:c.df=true)(hK:z.K=X.K)(hC:g8 P X.mg ci C):∀{ig:List Stmt}{xs:List Sm}{g g':G},vQ P c ig xs->iH rn z.bor k xs g=!(ci,g')->KC X z ig g C g':=by
 intro ig xs g g' hc h
 induction hc generalizing g with
 |nil=>symm
 |grp h1 h2 ih=>
  unfold iH at h;split at h
  . rename_i e1;cases h1 <;> cases e1
  .
   split at h
   . rename_i g1 e1;exact ((xu hS cx.ct iR hK h1 e1).lift).ra (ih h)
   . symm
 |cons h1 h2 ih=>
  unfold iH at h;split at h
  . rename_i e1;symm;exact KQ (By hS hX cx iR hK hC h1 e1)
  .
   split at h
   . rename_i g1 e1;exact KR (nL hS cx.ct iR hK h1 e1).lift (ih h)
   . symm
end
theorem vf(hF:g9 P fns):∀n,jF P (run fns n)/\oU P (run fns n)
 | 0=>#[#[λ_ _ _ h=>(by symm),λ_ _ _ h=>(by symm),λ_ _ _ _ h=>(by symm)],#[λ_ _ _ _ h=>(by symm),λ_ _ _ _ h=>(by symm),λ_ _ _ _ _ h=>(by symm)]]
 |n+1=>
  let #[a,b]:=vf hF n
  #[#[λct hK hc h=>Ho a b hF ct hK hc h,λct hK hc h=>Hq a ct hK hc h,λct iR hK hc h=>Hr a ct iR hK hc h],
  #[λcx hK hC hc h=>Ht a b hF cx hK hC hc h,λcx hK hC hc h=>Bx b cx hK hC hc h,λcx iR hK hC hc h=>BG a b cx iR hK hC hc h]]
theorem Ny(hF:g9 P fns)(n:Nat):jF P (run fns n):=(vf hF n).1
def Nz(K:Frag)(mg:Str->Option Value)(fi:Fi):Prop:=
 ∃f fd,mg fi.name=!(.ref f)/\JH K fi.name fi.qual fi.st f fd/\bI fi.N fi.ps (aE fi.st)/\(∀us:List Value,us.length=fi.ps.length->bindArgs fd #[us,[]]=pure (fi.ps.zip us))/\(fi.name==(~~~3))=false
def U3(K:Frag)(mg:Str->Option Value)(p:Str×D):Prop:=(p.1==(~~~3))=false/\∃v u,mg p.1=!u/\RelV v u/\∀M H,Rep K M H p.2 v
inductive All{α:Type}(p:α->Prop):List α->Prop
 |nil:All p []
 |cons {a:α}{l:List α}:p a->All p l->All p (a::l)
theorem All.mem{α:Type}{p:α->Prop}:∀{l:List α},All p l->∀a∈l,p a:=by
 intro l h
 induction h with
 |nil=>intro a h;symm
 |cons h t ih=>
  intro a hm;rcases dA.mp hm with rfl |hm
  . exact h
  . exact ih a hm
structure U4(P:Pg)(K:Frag)(mg:Str->Option Value):Prop where
 lam:P.lam=true->∀n∈gS,∀bz,PySem.W.codeIn K bz n=true->GL K mg n bz
 qg:∀(i:Nat) (C:Addr),P.qg[i]?=!C->∃x,P.cls[i]?=!x/\mg x=!(.ref C)/\dj K C/\Iw K C
 kt:P.lam=true->(P.kt==(~~~3))=false/\∃D,mg P.kt=!(.ref D)/\dj K D/\∀C∈P.qg,rH K C D=true
 ups:∀(x:Str) (l:List (Addr×Bool)),(x,l)∈P.ups->(x==(~~~3))=false/\∃cv,((mg x=!cv/\∃D,cv=.ref D)\/(x∈P.bn/\x≠ "__name__" /\bootBuiltins x=!cv/\∃n,cv=.type n))/\PySem.W.kitOne K (.type "NoneType") cv=!false/\∀C b,l.lookup C=!b->PySem.W.kitOne K (.ref C) cv=!b
theorem ZC{P:Pg}{K:Frag}{mg:Str->Option Value}(h1:All (Nz K mg) P.fn)(h2:All (U3 K mg) P.ct)(h3:All (λx=>mg x=none) P.bn)(h4:All (λx=>(x==(~~~3))=false/\∃C,mg x=!(.ref C)/\dj K C) P.cls)(h5:U4 P K mg):rX P K mg:=
 #[λi fi e=>by obtain⟨f,fd,q1,q2,q3,q4,q5⟩:=h1.mem fi (pE e);exact#[f,fd,q1,q2,q3,.all q4,q5],λx d h=>h2.mem (x,d) h,λx h=>h3.mem x h,λx h=>h4.mem x h,h5.lam,h5.qg,h5.kt,h5.ups]
def BdOk(fi:Fi):Prop:=∀(kV doc pm:Value) (an:Option Addr) (bz ct:Value) (us:List Value),us.length=fi.ps.length->bindArgs (PySem.W.fnOf fi.name fi.qual (gi fi.st) (bq fi.st) (aE fi.st) .none kV doc pm an bz ct) #[us,[]]=pure (fi.ps.zip us)
section
variable{K:Frag}
theorem ZD{fi:Fi}{oc:Value}{od an:Option Addr}{osl:Array (Option Value)}{kV doc pm bz ct:Value}(X:K.In h)(G:h.Ns mainGlobals mg)(a:PySem.W.nsIn K mainGlobals fi.name=!(!(.ref f)))
  (l:K.lookup f=!#[oc,od,.func (PySem.W.fnOf fi.name fi.qual (gi fi.st) (bq fi.st) (aE fi.st) .none kV doc pm an bz ct),osl]) (c:PySem.W.codeIn K bz fi.qual=true) (k:PySem.W.keepIn K (.ref f)=true)
  (sc:bI fi.N fi.ps (aE fi.st)) (hb:BdOk fi)
  (hd:(fi.name==(~~~3))=false):Nz K mg fi:=
 let F:=QL l c k
 #[f,_,EI X G a,F,sc,hb kV doc pm an bz ct,hd]
theorem U5(X:K.In h)(G:h.Ns mainGlobals mg)(a:PySem.W.nsIn K mainGlobals x=!(!(.int i t)))(hd:(x==(~~~3))=false):U3 K mg (x,.int i):=
 #[hd,.int i,.int i t,EI X G a,#[t,rfl],λ_ _=>.int i]
theorem ZF(X:K.In h)(G:h.Ns mainGlobals mg)(a:PySem.W.nsIn K mainGlobals x=!(!(.ref C)))(q:dj K C)(hd:(x==(~~~3))=false):(x==(~~~3))=false/\∃C,mg x=!(.ref C)/\dj K C:=
 #[hd,C,EI X G a,q]
theorem U6{P:Pg}{fns:List Fx}{prog:Program}{w:World}{base:Heap}(hF:g9 P fns)(md:rX P K mg){i:Nat}{fi:Fi}{fx:Fx}{x:Str}{fd:FuncData}{n k:Nat}(Zw:P.fn[i]?=!fi)(sN:fns[i]?=!fx)(hp:fi.ps=[x])(F:JH K fi.name fi.qual fi.st f fd)(sc:bI fi.N fi.ps (aE fi.st)) :
  iu prog w K mg base v8 (k+1) f fd [x] (O2 K fi.N 1 λbor g r g'=>(run fns n).b bor k fx.body g=!(.rt r,g')):=by
 have:=DW (P:=prog) (w:=w) (base:=base) (run:=λbor g r g'=>(run fns n).b bor k fx.body g=!(.rt r,g')) F sc λbz A outer s H E bM hr z g r g' hK hrun=>
  #[_,(Ny hF n).b (nG sc md bM hr) rfl hK (hF i fi fx Zw sN).body hrun,.inl rfl]
 rw[hp]at this;exact this
theorem Hu{P:Pg}{fns:List Fx}{prog:Program}{w:World}(hF:g9 P fns)(md:rX P K mg){i:Nat}{fi:Fi}{fx:Fx}{x:Str}{n k:Nat}(Zw:P.fn[i]?=!fi)(sN:fns[i]?=!fx)(hp:fi.ps=[x])(h:Nz K mg fi)(hm:mg fi.name=!(.ref f)) :
  ∃fd:FuncData,(∀(s:Shared) (u:Value),BindsTo s fd #[[u],[]] [(x,u)])/\∀base:Heap,K.In base->base.Ns mainGlobals mg->iu prog w K mg base v8 (k+1) f fd [x] (O2 K fi.N 1 λbor g r g'=>(run fns n).b bor k fx.body g=!(.rt r,g')):=by
 obtain⟨f',fd,q1,q2,q3,q4,q5⟩:=h;rw[hm]at q1;cases q1;refine#[fd,λs u=>.of_eq ?_,λbase _ _=>U6 hF md Zw sN hp q2 q3]
 have:=q4 [u] (by rw[hp];rfl)
 rw[hp]at this;exact this
theorem U7{N:List Str}{run:List Nat->G->R->G->Prop}(hev:∀ns:List Int,ns.length<=63->∃g',run [] (cO N.length [.dat (.fix (ns.map .int))]) (.dat (.bl true)) g')(K:Frag)(H:Hp)(a:Addr)(ns: ~~~0)(hl:ns.length<=63)(hO:yy ((bO K).map (·.1)) H)(hS:bD K H a (ns.map V.int)) :
  O2 K N 1 run [.ref a] H (λv _=>v=.bl true) λ_ _ _=>False:=by
 obtain⟨g',hg⟩:=hev ns hl;have fx:kG K ((bO K).map (·.1)) H a (ns.map V.int):=by
  rcases hS with h |h
  .
   rcases hO a with ⟨_,z⟩ |⟨na,z⟩
   . rcases h with h |⟨o,h⟩ <;> (rw[z]at h;symm)
   .
    refine .inl #[na,?_];rcases h with h |h
    .
     rcases z with z |⟨o,xs,z⟩
     . rw[z]at h;symm
     . rw[z]at h;symm
    . exact h
  . exact .inr (.inr h)
 have rr:∀ns:List Int,aG K ((bO K).map (·.1)) H (ns.map D.int) (ns.map V.int):=λns=>by
  induction ns with
  |nil=>exact .nil
  |cons n ns ih=>exact .cons (.int n) ih
 have tb:∀p∈bO K,H p.1=!(.k9 ([].toArray)):=λp hp=>by
  rcases hO p.1 with ⟨_,z⟩ |⟨z,_⟩
  . exact z
  . exact absurd (i9.mpr #[p,hp,rfl]) z
 refine#[rfl,#[K,H,(bO K).map (·.1),[],bO K],cO N.length [.dat (.fix (ns.map .int))],g',[],(bO K).map (·.1),.dat (.bl true),rfl,?_,hg,λv σ' aB M' H' s' st R=>dW R]
 refine#[?_,AA,(λa ha=>nomatch ha),λi b l e1 e2=>?_,(λm hm=>.inr hm),(λb o e _ _=>e),(λm hm=>hm),(λm hm=>?_),(λb hb=>nomatch hb),(λp hp=>nomatch hp),(λp hp=>#[([].toArray),tb p hp,trivial,λpos cv e=>nomatch e]),(λp hp=>i9.mpr #[p,hp,rfl]),rfl]
 . exact Slots.append (.dat (.fix fx (rr ns)) .nil) (Slots.nos _)
 .
  exfalso;unfold cO at e1;cases i with
  |zero=>simp at e1
  |succ i=>rw[eD ⋯]at e1;have:=pE e1;rw[BC]at this;exact absurd this.2 ⋯
 . obtain⟨p,hp,rfl⟩:=i9.mp hm;intro z;have z:H p.1=none:=z;rw[tb p hp]at z;cases z
end
noncomputable abbrev Fi.ct(fi:Fi):Ct:=#[fi.N,aE fi.st,true,fi.qual]
def yU(P:Pg)(fi:Fi)(fx:Fx):List Stmt:=sr (WL P 99 (Pu P 99 20 fi.ct) fi.ct) (Pu P 99 20 fi.ct) fx.body (bq fi.st)
def fxB(P:Pg)(fi:Fi)(fx:Fx):Bool:=decide (fx.np=fi.ps.length)&&(decide (fx.n=fi.N.length)&&Ng (WM P 99 (Pw P 99 20 fi.ct) fi.ct) (Pw P 99 20 fi.ct) fx.body (bq fi.st))
theorem U8(e:yU P fi fx=bq fi.st)(h:fxB P fi fx=true):Np P fi fx:=#[dec (ak h).1,dec (ak (ak h).2).1,Eq.mp (congrArg (λl=>vQ P fi.ct l fx.body) e) (vQ.mk (ak (ak h).2).2)]
def NB(P:Pg):List Fi->List Fx->Bool
 |fi::l,fx::r=>fxB P fi fx&&NB P l r
 |_,_=>true
theorem NC(e:List.zipWith (yU P) l r=l.map λfi=>bq fi.st)(h:NB P l r=true)(f:Nat)(fi:Fi)(fx:Fx)(h1:l[f]?=!fi)(h2:r[f]?=!fx):Np P fi fx:=by
 induction l generalizing r f with
 |nil=>cases h1
 |cons a l ih=>cases r with
  |nil=>cases h2
  |cons b r=>
   cases f with
   |zero=>cases h1;cases h2;exact U8 (List.cons.inj e).1 (ak h).1
   |succ f=>exact ih (List.cons.inj e).2 (ak h).2 f h1 h2
theorem U9(h:NB P P.fn fns=true)(e:List.zipWith (yU P) P.fn fns=P.fn.map λfi=>bq fi.st):g9 P fns:=λf fi fx h1 h2=>NC e h f fi fx h1 h2
theorem ZG(h:us.length=1):∃a,us=[a]:=by
 cases us with
 |nil=>symm
 |cons a us=>cases us with
  |nil=>exact#[a,rfl]
  |cons _ _=>symm
theorem ZJ(h:us.length=2):∃a b,us=[a,b]:=by
 cases us with
 |nil=>symm
 |cons a us=>obtain⟨b,rfl⟩:=ZG (C4 h);exact#[a,b,rfl]
theorem len3(h:us.length=3):∃a b c,us=[a,b,c]:=by
 cases us with
 |nil=>symm
 |cons a us=>obtain⟨b,c,rfl⟩:=ZJ (C4 h);exact#[a,b,c,rfl]
def cQ(st:Stmt):Fi:=match st with
 |.FunctionDef name args _ _ _ _ scope _ _ _=>#[name,name,st,(args.args.map (·.arg))++scope.names.filterMap (λy=>if (y.2==.local||y.2==.cell)&&(not ((args.args.map (·.arg)).contains y.1)) then some y.1 else none),args.args.map (·.arg)]
 |st=>#["", "",st,[],[]]
section
theorem vg(ds:List D):∀i,vars i (ds.map R.dat)=[]:=by
 induction ds with
 |nil=>intro i;rfl
 |cons d ds ih=>intro i;exact ih (i+1)
theorem vj(ds:List D):cL (ds.map R.dat) g1=!(ds.map .dat):=by
 induction ds with
 |nil=>rfl
 |cons d ds ih=>
  show (match cL (ds.map R.dat) g1 with |some gs=>!(Slot.dat d::gs) |none=>none)=_
  rw[ih];rfl
noncomputable def Pz:List D->G
 | []=>[]
 |d::l=>.dat d::Pz l
theorem yV(ds:List D):Pz ds=ds.map .dat:=by
 induction ds with
 |nil=>rfl
 |cons d ds ih=>rw[Pz,ih];rfl
def cB(rn:Rn)(k:Nat)(fx:Fx)(ds:List D):Option R:=match rn.b [] k fx.body (cO fx.n (Pz ds))with
 |!(.rt r,gc)=>bX [] gc r
 |!(.nx,_)=>!(.dat .non)
 |_=>none
theorem ki(hl:ds.length=fx.np):dZ rn fx k (ds.map .dat) g1=(cB rn k fx ds).map λr=>(r,g1):=by
 unfold dZ cB;rw[vg,vj,yV];simp only[dE,hl,List.map_nil];cases rn.b [] k fx.body (cO fx.n (ds.map .dat))with
 |none=>rfl
 |some p=>
  obtain⟨f,gc⟩:=p;cases f with
  |nx=>rfl
  |rt r=>simp only[back];cases bX [] gc r <;> rfl
  |bk=>rfl
  |ct=>rfl
noncomputable def gM(g m:G)(acc:List D):G:=g++(m++[.own acc])
theorem qk{g m:G}{acc:List D}{i:Nat}(h:i<g.length):(gM g m acc)[i]?=g[i]?:=by unfold gM;rw[fN h]
theorem iL{g m:G}{acc:List D}{i:Nat}(h:i<m.length):(gM g m acc)[g.length+i]?=m[i]?:=by unfold gM;rw[eD ⋯,o6,fN h]
theorem yW:(gM g m acc)[g.length+m.length]?=!(.own acc):=by unfold gM;rw[eD ⋯,o6,eD (eA _),D6];rfl
theorem iM(h:i<m.length):(gM g m acc).set (g.length+i) s=gM g (m.set i s) acc:=by unfold gM;rw[Cc _ _ ⋯,o6,List.set_append_left _ _ h]
theorem vm:(gM g m acc).set (g.length+m.length) (.own acc')=gM g m acc':=by unfold gM;rw[Cc _ _ ⋯,o6,Cc _ _ (eA _),D6];rfl
theorem NK:(gM g m acc).take g.length=g:=by unfold gM;simp
theorem ZK:gC kk g=gM g (List.replicate kk .no) []:=rfl
theorem nM{α:Type}(jH:α->D)(f:α->D)(p:α->Bool)(st:α->G->G)(I:G->Prop)(hI:∀m,I m->m.length=kk)(jo:last=g.length+kk)(bT:∀d m,I m->I (st d m)) :
  ∀(au:List α) (m:G) (acc:List D),I m->acc.length+au.length<=lim->
  (∀d∈au,∀m acc,I m->T.set (jH d) (gM g m acc)=!(gM g (st d m) acc))->
  (∀d∈au,∀m acc,I m->Bs rn bor k c (gM g (st d m) acc)=!(p d,gM g (st d m) acc))->
  (∀d∈au,p d=true->∀m acc,I m->gP rn bor k e (gM g (st d m) acc)=!(f d,gM g (st d m) acc))->
  ∃m',I m'/\Mi rn bor k T last c e (au.map jH) (gM g m acc)=!(gM g m' (acc++(au.filter p).map f))
 | [],m,acc,hm,_,_,_,_=>#[m,hm,by simp[Mi]]
 |d::au,m,acc,hm,hl,hT,hi,he=>by
  rw[nK]at hl;have q1:=hT d bP m acc hm;have q2:=hi d bP m acc hm;have hm':=bT d m hm;have hk:=hI _ hm';rw[List.map_cons];unfold Mi;rw[q1];dsimp only;rw[q2];cases hp:p d with
  |false=>
   dsimp only;obtain⟨m',w1,w2⟩:=nM jH f p st I hI jo bT au (st d m) acc hm' ⋯ (λx hx=>hT x (a8 _ hx)) (λx hx=>hi x (a8 _ hx)) (λx hx=>he x (a8 _ hx))
   exact#[m',w1,by rw[w2,List.filter_cons,hp];rfl]
  |true=>
   have q3:=he d bP hp m acc hm;dsimp only;rw[q3];dsimp only;have q4:(gM g (st d m) acc)[last]?=!(.own acc):=by rw[jo,<- hk];exact yW
   rw[q4];dsimp only;rw[tJ ⋯];have q5:(gM g (st d m) acc).set last (.own (acc++[f d]))=gM g (st d m) (acc++[f d]):=by rw[jo,<- hk];exact vm
   rw[q5];obtain⟨m',w1,w2⟩:=nM jH f p st I hI jo bT au (st d m) (acc++[f d]) hm' (by rw[eQ,List.length_singleton];lia) (λx hx=>hT x (a8 _ hx)) (λx hx=>hi x (a8 _ hx)) (λx hx=>he x (a8 _ hx))
   refine#[m',w1,?_];rw[w2,List.filter_cons,hp];simp
theorem NP{α:Type}(jH:α->D)(f:α->D)(p:α->Bool)(st:α->G->G)(jo:last=g.length+kk)(bT:∀d m,m.length=kk->(st d m).length=kk) :
  ∀(au:List α) (m:G) (acc:List D),m.length=kk->acc.length+au.length<=lim->
  (∀d∈au,∀m acc,m.length=kk->T.set (jH d) (gM g m acc)=!(gM g (st d m) acc))->
  (∀d∈au,∀m acc,m.length=kk->Bs rn bor k c (gM g (st d m) acc)=!(p d,gM g (st d m) acc))->
  (∀d∈au,p d=true->∀m acc,m.length=kk->gP rn bor k e (gM g (st d m) acc)=!(f d,gM g (st d m) acc))->
  ∃m',m'.length=kk/\Mi rn bor k T last c e (au.map jH) (gM g m acc)=!(gM g m' (acc++(au.filter p).map f)):=
 nM jH f p st (λm=>m.length=kk) (λ_ h=>h) jo bT
theorem ql{α:Type}{kk nn:Nat}{T:Tg}{it:Ex}{c:Option Ex}{e:Ex}(au:List α)(jH:α->D)(f:α->D)(p:α->Bool)(st:α->G->G)(hw:g7 rn bor k T.Bq it g=!(au.map jH,g1))(hn:nn=g1.length)(hb:(T.ix.any λi=>decide (i∈bor))=false)(hl:au.length<=lim)(bT:∀d m,m.length=kk->(st d m).length=kk)
  (hT:∀d∈au,∀m acc,m.length=kk->T.set (jH d) (gM g1 m acc)=!(gM g1 (st d m) acc))
  (hi:∀d∈au,∀m acc,m.length=kk->Bs rn bor k c (gM g1 (st d m) acc)=!(p d,gM g1 (st d m) acc))
  (he:∀d∈au,p d=true->∀m acc,m.length=kk->gP rn bor k e (gM g1 (st d m) acc)=!(f d,gM g1 (st d m) acc)) :
  cR rn bor k nn kk T it c e g=!((au.filter p).map f,g1):=by
 subst hn;obtain⟨m',w1,w2⟩:=NP jH f p st rfl bT au (List.replicate kk .no) [] ⋯ (by simpa using hl) hT hi he
 unfold cR;rw[hw];dsimp only;rw[tJ #[rfl,hb],ZK,w2];dsimp only;have:(gM g1 m' ([]++(au.filter p).map f))[g1.length+kk]?=!(.own ([]++(au.filter p).map f)):=by rw[<- w1];exact yW
 rw[this];rw[NK,B9]
theorem Va{j kk:Nat}{d:D}{m:G}{acc:List D}(hj:g.length<=j)(hk:j - g.length<m.length):(Tg.nm j).set d (gM g m acc)=!(gM g (m.set (j - g.length) (.dat d)) acc):=by
 show some ((gM g m acc).set j (.dat d))=_;have:=iM (g:=g) (acc:=acc) (s:=.dat d) hk;rw[show g.length+(j - g.length)=j by lia]at this
 rw[this]
def NQ(g:G)(j:Nat)(d:D)(G':G):Prop:=(∀i,i<g.length->G'[i]?=g[i]?)/\G'[j]?=!(.dat d)
theorem vn{α:Type}{kk nn j:Nat}{it:Ex}{c:Option Ex}{e:Ex}(au:List α)(jH:α->D)(p:α->Bool)(f:α->D)(hw:g7 rn bor k false it g=!(au.map jH,g1))(hn:nn=g1.length)(hj1:g1.length<=j)(hj2:j<g1.length+kk)(hb:j∉bor)(hl:au.length<=lim)
  (hi:∀a∈au,∀G',NQ g1 j (jH a) G'->Bs rn bor k c G'=!(p a,G')) (he:∀a∈au,p a=true->∀G',NQ g1 j (jH a) G'->gP rn bor k e G'=!(f a,G')) :
  cR rn bor k nn kk (.nm j) it c e g=!((au.filter p).map f,g1):=by
 have sees:∀(a:α) (m:G) (acc:List D),m.length=kk->NQ g1 j (jH a) (gM g1 (m.set (j - g1.length) (.dat (jH a))) acc):=λa m acc hm=>by
  refine#[λi hi=>qk hi,?_]
  have:=iL (g:=g1) (m:=m.set (j - g1.length) (.dat (jH a))) (acc:=acc) (i:=j - g1.length) (by simp;lia)
  rw[show g1.length+(j - g1.length)=j by lia]at this
  rw[this,nE ⋯]
 refine ql au jH f p (λa m=>m.set (j - g1.length) (.dat (jH a))) hw hn (by simp[Tg.ix,hb]) hl (λd m hm=>by simpa using hm) (λa _ m acc hm=>Va (kk:=kk) hj1 ⋯) (λa ha m acc hm=>hi a ha _ (sees a m acc hm)) λa ha hp m acc hm=>he a ha hp _ (sees a m acc hm)
theorem filter_all{α:Type}(l:List α):l.filter (λ_=>true)=l:=List.filter_eq_self.mpr λ_ _=>rfl
theorem yX{α:Type}(au:List α)(jH:α->D)(f:α->D)(hw:g7 rn bor k false it g=!(au.map jH,g1))(hn:nn=g1.length)(hj1:g1.length<=j)(hj2:j<g1.length+kk)(hb:j∉bor)(hl:au.length<=lim)
  (he:∀a∈au,∀G',NQ g1 j (jH a) G'->gP rn bor k e G'=!(f a,G')):cR rn bor k nn kk (.nm j) it none e g=!(au.map f,g1):=by
 have:=vn (c:=none) au jH (λ_=>true) f hw hn hj1 hj2 hb hl (λ_ _ _ _=>rfl) λa ha _ G' hG=>he a ha G' hG
 rw[filter_all]at this;exact this
def yZ(g:G)(j1 j2:Nat)(d1 d2:D)(G':G):Prop:=(∀i,i<g.length->G'[i]?=g[i]?)/\G'[j1]?=!(.dat d1)/\G'[j2]?=!(.dat d2)
theorem Hv{α:Type}(au:List α)(gR iN:α->D)(p:α->Bool)(f:α->D)(hw:g7 rn bor k true it g=!(au.map λa=>.tup [gR a,iN a],g1))(hn:nn=g1.length)(hj1:g1.length<=j1)(ZL:j1<g1.length+kk)(hj2:g1.length<=j2)(ZM:j2<g1.length+kk)(jI:j1≠j2)(hb1:j1∉bor)(hb2:j2∉bor)(hl:au.length<=lim)
  (hi:∀a∈au,∀G',yZ g1 j1 j2 (gR a) (iN a) G'->Bs rn bor k c G'=!(p a,G')) (he:∀a∈au,p a=true->∀G',yZ g1 j1 j2 (gR a) (iN a) G'->gP rn bor k e G'=!(f a,G')) :
  cR rn bor k nn kk (.tp [j1,j2]) it c e g=!((au.filter p).map f,g1):=by
 have sees:∀(a:α) (m:G) (acc:List D),m.length=kk->yZ g1 j1 j2 (gR a) (iN a) (gM g1 ((m.set (j1 - g1.length) (.dat (gR a))).set (j2 - g1.length) (.dat (iN a))) acc):=λa m acc hm=>by
  refine#[λi hi=>qk hi,?_,?_]
  .
   have:=iL (g:=g1) (m:=(m.set (j1 - g1.length) (.dat (gR a))).set (j2 - g1.length) (.dat (iN a))) (acc:=acc) (i:=j1 - g1.length) (by simp;lia)
   rw[show g1.length+(j1 - g1.length)=j1 by lia]at this
   rw[this,gN ⋯,nE ⋯]
  .
   have:=iL (g:=g1) (m:=(m.set (j1 - g1.length) (.dat (gR a))).set (j2 - g1.length) (.dat (iN a))) (acc:=acc) (i:=j2 - g1.length) (by simp;lia)
   rw[show g1.length+(j2 - g1.length)=j2 by lia]at this
   rw[this,nE (by simp;lia)]
 refine ql au (λa=>.tup [gR a,iN a]) f p (λa m=>(m.set (j1 - g1.length) (.dat (gR a))).set (j2 - g1.length) (.dat (iN a))) hw hn (by simp[Tg.ix,hb1,hb2]) hl (λd m hm=>by simpa using hm) (λa _ m acc hm=>?_) (λa ha m acc hm=>hi a ha _ (sees a m acc hm)) λa ha hp m acc hm=>he a ha hp _ (sees a m acc hm)
 have q1:=iM (g:=g1) (m:=m) (acc:=acc) (i:=j1 - g1.length) (s:=.dat (gR a)) ⋯;have q2:=iM (g:=g1) (m:=m.set (j1 - g1.length) (.dat (gR a))) (acc:=acc) (i:=j2 - g1.length) (s:=.dat (iN a)) (by simp;lia)
 rw[show g1.length+(j1 - g1.length)=j1 by lia]at q1
 rw[show g1.length+(j2 - g1.length)=j2 by lia]at q2
 show some (((gM g1 m acc).set j1 (.dat (gR a))).set j2 (.dat (iN a)))=_;rw[q1,q2]
theorem Vb{α:Type}(au:List α)(gR iN:α->D)(f:α->D)(hw:g7 rn bor k true it g=!(au.map λa=>.tup [gR a,iN a],g1))(hn:nn=g1.length)(hj1:g1.length<=j1)(ZL:j1<g1.length+kk)(hj2:g1.length<=j2)(ZM:j2<g1.length+kk)(jI:j1≠j2)(hb1:j1∉bor)(hb2:j2∉bor)(hl:au.length<=lim)
  (he:∀a∈au,∀G',yZ g1 j1 j2 (gR a) (iN a) G'->gP rn bor k e G'=!(f a,G')):cR rn bor k nn kk (.tp [j1,j2]) it none e g=!(au.map f,g1):=by
 have:=Hv (c:=none) au gR iN (λ_=>true) f hw hn hj1 ZL hj2 ZM jI hb1 hb2 hl (λ_ _ _ _=>rfl) λa ha _ G' hG=>he a ha G' hG
 rw[filter_all]at this;exact this
theorem d9{α:Type}(jH:α->D)(I:List α->G->Prop)(step:∀a l g,I (a::l) g->∃g1 g2,T.set (jH a) g=!g1/\b g1=!(.nx,g2)/\I l g2):∀l g,I l g->∃g',I [] g'/\jE T b (l.map jH) g=!(.nx,g')
 | [],g,h=>#[g,h,rfl]
 |a::l,g,h=>by
  obtain⟨g1,g2,q1,q2,q3⟩:=step a l g h;obtain⟨g',w1,w2⟩:=d9 jH I step l g2 q3;exact#[g',w1,by rw[List.map_cons];unfold jE;rw[q1];dsimp only;rw[q2];exact w2]
end
theorem ints_map(l: ~~~0):bu (l.map .int)=!l:=by
 induction l with
 |nil=>rfl
 |cons a l ih=>simp[bu,ih]
theorem NR(l:List Bool):tT (l.map .bl)=!l:=by
 induction l with
 |nil=>rfl
 |cons a l ih=>simp[tT,ih]
theorem WR(a: ~~~0)(l: ~~~5):bu ((a::l).map λ(x: ~~~0)=>.tup (x.map .int))=none:=rfl
theorem Hw(l:List D):kW .len [.tup l]=!(.dat (.int l.length)):=rfl
theorem nO(l:List D):kW .len [.lst l]=!(.dat (.int l.length)):=rfl
theorem vq(l:List D):kW .len [.fix l]=!(.dat (.int l.length)):=rfl
theorem BJ(l:List D):kW .list [.tup l]=!(.new l):=rfl
theorem BK(l:List D):kW .list [.lst l]=!(.new l):=rfl
theorem xx(l:List D):kW .tuple [.lst l]=!(.dat (.tup l)):=rfl
theorem xA(l:List D):kW .tuple [.tup l]=!(.dat (.tup l)):=rfl
theorem Vc(l:List Bool):kW .all [.lst (l.map .bl)]=!(.dat (.bl (l.all id))):=by simp only[kW,Pn,NR]
theorem Hx(l: ~~~0):kW .sum [.tup (l.map .int)]=!(.dat (.int l.sum)):=by simp only[kW,Pn,bF,ints_map]
theorem Hy(l: ~~~0):kW .sum [.lst (l.map .int)]=!(.dat (.int l.sum)):=by simp only[kW,Pn,bF,ints_map]
theorem eu:∀a b:List Int,cT (a.map .int) (b.map .int)=decide (a=b)
 | [],[]=>rfl
 | [],_::_=>rfl
 |_::_,[]=>rfl
 |x::a,y::b=>by
  simp only[List.map_cons,cT,eu a b,List.cons.injEq,Bool.decide_and];rfl
theorem gF(a: ~~~0):iB (a.map .int)=true:=by
 induction a with
 |nil=>rfl
 |cons x a ih=>simp[iB,iA,ih]
theorem gG(a: ~~~0):deps (a.map .int)=0:=by
 induction a with
 |nil=>rfl
 |cons x a ih=>simp[deps,dep,ih]
theorem qo(a b: ~~~0):jC (.tup (a.map .int)) (.tup (b.map .int))=true:=by simp[jC,iA,gF,dep,gG]
theorem nP(a b: ~~~0):jC (.lst (a.map .int)) (.lst (b.map .int))=true:=by simp[jC,iA,gF,dep,gG]
theorem Vd(a b: ~~~0):dQ .Eq (.tup (a.map .int)) (.tup (b.map .int))=!(decide (a=b)):=by simp only[dQ,qo,if_true,cz,eu]
theorem Ve(a b: ~~~0):dQ .NotEq (.tup (a.map .int)) (.tup (b.map .int))=!((not (decide (a=b)))):=by simp only[dQ,qo,if_true,cz,eu]
theorem Hz(a b: ~~~0):dQ .Eq (.lst (a.map .int)) (.lst (b.map .int))=!(decide (a=b)):=by simp only[dQ,nP,if_true,cz,eu]
theorem HB(a b: ~~~0):dQ .NotEq (.lst (a.map .int)) (.lst (b.map .int))=!((not (decide (a=b)))):=by simp only[dQ,nP,if_true,cz,eu]
theorem Vf(a b:Int):dQ .Eq (.int a) (.int b)=!(decide (a=b)):=rfl
theorem HD(a b:Int):dQ .NotEq (.int a) (.int b)=!((not (decide (a=b)))):=rfl
theorem Vg(a b:Int):dQ .Lt (.int a) (.int b)=!(decide (a<b)):=rfl
theorem Vh(a b:Int):dQ .LtE (.int a) (.int b)=!(decide (a<=b)):=rfl
theorem Vi(a b:Int):dQ .GtE (.int a) (.int b)=!(decide (a ≥ b)):=rfl
theorem NT(a b:Int):lA .Add (.int a) (.int b)=!(.dat (.int (a+b))):=rfl
theorem NX(a b:Int):lA .Sub (.int a) (.int b)=!(.dat (.int (a - b))):=rfl
theorem ix_t(l:List D)(i:Int):Cp (.tup l) (.int i)=L2.iS l i:=rfl
theorem ix_l(l:List D)(i:Int):Cp (.lst l) (.int i)=L2.iS l i:=rfl
theorem ix_f(l:List D)(i:Int):Cp (.fix l) (.int i)=L2.iS l i:=rfl
theorem sA{α:Type}(l:List α)(i:Nat)(h:i<l.length):L2.iS l (i:Int)=some l[i]:=by unfold L2.iS L2.Ca;simp[h]
theorem HF(l: ~~~0)(i:Nat)(h:i<l.length):L2.iS (l.map D.int) (i:Int)=!(.int l[i]):=by
 rw[sA _ _ (by simpa using h)]
 simp
theorem is_tup(l:List D):jD (wk (.tup l)) "tuple"=true:=rfl
theorem Vj(i:Int):jD (wk (.int i)) "int"=true:=rfl
theorem HJ(i:Int):jD (wk (.int i)) "bool"=false:=rfl
theorem HN(m:Nat):iC 0 m=((List.range m).map λ(k:Nat)=>(k:Int)).map .int:=by simp[iC]
theorem aF(m:Nat)(h:m<=1000):m<=lim:=oI h ⋯
theorem eE(i:Int)(h:0<=i/\i<=1000):GK i=true:=by unfold GK;simp only[gL];lia
section
theorem cW(h:fx.np=1):dZ rn fx k [.dat d] g1=(cB rn k fx [d]).map λr=>(r,g1):=ki (ds:=[d]) h.symm
theorem dH(h:fx.np=2):dZ rn fx k [.dat d,.dat e] g1=(cB rn k fx [d,e]).map λr=>(r,g1):=ki (ds:=[d,e]) h.symm
theorem lJ(h:fx.np=3):dZ rn fx k [.dat d,.dat e,.dat f] g1=(cB rn k fx [d,e,f]).map λr=>(r,g1):=ki (ds:=[d,e,f]) h.symm
end
structure iT(fns:List Fx)(rn:Nat->Rn):Prop where
 e:∀(n:Nat) (bor:List Nat) (k:Nat) (x:Ex) (g:G),(rn (n+1)).e bor k x g=aX (rn n) bor k fns x g
 t:∀(n:Nat) (bor:List Nat) (k:Nat) (x:Ex) (g:G),(rn (n+1)).t bor k x g=stepT (rn n) bor k x g
 b:∀(n:Nat) (bor:List Nat) (k:Nat) (x:List Sm) (g:G),(rn (n+1)).b bor k x g=d7 (rn n) bor k x g
 x:∀(n:Nat) (bor:List Nat) (k:Nat) (x:Ex) (g:G),(rn (n+1)).x bor k x g=uT (rn n) bor k fns x g
 xt:∀(n:Nat) (bor:List Nat) (k:Nat) (x:Ex) (g:G),(rn (n+1)).xt bor k x g=rW (rn n) bor k x g
 xb:∀(n:Nat) (bor:List Nat) (k:Nat) (x:List Sm) (g:G),(rn (n+1)).xb bor k x g=iH (rn n) bor k x g
theorem NZ(fns:List Fx):iT fns (run fns):=#[λ_ _ _ _ _=>rfl,λ_ _ _ _ _=>rfl,λ_ _ _ _ _=>rfl,λ_ _ _ _ _=>rfl,λ_ _ _ _ _=>rfl,λ_ _ _ _ _=>rfl]
def PB(rn:Rn)(k:Nat)(fx:Fx)(ds:List D):Option Nat:=match rn.xb [] k fx.body (cO fx.n (Pz ds))with
 |!(ci,_)=>!ci
 |none=>none
theorem BL(hl:ds.length=fx.np):uS rn fx k (ds.map .dat) g1=(PB rn k fx ds).map λr=>(r,g1):=by
 unfold uS PB;rw[vg,vj,yV];simp only[dE,hl,List.map_nil];cases rn.xb [] k fx.body (cO fx.n (ds.map .dat))with
 |none=>rfl
 |some p=>rfl
section
theorem N1(h:fx.np=1):uS rn fx k [.dat d] g1=(PB rn k fx [d]).map λr=>(r,g1):=BL (ds:=[d]) h.symm
end
abbrev evZ:=And.intro @is_tup (And.intro @Vj (And.intro @HJ (And.intro @Hw (And.intro @nO (And.intro @BJ (And.intro @BK (And.intro @xx (And.intro @xA (And.intro @Vc (And.intro @Hx (And.intro @Hy (And.intro @Vd (And.intro @Ve (And.intro @Hz (And.intro @HB (And.intro @Vf (And.intro @HD (And.intro @Vg (And.intro @Vh (And.intro @Vi (And.intro @NT (And.intro @NX (And.intro @ix_t (And.intro @ix_l @ix_f))))))))))))))))))))))))
abbrev unfZ{fns rn}(U:iT fns rn):=And.intro U.e (And.intro U.t (And.intro U.b (And.intro U.x (And.intro U.xt U.xb))))
end Ev
set_option hygiene false in
local macro_rules | `(tactic|simp! [$u:term,$ls,*])=>`(tactic|simp[-List.map_map,-List.map_cons,-List.map_nil,Ev.unfZ $u,Ev.evZ,Ev.uT,Ev.rW,Ev.m9,Ev.iH,Ev.xArgs,Ev.xW,Ev.isW,Ev.d7,Ev.aY,Ev.aX,Ev.stepT,Ev.argsR,Ev.m8,Ev.gP,Ev.toD,Ev.norm,Ev.pk,Ev.qW,Ev.cO,Ev.bX,Ev.Pz,Ev.GD,Ev.Y4,Ev.uR,Ev.GF,Ev.Ua,Ev.Kv,$ls,*])
set_option hygiene false in
local macro_rules | `(~~~$x)=>`(Ev.D.tup (List.map Ev.D.int $x))
set_option hygiene false in
local macro_rules|`(∅)=>`((λx=>~~~x))
set_option hygiene false in
local macro_rules|`(~~~5)=>`(List (List Int))
local macro_rules|`(~~~0)=>`(List Int)
local macro_rules|`(~~~3)=>`(("__debug__":Str))
namespace Ev
noncomputable def cS:Fx:=#[2,4,[(.ite (.ix ⇑0 ↥1) [(.set 2 (.bin .Mod (.ix ⇑0 ↥0) ⇑1)),(.item 0 ↥0 (.bin .FloorDiv (.ix ⇑0 ↥0) ⇑1)),(.ret ⇑2)] []),(.item 0 ↥0 (.bin .Mod (.bin .Add (.bin .Mult (.ix ⇑0 ↥0) ↥48271) ↥29) ↥2147483647)),(.set 3 (.bin .Mod (.bin .Add (.bin .Add (.bin .Mult (.ix ⇑0 ↥0) (.ix ⇑0 ↥0)) (.bin .Mult ↥39373 (.ix ⇑0 ↥0))) ↥7) ↥2147483629)),(.set 3 (.bin .Mod (.bin .Add (.bin .Mult ⇑3 ⇑3) (.bin .Mult ↥16807 ⇑3)) ↥2147483587)),(.ret (.bin .Mod (.bin .FloorDiv ⇑3 ↥8) ⇑1))]]
noncomputable def kX:Fx:=#[2,2,[(.ite (.cmp .Lt ⇑1 (.blt .len [⇑0])) [(.ret (.ix ⇑0 ⇑1))] []),(.ret ↥0)]]
noncomputable def iO(ci:Nat):Fx:=#[2,3,[(.set 2 (.call ci [⇑0,⇑1])),(.ite (.cmp .GtE ⇑2 (.bin .Pow ↥10 ↥18)) [(.ret (.lst [(.bin .Sub ⇑2 (.bin .Pow ↥10 ↥18)),(.val (.bl true))]))] []),(.ret (.lst [(.bin .Mod ⇑2 ↥2147483647),(.val (.bl false))]))]]
def Tn(m:Nat)(t: ~~~0):Prop:=gW t=(List.range m).map λ(k:Nat)=>(k:Int)
theorem Tn.mem(h:Tn m t):x∈t ↔ 0<=x/\x<m:=by
 rw[<- (dh t).mem_iff,h,i9];constructor
 . rintro⟨k,hk,rfl⟩;have:=w8.mp hk;lia
 . rintro⟨h1,h2⟩;exact#[x.toNat,w8.mpr ⋯,by lia]
noncomputable def gt(t: ~~~0)(i:Int):Int:=t.getD i.toNat 0
noncomputable def nums(m:Nat): ~~~0:=(List.range m).map λ(k:Nat)=>(k:Int)
theorem fU:x∈nums m ↔ 0<=x/\x<m:=by
 unfold nums;rw[i9];constructor
 . rintro⟨k,hk,rfl⟩;have:=w8.mp hk;lia
 . rintro⟨h1,h2⟩;exact#[x.toNat,w8.mpr ⋯,by lia]
theorem cg(m:Nat):(nums m).length=m:=by simp[nums]
theorem bH{rn:Rn}{bor:List Nat}{k:Nat}{st:Sm}{rest:List Sm}{g g1:G}(h:aY rn bor k st g=!(.nx,g1)):d7 rn bor k (st::rest) g=d7 rn bor k rest g1:=by
 conv=>lhs;unfold d7
 rw[h]
noncomputable abbrev St(s:Int)(fl:Bool):Slot:=.own [.int s,.bl fl]
theorem sC(a b:Int)(h:0<b):lA .Mod (.int a) (.int b)=!(.dat (.int (a % b))):=by simp[lA,rT,h]
theorem y9(a b:Int)(h:0<b/\b<18446744073709551616):lA .FloorDiv (.int a) (.int b)=!(.dat (.int (a / b))):=by simp[lA,rT,h]
theorem N2(a b:Int)(h:0<b/\b<1073741824):lA .FloorDiv (.int a) (.int b)=!(.dat (.int (a / b))):=y9 a b ⋯
theorem jG(a b:Int)(h:(-(2 ^ 64)<a/\a<2 ^ 64)\/(-(2 ^ 64)<b/\b<2 ^ 64)):lA .Mult (.int a) (.int b)=!(.dat (.int (a * b))):=by
 have:Ma a b=true:=by unfold Ma;simp only[Cf,gL,t5];exact h
 simp[lA,Mf,this]
section
variable{ti mi:Nat}(U:iT fns rn)(hT:fns[ti]?=!cS)
include U
theorem Vk(s:Int)(fl:Bool)(m:Int)(hm:0<m/\m<18446744073709551616):∃r s' s2 s3,0<=r/\r<m/\(rn (n+20)).b [0] k cS.body [St s fl,‹m›,.no,.no]=!(.rt ‹r›,[St s' fl,‹m›,s2,s3]):=by
 have i0:L2.iS [D.int s,D.bl fl] 0=!(.int s):=rfl;have i1:L2.iS [D.int s,D.bl fl] 1=!(.bl fl):=rfl;have x0':L2.Ca 2 0=!0:=rfl;cases fl with
 |true=>refine#[s % m,s / m,.dat (.int (s % m)),.no,Int.emod_nonneg _ ⋯,Int.emod_lt_of_pos _ hm.1,?_];unfold cS;simp! [U,i0,i1,x0',sC _ _ hm.1,y9 _ _ hm]
 |false=>generalize hs1:(s * 48271+29) % 2147483647=s1;have j0:L2.iS [D.int s1,D.bl false] 0=!(.int s1):=rfl;generalize hs2:(s1 * s1+39373 * s1+7) % 2147483629=s2;generalize vL:(s2 * s2+16807 * s2) % 2147483587=s3;refine#[s3 / 8 % m,s1,.no,‹s3›,Int.emod_nonneg _ ⋯,Int.emod_lt_of_pos _ hm.1,?_];unfold cS;simp! [U,i0,i1,x0',sC,jG s 48271 (.inr ⋯),hs1,j0,jG s1 s1 (.inl ⋯),jG 39373 s1 (.inl ⋯),hs2,jG s2 s2 (.inl ⋯),jG 16807 s2 (.inl ⋯),vL,N2 _ _ (show (0:Int)<8/\(8:Int)<1073741824 by decide),hm.1]
theorem HQ{i:Nat}{s:Int}{fl:Bool}{m:Int}(hi:g[i]?=!(St s fl))(hm:0<m/\m<18446744073709551616):∃r s',0<=r/\r<m/\dZ (rn (n+20)) cS k [.var i,‹m›] g=!(‹r›,g.set i (St s' fl)):=by obtain⟨r,s',s2,s3,h1,h2,h⟩:=Vk U s fl m hm;refine#[r,s',h1,h2,?_];have hp:cO cS.n [St s fl,‹m›]=[St s fl,‹m›,.no,.no]:=rfl;unfold dZ;simp only[vars,cL,hi,List.map_cons,List.map_nil];rw[hp,h];rfl
theorem lK{i:Nat}{s:Int}{fl:Bool}{m:Int}(hi:g[i]?=!(St s fl))(hm:0<m/\m<1000):∃r s',0<=r/\r<m/\dZ (rn (n+20)) cS k [.var i,‹m›] g=!(‹r›,g.set i (St s' fl)):=HQ U hi ⋯
end
section
variable{ci:Nat}(U:iT fns rn)(hC:fns[ci]?=!kX)
include U hC
omit U hC in
theorem qJ:lA .Pow (.int 10) (.int 18)=!(.dat (.int (10 ^ 18))):=by rfl
theorem HR(ns: ~~~0)(hl:ns.length<=1000)(j:Nat):∃(s:Int) (fl:Bool),cB (rn (n+40)) (k+1) (iO ci) [.fix (ns.map .int),.int j]=!(.new [.int s,.bl fl]):=by
 obtain⟨v,q⟩:∃v:Int,∀n,cB (rn (n+20)) k kX [.fix (ns.map .int),.int j]=!‹v›:=by
  by_cases h:j<ns.length
  .
   refine#[ns[j],λn=>?_]
   have h':(j:Int)<ns.length:=by lia
   have:=HF ns j h;unfold cB kX;simp! [U,vq,h',this]
  .
   refine#[0,λn=>?_]
   have h' : ¬ (j:Int)<ns.length:=by lia
   unfold cB kX;simp! [U,vq,h']
 by_cases hv:(1000000000000000000:Int)<=v
 . refine#[v - 1000000000000000000,true,?_];unfold cB iO;simp! [U,hC,dH (fx:=kX) rfl,q,qJ,hv,aF 2 ⋯]
 . refine#[v % 2147483647,false,?_];unfold cB iO;simp! [U,hC,dH (fx:=kX) rfl,q,qJ,hv,aF 2 ⋯,sC]
end
noncomputable def iP:Fx:=#[1,1,[(.ret (.and [(.Cj ⇑0 "int"),(.not (.Cj ⇑0 "bool"))]))]]
noncomputable def gH(w:Nat):Fx:=#[3,3,[(.ret (.and [(.call w [⇑0]),(.chain ⇑1 [.LtE,.LtE] [⇑0,⇑2])]))]]
noncomputable def W(m:Nat)(aq: ~~~5):D:=.tup [.int m,.tup (aq.map ∅)]
structure Wb(m:Nat)(aq: ~~~5):Prop where
 tie:∀x∈aq,∃a b:Int,x=[a,b]/\0<=a/\a<b/\b<m
 ris:aq.Pairwise λx y=>HT.lexLt x y=true
 len:aq.length<=15
theorem Wb.two{m:Nat}{aq: ~~~5}(h:Wb m aq):(aq.map ∅)=aq.map λx=>.tup [.int (gt x 0),.int (gt x 1)]:=AL λx hx=>by
 obtain⟨a,b,rfl,_⟩:=h.tie x hx;rfl
def tm(t: ~~~0)(x: ~~~0): ~~~0:=if gt t (gt x 0)<gt t (gt x 1)then [gt t (gt x 0),gt t (gt x 1)]else [gt t (gt x 1),gt t (gt x 0)]
def tw(t: ~~~0)(aq: ~~~5): ~~~5:=dF rA (aq.map (tm t))
theorem dJ(a b:Int):gt [a,b] 0=a/\gt [a,b] 1=b:=#[rfl,rfl]
def Pr(m:Nat)(x: ~~~0):Prop:=∃a b:Int,x=[a,b]/\0<=a/\a<b/\b<m
theorem Wb.nodup(h:Wb m aq):aq.Nodup:=by exact h.ris.imp λ{x y} q e=>by rw[e,jQ]at q;cases q
noncomputable def Vl(i j:Int): ~~~0:=if i<j then [i,j]else [j,i]
theorem nQ{i j:Int}(h:i≠j):Vl i j=Vl j i:=by unfold Vl;split <;> split <;> first |rfl |lia
theorem sD{i j:Int}(h:i<j):Vl i j=[i,j]:=tJ h
def Gp(i:Int)(x: ~~~0):Option Int:=if gt x 0=i then some (gt x 1)else if gt x 1=i then some (gt x 0)else none
def nb(i:Int)(aq: ~~~5): ~~~0:=aq.filterMap (Gp i)
noncomputable def has(i:Int)(x: ~~~0):Bool:=decide (gt x 0=i)||decide (gt x 1=i)
theorem Vm{m:Nat}{aq: ~~~5}(h:Wb m aq)(i y:Int):y∈nb i aq ↔ Vl i y∈aq:=by
 unfold nb;rw[C7];constructor
 .
  rintro⟨x,hx,e⟩;obtain⟨a,b,rfl,h1,h2,h3⟩:=h.tie x hx;unfold Gp at e;rw[(dJ a b).1,(dJ a b).2]at e;split at e
  . rename_i q;cases e;subst q;rw[sD h2];exact hx
  .
   split at e
   . rename_i q;cases e;subst q;rw[nQ ⋯,sD h2];exact hx
   . cases e
 .
  intro hx;refine#[_,hx,?_];unfold Vl at hx ⊢
  unfold Gp;split
  . rw[(dJ i y).1,(dJ i y).2,tJ rfl]
  . rename_i q;rw[sK q]at hx;obtain⟨a,b,e,h1,h2,h3⟩:=h.tie _ hx;injection e with e1 e2;injection e2 with e2 _;rw[(dJ y i).1,(dJ y i).2,sK ⋯,tJ rfl]
def ext(m:Nat)(l: ~~~5): ~~~5:=l.flatMap λr=>((nums m).filter λx=>(not (decide (x∈r)))).map λx=>r++[x]
def za(m:Nat):Nat->List (~~~0)
 | 0=>[[]]
 |s+1=>ext m (za m s)
def turnsOf(m:Nat): ~~~5:=za m m
noncomputable def ZN(i ci:Nat):Fx:=#[3,3,[(.ite (.not (.call i [⇑0,⇑1,⇑2])) [(.raise ci (.GC [(false,(.val (.str (PySem.Str.ofString "no whole number from ")))),(true,⇑1),(false,(.val (.str (PySem.Str.ofString " to ")))),(true,⇑2)]))] [])]]
noncomputable def dz(i:Nat):Fx:=#[2,2,[(.ite (.Gy ⇑1 ["tuple", "list"]) [(.ite (.or [(.cmp .NotEq (.Cj ⇑0 "tuple") (.Cj ⇑1 "tuple")),(.cmp .NotEq (.Cj ⇑0 "list") (.Cj ⇑1 "list"))]) [(.ret (.val (.bl false)))] []),(.ite (.cmp .NotEq (.blt .len [⇑0]) (.blt .len [⇑1])) [(.ret (.val (.bl false)))] []),(.ret (.blt .all [(.comp 2 3 (.tp [3,4]) (.zip ⇑0 ⇑1) none (.call i [⇑3,⇑4]))]))] []),(.ret (.and [(.cmp .Eq ⇑0 ⇑1),(.cmp .Eq (.Cj ⇑0 "bool") (.Cj ⇑1 "bool"))]))]]
theorem N3{l:List D}{r:Int}(h:0<=r/\r<l.length):∃x∈l,L2.iS l r=!x:=by
 obtain⟨j,rfl⟩:∃j:Nat,r=j:=#[r.toNat,by lia]
 have hj:j<l.length:=by lia
 exact#[l[j],BA hj,sA l j hj]
noncomputable def Sd:Nat->D->Prop
 |_,.int _=>True
 |_,.bl _=>True
 |_,.str _=>True
 |_,.non=>True
 |c+1,.tup l=>l.length<=1000/\∀x∈l,Sd c x
 |c+1,.lst l=>l.length<=1000/\∀x∈l,Sd c x
 |_,_=>False
theorem vt:∀l:List D,rE l l=l.map λa=>D.tup [a,a]
 | []=>rfl
 |a::l=>by
  show D.tup [a,a]::rE l l=_;rw[vt l];rfl
section
variable(U:iT fns rn)
include U
theorem vv(hS:fns[i]?=!(dz i))(ih:∀n k d,Sd c d->cB (rn (n+20 * c+20)) (k+c) (dz i) [d,d]=!(.dat (.bl true)))(hw:∀n k,g7 (rn (n+2)) [] k true (.zip ⇑0 ⇑1) [.dat d,.dat d]=!(rE l l,[.dat d,.dat d]))(hl:l.length<=1000)(h:∀x∈l,Sd c x):∀n k,cR (rn (n+20 * c+23)) [] (k+c+1) 2 3 (.tp [3,4]) (.zip ⇑0 ⇑1) none (.call i [⇑3,⇑4]) [.dat d,.dat d]=!((l.map λ_=>true).map .bl,[.dat d,.dat d]):=λn k=>by
 rw[List.map_map];exact Vb l id id _ (by rw[hw (n+20 * c+21)];rw[vt];rfl) rfl ⋯ ⋯ ⋯ ⋯ ⋯ ⋯ ⋯ (aF _ hl) λa ha G' hG=>by
  have h1:=hG.2.1;have h2:=hG.2.2;have q:=ih (n+2) k a (h a ha);rw[show n+2+20 * c+20=n+20 * c+22 by lia]at q
  simp! [U,h1,h2,hS,dH (fx:=dz i) rfl,q]
theorem eG(d:D)(h:Sd 0 d):cB (rn (n+20)) k (dz i) [d,d]=!(.dat (.bl true)):=by
 cases d with
 |int j=>unfold cB dz;simp! [U,wk,jD,dQ,jC,cz,iA,dep]
 |bl j=>unfold cB dz;simp! [U,wk,jD,dQ,jC,cz,iA,dep]
 |str j=>unfold cB dz;simp! [U,wk,jD,dQ,jC,cz,iA,dep]
 |non=>unfold cB dz;simp! [U,wk,jD,dQ,jC,cz,iA,dep]
 |_=>exact h.elim
theorem zb(hS:fns[i]?=!(dz i)):∀(c n k:Nat) (d:D),Sd c d->cB (rn (n+20 * c+20)) (k+c) (dz i) [d,d]=!(.dat (.bl true))
 | 0,n,k,d,h=>eG U d h
 |c+1,n,k,d,h=>by
  have ih:=zb hS c;rw[show n+20 * (c+1)+20=n+20 * c+40 by lia,show k+(c+1)=k+c+1 by lia]
  cases d with
  |int j=>exact eG U _ trivial
  |bl j=>exact eG U _ trivial
  |str j=>exact eG U _ trivial
  |non=>exact eG U _ trivial
  |tup l=>
   have w:=vv U hS ih (d:=.tup l) (λn k=>by simp! [U,g7,bF]) h.1 h.2
   have w':=w (n+13) k;rw[show n+13+20 * c+23=n+20 * c+36 by lia]at w'
   unfold cB dz;simp! [U,wk,jD,dQ,jC,cz,iA,dep,w']
  |lst l=>
   have w:=vv U hS ih (d:=.lst l) (λn k=>by simp! [U,g7,bF]) h.1 h.2
   have w':=w (n+13) k;rw[show n+13+20 * c+23=n+20 * c+36 by lia]at w'
   unfold cB dz;simp! [U,wk,jD,dQ,jC,cz,iA,dep,w']
  |_=>exact h.elim
end
def Rch(N:Int->~~~0)(s y:Int):Prop:=∀P:Int->Prop,P s->(∀x z,P x->z∈N x->P z)->P y
structure Nb(m:Nat)(N:Int->~~~0):Prop where
 sym:∀x y,y∈N x->x∈N y
 BX:∀x y,y∈N x->0<=y/\y<m
 nd:∀x,(N x).Nodup
structure Gr(m:Nat)(N:Int->~~~0)(s:Int)(r: ~~~0):Prop where
 nd:r.Nodup
 bg:s∈r
 BX:∀x∈r,0<=x/\x<m
 rc:∀y∈r,Rch N s y
theorem xB{m:Nat}{r: ~~~0}(h1:r.Nodup)(h2:∀x∈r,0<=x/\x<m):r.length<=m:=by
 have:=h1.length_le_of_subset λx hx=>fU.mpr (h2 x hx)
 rwa [cg]at this
section
variable{m:Nat}{N:Int->~~~0}(hN:Nb m N){s y:Int}
include hN
theorem Vn(hs:0<=s/\s<m):Gr m N s [s]:=#[lL.mpr #[nN,AA],fA.mpr rfl,λx hx=>by rw[fA.mp hx];exact hs,λx hx P p0 _=>by rw[fA.mp hx];exact p0]
end
def xD(ks: ~~~0)(k:Int): ~~~0:=if k∈ks then ks else gW (k::ks)
def Vo(N:Int->~~~0)(ring done: ~~~0): ~~~0:=((ring.flatMap N).filter λo=>(not (decide (o∈done)))).foldl xD []
theorem sE:∀(l ks: ~~~0),ks.Nodup->(l.foldl xD ks).Nodup/\∀x,x∈l.foldl xD ks ↔ x∈ks\/x∈l
 | [],ks,h=>#[h,λx=>by simp]
 |a::l,ks,h=>by
  have h1:(xD ks a).Nodup/\∀x,x∈xD ks a ↔ x∈ks\/x=a:=by
   unfold xD;split
   . rename_i ha;exact#[h,λx=>#[.inl,λq=>q.elim id λe=>e▸ha]]
   . rename_i ha;have p:=dh (a::ks);exact#[p.nodup_iff.mpr (lL.mpr #[ha,h]),λx=>by rw[p.mem_iff,dA,or_comm]]
  obtain⟨q1,q2⟩:=sE l (xD ks a) h1.1;rw[List.foldl_cons];refine#[q1,λx=>?_]
  rw[q2,h1.2,dA,or_assoc]
structure Bf(m:Nat)(N:Int->~~~0)(s:Int)(done ring: ~~~0):Prop where
 gr:Gr m N s (done++ring)
 cl:∀x z,x∈done->z∈N x->z∈done++ring
section
variable{m:Nat}{N:Int->~~~0}(hN:Nb m N){s:Int}{done ring: ~~~0}
include hN
theorem Bf.next(h:Bf m N s done ring):Bf m N s (done++ring) (Vo N ring (done++ring)):=by
 obtain⟨q1,q2⟩:=sE ((ring.flatMap N).filter λo=>(not (decide (o∈done++ring)))) [] AA
 have hm:∀x,x∈Vo N ring (done++ring) ↔ (∃y∈ring,x∈N y)/\x∉done++ring:=λx=>by
  unfold Vo;rw[q2,mI];simp
 have g:=h.gr;refine#[#[AY.mpr #[g.nd,q1,λa ha b hb e=>((hm b).mp hb).2 (e▸ha)],mP _ g.bg,λx hx=>?_,λy hy=>?_],λx z hx hz=>?_]
 .
  rcases kA.mp hx with hx |hx
  . exact g.BX x hx
  . obtain⟨⟨y,_,hy⟩,_⟩:=(hm x).mp hx;exact hN.BX y x hy
 .
  rcases kA.mp hy with hy |hy
  . exact g.rc y hy
  . obtain⟨⟨x,hx,hxy⟩,_⟩:=(hm y).mp hy;exact λP p0 pl=>pl x y (g.rc x (hV _ hx) P p0 pl) hxy
 .
  by_cases hd:z∈done++ring
  . exact mP _ hd
  .
   rcases kA.mp hx with hx |hx
   . exact mP _ (h.cl x z hx hz)
   . exact hV _ ((hm z).mpr #[#[x,hx,hz],hd])
theorem Bf.one(hs:0<=s/\s<m):Bf m N s [] [s]:=#[Vn hN hs,λx z hx=>nomatch hx]
omit hN in
theorem Bf.len(h:Bf m N s done ring):done.length+ring.length<=m:=by
 have:=xB h.gr.nd h.gr.BX
 rwa [eQ]at this
end
theorem xE{m:Nat}{x: ~~~0}(h:Pr m x){i y:Int}(e:Gp i x=!y):x=Vl i y/\0<=y/\y<m:=by
 obtain⟨a,b,rfl,h1,h2,h3⟩:=h;unfold Gp at e;rw[(dJ a b).1,(dJ a b).2]at e;split at e
 . rename_i q;cases e;subst q;exact#[(sD h2).symm,by lia]
 .
  split at e
  . rename_i q;cases e;subst q;exact#[by rw[nQ ⋯,sD h2],by lia]
  . cases e
theorem HS{m:Nat}{aq: ~~~5}(h:Wb m aq):Nb m λi=>nb i aq:=by
 refine#[λx y hy=>?_,λx y hy=>?_,λx=>?_]
 .
  rw[Vm h]at hy ⊢
  by_cases e:x=y
  . subst e;exact hy
  . rw[nQ λz=>e z.symm];exact hy
 . obtain⟨p,hp,e⟩:=C7.mp hy;exact (xE (h.tie p hp) e).2
 .
  refine List.pairwise_filterMap.mpr (h.nodup.imp_of_mem λ{a b} ha hb hab y e z f q=>hab ?_)
  subst q;rw[(xE (h.tie a ha) e).1,(xE (h.tie b hb) f).1]
open L2 (lC)
def rgs(N:Int->~~~0)(s:Int):Nat->~~~0×List Int
 | 0=>([],[s])
 |i+1=>((rgs N s i).1++(rgs N s i).2,Vo N (rgs N s i).2 ((rgs N s i).1++(rgs N s i).2))
def rc(N:Int->~~~0)(m:Nat)(s:Int):Nat:=((List.range (m+1)).find? λi=>(rgs N s i).2.isEmpty).getD 0
section
variable{m:Nat}{N:Int->~~~0}(hN:Nb m N){s:Int}
theorem zc{i:Nat}(h:(rgs N s i).2=[]):∀j,(rgs N s (i+j)).2=[]
 | 0=>h
 |j+1=>by
  show Vo N (rgs N s (i+j)).2 _=[];rw[zc h j];rfl
theorem fV{x:Int}:∀{i:Nat},x∈(rgs N s i).1 ↔ ∃j,j<i/\x∈(rgs N s j).2
 | 0=>#[λh=>(nomatch h),λ#[_,h,_]=>absurd h (BQ _)]
 |i+1=>by
  show x∈(rgs N s i).1++(rgs N s i).2 ↔ _;rw[kA,fV (i:=i)];constructor
  .
   rintro (⟨j,h1,h2⟩ |h)
   . exact#[j,by lia,h2]
   . exact#[i,by lia,h]
  .
   rintro⟨j,h1,h2⟩;by_cases e:j=i
   . exact .inr (e▸h2)
   . exact .inl #[j,by lia,h2]
theorem ZP{c:Nat}(ne:∀i,i<c->(rgs N s i).2≠[])(nil:(rgs N s c).2=[])(hc:c<=m):rc N m s=c:=by
 unfold rc;rw[List.find?_range_eq_some.mpr #[by rw[nil];rfl,by rw[w8];lia,λj hj=>by have:=ne j hj;cases h:(rgs N s j).2 with |nil=>exact absurd h this |cons _ _=>rfl]]
 rfl
theorem vA{i:Nat}{x:Int}:x∈(rgs N s (i+1)).2 ↔ (∃y∈(rgs N s i).2,x∈N y)/\x∉(rgs N s (i+1)).1:=by show x∈Vo N (rgs N s i).2 ((rgs N s i).1++(rgs N s i).2) ↔ _;unfold Vo;rw[(sE _ [] AA).2,mI];show _ ↔ _/\x∉(rgs N s i).1++(rgs N s i).2;simp
include hN
theorem fW(hs:0<=s/\s<m):∀i,Bf m N s (rgs N s i).1 (rgs N s i).2
 | 0=>Bf.one hN hs
 |i+1=>(fW hs i).next hN
theorem HW(hs:0<=s/\s<m){x:Int}{i j:Nat}(h1:x∈(rgs N s i).2)(h2:x∈(rgs N s j).2):i=j:=by
 have key:∀{i j:Nat},i<j->x∈(rgs N s i).2->x∈(rgs N s j).2->False:=λ{i j} h h1 h2=>
  (AY.mp (fW hN hs j).gr.nd).2.2 x (fV.mpr #[i,h,h1]) x h2 rfl
 rcases Nat.lt_trichotomy i j with h |h |h
 . exact (key h h1 h2).elim
 . exact h
 . exact (key h h2 h1).elim
theorem ZQ(hs:0<=s/\s<m):1<=rc N m s/\rc N m s<=m/\(∀i,i<rc N m s->(rgs N s i).2≠[])/\(rgs N s (rc N m s)).2=[]:=by
 have len:∀c,(∀i,i<c->(rgs N s i).2≠[])->c<=(rgs N s c).1.length:=λc=>by
  induction c with
  |zero=>intro _;exact sR _
  |succ c ih=>
   intro h;have h1:=ih λi hi=>h i ⋯
   have h2:=List.length_pos_iff.mpr (h c ⋯);show c+1<=((rgs N s c).1++(rgs N s c).2).length;rw[eQ];lia
 have ex:∃c,c<=m/\(∀i,i<c->(rgs N s i).2≠[])/\(rgs N s c).2=[]:=by
  have main:∀k c,m<c+k->(∀i,i<c->(rgs N s i).2≠[])->c<=m+1->∃c,c<=m/\(∀i,i<c->(rgs N s i).2≠[])/\(rgs N s c).2=[]:=λk=>by
   induction k with
   |zero=>intro c h1 h2 h3;have:=len c h2;have:=(fW hN hs c).len;lia
   |succ k ih=>
    intro c h1 h2 h3;have l1:=len c h2;have l2:=(fW hN hs c).len;by_cases e:(rgs N s c).2=[]
    . exact#[c,by lia,h2,e]
    .
     have l3:=List.length_pos_iff.mpr e;exact ih (c+1) ⋯ (λi hi=>by
      by_cases q:i=c
      . exact q▸e
      .
       exact h2 i ⋯) ⋯
  exact main (m+1) 0 ⋯ (λi h=>absurd h (BQ _)) ⋯
 obtain⟨c,h1,h2,h3⟩:=ex;rw[ZP h2 h3 h1];refine#[?_,h1,h2,h3];cases c with
 |zero=>cases h3
 |succ c=>lia
end
theorem sF{x v:Int}:∀{mp:List (Int×Int)},(mp.map (·.1)).Nodup->(x,v)∈mp->lC x mp=!v
 |p::mp,hd,h=>by
  obtain⟨h1,h2⟩:=lL.mp hd;unfold L2.lC;rcases dA.mp h with e |h
  .
   rw[tJ (by rw[<- e])]
   rw[<- e]
  .
   rw[sK λe=>h1 (i9.mpr #[_,h,e.symm])]
   exact sF h2 h
theorem nR{x:Int}:∀{mp:List (Int×Int)},lC x mp=none ↔ x∉mp.map (·.1)
 | []=>#[λ_ h=>(nomatch h),λ_=>rfl]
 |p::mp=>by
  unfold L2.lC;rw[List.map_cons,dA,not_or];by_cases e:p.1=x
  . rw[tJ e];exact#[λh=>(nomatch h),λh=>absurd e.symm h.1]
  . rw[sK e,nR (mp:=mp)];exact#[λh=>#[λq=>e q.symm,h],λh=>h.2]
structure Wm(m:Nat)(N:Int->~~~0)(s:Int)(t:Nat)(mp:List (Int×Int)):Prop where
 nd:(mp.map (·.1)).Nodup
 lo:∀x v,(x,v)∈mp->∃i:Nat,i<=t+1/\v=i/\x∈(rgs N s i).2
 hi:∀i:Nat,i<=t->∀x∈(rgs N s i).2,(x,(i:Int))∈mp
section
variable{m:Nat}{N:Int->~~~0}(hN:Nb m N){s:Int}(hs:0<=s/\s<m){t:Nat}{mp:List (Int×Int)}
include hN hs
theorem Wm.len(h:Wm m N s t mp):mp.length<=m:=by
 have:=xB (m:=m) h.nd λx hx=>by
  obtain⟨p,hp,rfl⟩:=i9.mp hx;obtain⟨i,_,_,h3⟩:=h.lo p.1 p.2 hp;exact (fW hN hs i).gr.BX _ (hV _ h3)
 rwa [dE]at this
theorem Wm.put(h:Wm m N s t mp){y x:Int}{i:Nat}(hi:i<=t)(hy:y∈(rgs N s i).2)(hx:x∈N y):Wm m N s t (m6 mp x i)/\x∈(m6 mp x i).map (·.1)/\∀z∈mp.map (·.1),z∈(m6 mp x i).map (·.1):=by
 unfold m6;cases e:lC x mp with
 |some v=>
  refine show Wm m N s t mp/\x∈mp.map (·.1)/\∀z∈mp.map (·.1),z∈mp.map (·.1)from#[h,?_,λ_ hz=>hz]
  refine CO λq=>?_
  rw[nR.mpr q]at e;cases e
 |none=>
  have q:=nR.mp e;have nx:∀j,j<=t->x∉(rgs N s j).2:=λj hj hx=>q (i9.mpr #[_,h.hi j hj x hx,rfl])
  have e1:i=t:=by
   refine CO λne=>?_
   have hd:y∈(rgs N s (i+1)).1:=fV.mpr #[i,t9 i,hy];rcases kA.mp ((fW hN hs (i+1)).cl y x hd hx)with w |w
   . obtain⟨j,w1,w2⟩:=fV.mp w;exact nx j ⋯ w2
   . exact nx (i+1) ⋯ w
  subst e1;have hr:x∈(rgs N s (i+1)).2:=vA.mpr #[#[y,hy,hx],λw=>by
   obtain⟨j,w1,w2⟩:=fV.mp w;exact nx j ⋯ w2]
  show Wm m N s i (mp++[(x,(i:Int)+1)])/\x∈(mp++[(x,(i:Int)+1)]).map (·.1)/\∀z∈mp.map (·.1),z∈(mp++[(x,(i:Int)+1)]).map (·.1);rw[AW];refine#[#[?_,λz v hz=>?_,λj hj z hz=>mP _ (h.hi j hj z hz)],hV _ (fA.mpr rfl),λz hz=>mP _ hz]
  . rw[AW];exact AY.mpr #[h.nd,lL.mpr #[nN,AA],λa ha b hb e=>q (by have e2:a=x:=e.trans (fA.mp hb);rw[<- e2];exact ha)]
  .
   rcases kA.mp hz with hz |hz
   . exact h.lo z v hz
   . cases fA.mp hz;exact#[i+1,eA _,rfl,hr]
theorem vB(hm:m<1000){y:Int}{i:Nat}(hi:i<=t)(hy:y∈(rgs N s i).2):∀(ns: ~~~0) (mp:List (Int×Int)),Wm m N s t mp->(∀x∈ns,x∈N y)->∃sU,kP y ns mp=!sU/\Wm m N s t sU/\(∀z∈mp.map (·.1),z∈sU.map (·.1))/\∀x∈ns,x∈sU.map (·.1)
 | [],mp,h,_=>#[mp,rfl,h,λ_ h=>h,λ_ h=>nomatch h]
 |x::ns,mp,h,hx=>by
  obtain⟨h1,h2,h3⟩:=h.put hN hs hi hy (hx x bP);obtain⟨sU,w1,w2,w3,w4⟩:=vB hm hi hy ns _ h1 λz hz=>hx z (a8 _ hz)
  refine#[sU,?_,w2,λz hz=>w3 z (h3 z hz),λz hz=>?_]
  . unfold kP;rw[sF h.nd (h.hi i hi y hy)];dsimp only;rw[tJ (y8 (h.len hN hs) hm)];exact w1
  .
   rcases dA.mp hz with rfl |hz
   . exact w3 _ h2
   . exact w4 z hz
theorem vC(hm:m<1000){ev:Int->Option (~~~0)}(he:∀y:Int,0<=y/\y<m->ev y=!(N y)):∀(ks: ~~~0) (mp:List (Int×Int)),Wm m N s t mp->(∀y∈ks,∃i,i<=t/\y∈(rgs N s i).2)->∃sU,kQ ev ks mp=!sU/\Wm m N s t sU/\(∀z∈mp.map (·.1),z∈sU.map (·.1))/\∀y∈ks,∀x∈N y,x∈sU.map (·.1)
 | [],mp,h,_=>#[mp,rfl,h,λ_ h=>h,λ_ h=>nomatch h]
 |y::ks,mp,h,hk=>by
  obtain⟨i,hi,hy⟩:=hk y bP;obtain⟨m1,w1,w2,w3,w4⟩:=vB hN hs hm hi hy (N y) mp h λ_ h=>h
  obtain⟨sU,v1,v2,v3,v4⟩:=vC hm he ks m1 w2 λz hz=>hk z (a8 _ hz)
  refine#[sU,?_,v2,λz hz=>v3 z (w3 z hz),λz hz x hx=>?_]
  . unfold kQ;rw[he y ((fW hN hs i).gr.BX y (hV _ hy))];dsimp only;rw[w1];exact v1
  .
   rcases dA.mp hz with rfl |hz
   . exact v3 _ (w4 x hx)
   . exact v4 z hz x hx
structure Wt(N:Int->~~~0)(s:Int)(t:Nat)(mp:List (Int×Int)):Prop where
 nd:(mp.map (·.1)).Nodup
 is:∀x v,(x,v)∈mp ↔ ∃i:Nat,i<=t/\v=i/\x∈(rgs N s i).2
theorem HX(hm:m<1000){ev:Int->Option (~~~0)}(he:∀y:Int,0<=y/\y<m->ev y=!(N y)):∀(n t:Nat) (mp:List (Int×Int)),Wt N s t mp->∃sU,LW ev n mp=!sU/\Wt N s (t+n) sU
 | 0,t,mp,h=>#[mp,rfl,h]
 |n+1,t,mp,h=>by
  have w:Wm m N s t mp:=#[h.nd,λx v hx=>by
   obtain⟨i,h1,h2,h3⟩:=(h.is x v).mp hx;exact#[i,by lia,h2,h3],λi hi x hx=>(h.is x i).mpr #[i,hi,rfl,hx]]
  obtain⟨m1,w1,w2,w3,w4⟩:=vC hN hs hm he (mp.map (·.1)) mp w λy hy=>by
   obtain⟨p,hp,rfl⟩:=i9.mp hy;obtain⟨i,h1,_,h3⟩:=(h.is p.1 p.2).mp hp;exact#[i,h1,h3]
  have h1:Wt N s (t+1) m1:=#[w2.nd,λx v=>#[w2.lo x v,λ#[i,q1,q2,q3]=>by
   by_cases e:i<=t
   . rw[q2];exact w2.hi i e x q3
   .
    have e:i=t+1:=by lia
    subst e;obtain⟨⟨y,y1,y2⟩,_⟩:=vA.mp q3;obtain⟨p,p1,p2⟩:=i9.mp (w4 y (i9.mpr #[_,w.hi t (eA t) y y1,rfl]) x y2);obtain⟨j,j1,j2,j3⟩:=w2.lo p.1 p.2 p1;rw[p2]at j3;have:=HW hN hs j3 q3;subst this;rw[q2,<- j2,<- p2];exact p1]]
  obtain⟨sU,v1,v2⟩:=HX hm he n (t+1) m1 h1;refine#[sU,?_,by rw[show t+(n+1)=t+1+n by lia];exact v2]
  unfold LW;rw[w1];exact v1
omit hN hs in
theorem Wt.one:Wt N s 0 [(s,0)]:=#[lL.mpr #[nN,AA],λx v=>by
 rw[fA];constructor
 . intro h;symm;exact#[0,eA _,rfl,fA.mpr rfl]
 .
  rintro⟨i,h1,h2,h3⟩;have e:i=0:=by lia
  subst e;rw[h2,fA.mp h3];rfl]
theorem Wt.max{n:Nat}(hn:m<=n)(h:Wt N s n mp):∃v vs,mp.map (·.2)=v::vs/\fc v vs=(rc N m s:Int) - 1:=by
 obtain⟨c1,c2,c3,c4⟩:=ZQ hN hs;generalize rc N m s=c at *;have up:∀v∈mp.map (·.2),v<=(c:Int) - 1:=λv hv=>by
  obtain⟨p,hp,rfl⟩:=i9.mp hv;obtain⟨i,h1,h2,h3⟩:=(h.is p.1 p.2).mp hp;have:i<c:=by
   refine CO λq=>?_
   have:=zc c4 (i - c);rw[show c+(i - c)=i by lia]at this
   rw[this]at h3;cases h3
  lia
 have Ww:(c:Int) - 1∈mp.map (·.2):=by obtain⟨x,l,e⟩:=List.exists_cons_of_ne_nil (c3 (c - 1) ⋯);refine i9.mpr #[(x,((c - 1:Nat):Int)),(h.is _ _).mpr #[c - 1,by lia,rfl,by rw[e];exact bP],by show ((c - 1:Nat):Int)=_;lia]
 cases hv:mp.map (·.2)with
 |nil=>rw[hv]at Ww;cases Ww
 |cons v vs=>
  refine#[v,vs,rfl,?_];rw[hv]at up Ww;obtain⟨g1,g2,g3⟩:=rD vs v;have a:fc v vs<=(c:Int) - 1:=by
   rcases g3 with g3 |g3
   . rw[g3];exact up v bP
   . exact up _ (a8 _ g3)
  have b:(c:Int) - 1<=fc v vs:=by
   rcases dA.mp Ww with e |e
   . rw[e];exact g1
   . exact g2 _ e
  lia
end
def Vp(l: ~~~5)(x: ~~~0):Bool:=(l.map ∅).any λd=>cz d (~~~x)
theorem nU:∀{l:List D}{ns: ~~~0},bu l=!ns->l=ns.map .int
 | [],ns,h=>by symm;rfl
 |d::l,ns,h=>by
  cases d with
  |int i=>
   unfold bu at h;cases e:bu l with
   |none=>rw[e]at h;symm
   |some ms=>rw[e]at h;symm;rw[nU e];rfl
  |_=>symm
theorem vD:∀{l:List D}{ts: ~~~5},kM l=!ts->l=ts.map ∅
 | [],ts,h=>by symm;rfl
 |d::l,ts,h=>by
  cases d with
  |tup x=>
   unfold kM at h;split at h
   . rename_i n ns cE e1 e2;symm;rw[vD e2,nU e1];rfl
   . symm
  |_=>symm
noncomputable def BZ: ~~~0->~~~0->Int
 |_,[]=>1
 |b,a::l=>a * (((b++[a]).count a:Nat):Int) * BZ (b++[a]) l
def qq:Fx:=#[2,2,[(.ret (.comp 2 3 (.tp [3,4]) (.ix ⇑0 ↥1) (!(.cmp .In ⇑1 (.tup [⇑3,⇑4]))) (.bin .Sub (.bin .Add ⇑3 ⇑4) ⇑1)))]]
theorem Vq(i a b:Int):dQ .In (.int i) (.tup [.int a,.int b])=!(decide (a=i)||decide (b=i)):=by
 have h:Br (.int i) [.int a,.int b]=true:=by have:=gF [a,b];have:=gG [a,b];simp_all [Br,iA]
 simp only[dQ,bF,h,if_true]
 congr 1
 rw[Do];simp[cz]
section
variable{k n:Nat}{g g1:G}{rn:Nat->Rn}{fns:List Fx}{w wi it ri iw ci mw ro ne:Nat}(U:iT fns rn)
include U
theorem N4(m:Nat)(aq: ~~~5)(h:Wb m aq)(i:Int):cB (rn (n+20)) k qq [W m aq,.int i]=!(.new ((aq.filter (has i)).map λx=>.int (gt x 0+gt x 1 - i))):=by
 have htl:=h.len;have i1:Cp (W m aq) (.int 1)=!(.tup (aq.map ∅)):=rfl
 have w:=λn k=>Hv (rn:=rn (n+12)) (bor:=[]) (k:=k) (g:=[.dat (W m aq),‹i›]) (g1:=[.dat (W m aq),‹i›]) (kk:=3) (nn:=2) (j1:=3) (j2:=4) (it:=.ix ⇑0 ↥1) (c:=!(.cmp .In ⇑1 (.tup [⇑3,⇑4]))) (e:=.bin .Sub (.bin .Add ⇑3 ⇑4) ⇑1) aq (λx=>.int (gt x 0)) (λx=>.int (gt x 1)) (has i) (λx=>.int (gt x 0+gt x 1 - i)) (by simp! [U,g7,i1,<- h.two]) rfl ⋯ ⋯ ⋯ ⋯ ⋯ ⋯ ⋯ (aF _ ⋯)
  (λx _ G' hG=>by
   have h1:G'[1]?=!‹i›:=hG.1 1 ⋯;simp! [U,Bs,h1,hG.2.1,hG.2.2,Vq,aF 2 ⋯];rfl)
  (λx _ _ G' hG=>by
   have h1:G'[1]?=!‹i›:=hG.1 1 ⋯;simp! [U,h1,hG.2.1,hG.2.2])
 unfold cB qq;simp! [U,w]
variable(hW:fns[w]?=!iP)(hWi:fns[wi]?=!(gH w))
include hW hWi
end
noncomputable def bad1:List D:=[.non,.int 0,.tup [],.tup [.int 7,.tup []],.tup [.int 0,.tup []],.tup [.int (-1),.tup []],.tup [.bl true,.tup []],.tup [.int 2,.lst []],.lst [.int 2,.tup []],.tup [.int 2,.tup [.tup [.int 1,.int 0]]],.tup [.int 2,.tup [.tup [.int 0,.int 0]]],.emp []]
noncomputable def bad2:List D:=[.tup [.int 2,.tup [.tup [.int 0,.int 1],.tup [.int 0,.int 1]]],.tup [.int 3,.tup [.tup [.int 0,.int 2],.tup [.int 0,.int 1]]],.tup [.int 2,.tup [.tup [.int 0,.int 2]]],.tup [.int 2,.tup [.tup [.int 0,.bl true]]],.tup [.int 2,.tup [.tup [.int 0,.int 1,.int 1]]]]
noncomputable def bad3:List D:=[.tup [.int 2,.tup [.int 0,.int 1]],.tup [.int 2,.non],.tup [.int 2,.tup [],.tup []],.tup [.int 2],.tup [.int 2,.tup [.lst [.int 0,.int 1]]],.tup [.int 2,.tup [.non]],.tup [.str (PySem.Str.ofString "2"),.tup []],.str (PySem.Str.ofString "2:")]
def sG:List D:=bad1++bad2++bad3
def led(m:Nat)(aq: ~~~5)(m':Nat)(ZR: ~~~5): ~~~5:=(turnsOf m).filter λt=>decide (m=m'/\tw t aq=ZR)
theorem N5(i:Int)(aq: ~~~5):((aq.filter (has i)).map λx=>gt x 0+gt x 1 - i)=nb i aq:=by
 induction aq with
 |nil=>rfl
 |cons x l ih=>
  unfold nb at ih ⊢
  by_cases h1:gt x 0=i
  . simp[Gp,has,h1];lia
  .
   by_cases h2:gt x 1=i
   . simp[Gp,has,h1,h2,ih]
   . simp[Gp,has,h1,h2,ih]
def qu(ne:Nat):Fx:=#[2,6,[(.ways 1 2 3 4 5 (.ix ⇑0 ↥0) (.call ne [⇑0,⇑4]))]]
def ZS(wy:Nat):List Sm:=[(.set 3 (.call wy [⇑0,⇑2])),(.expr (.append 1 (.blt .max [(.comp 4 2 (.nm 5) ⇑3 none (.ix ⇑3 ⇑5))])))]
def lM(wy:Nat):Fx:=#[1,4,[(.set 1 (.lst [])),(.loop (.nm 2) (.dY (.ix ⇑0 ↥0)) (ZS wy)),(.ret (.blt .tuple [(.comp 4 2 (.nm 5) (.dY (.ix ⇑0 ↥0)) (!(.cmp .Eq (.ix ⇑1 ⇑5) (.blt .min [⇑1]))) ⇑5)]))]]
def fE(m:Nat)(aq: ~~~5): ~~~0:=(nums m).map λp=>((rc (λi=>nb i aq) m p:Nat):Int)
def Cv: ~~~0->Int
 | []=>0
 |x::l=>gJ x l
def mid(m:Nat)(aq: ~~~5): ~~~0:=(nums m).filter λp=>decide (((rc (λi=>nb i aq) m p:Nat):Int)=Cv (fE m aq))
theorem N6(l: ~~~0)(h:l≠[]):kW .min [.lst (l.map .int)]=!(.dat (.int (Cv l))):=by
 cases l with
 |nil=>exact absurd rfl h
 |cons n l=>
  have:=ints_map (n::l);rw[List.map_cons]at this ⊢
  simp only[kW,Pn,bF,this];rfl
theorem N7(n:Int)(l: ~~~0):kW .max [.lst ((n::l).map .int)]=!(.dat (.int (fc n l))):=by
 have:=ints_map (n::l);rw[List.map_cons]at this ⊢
 simp only[kW,Pn,bF,this]
theorem xF{l: ~~~0}(h:l≠[]):Cv l∈l/\∀x∈l,Cv l<=x:=by
 cases l with
 |nil=>exact absurd rfl h
 |cons n l=>
  obtain⟨h1,h2,h3⟩:=rC l n;refine#[?_,λx hx=>?_]
  .
   rcases h3 with h3 |h3
   . show gJ n l∈_;rw[h3];exact bP
   . exact a8 _ h3
  .
   rcases dA.mp hx with rfl |hx
   . exact h1
   . exact h2 x hx
theorem N8{l: ~~~0}(h:l≠[]):Cv (l.map λx=>x - 1)=Cv l - 1:=by
 obtain⟨h1,h2⟩:=xF h;obtain⟨h3,h4⟩:=xF (l:=l.map λx=>x - 1) (by simpa using h)
 obtain⟨y,y1,y2⟩:=i9.mp h3;have:=h2 y y1;have:=h4 _ (i9.mpr #[_,h1,rfl]);lia
theorem N9{m:Nat}{aq: ~~~5}{p:Int}(hp:0<=p/\p<m)(f:Int->Int):L2.iS ((nums m).map λq=>D.int (f q)) p=!(.int (f p)):=by
 obtain⟨p,rfl⟩:∃n:Nat,p=n:=#[p.toNat,by lia]
 rw[sA _ _ (by rw[dE,cg];lia)]
 simp[nums]
section
variable{k n:Nat}{rn:Nat->Rn}{fns:List Fx}(U:iT fns rn)
include U
theorem Oa{ne:Nat}(hE:fns[ne]?=!qq)(m:Nat)(hm:1<=m/\m<=8)(aq: ~~~5)(h:Wb m aq)(s:Int)(hs:0<=s/\s<m):∃mp,cB (rn (n+30)) (k+1) (qu ne) [W m aq,.int s]=!(.dat (.emp mp))/\Wt (λi=>nb i aq) s m mp:=by
 have he:∀y:Int,0<=y/\y<m->Wy (rn (n+29)) [] (k+1) 4 (.call ne [⇑0,⇑4]) [.dat (W m aq),‹s›,.no,.no,.no,.no] y=!(nb y aq):=λy _=>by
  have nr:=N4 U (n:=n+8) (k:=k) m aq h y;have e0:((aq.filter (has y)).map λx=>D.int (gt x 0+gt x 1 - y))=(nb y aq).map .int:=by rw[<- N5,List.map_map];rfl
  rw[e0]at nr;unfold Wy;simp! [U,hE,dH (fx:=qq) rfl,nr,ints_map]
 obtain⟨mp,w1,w2⟩:=HX (HS h) hs ⋯ he m 0 _ Wt.one;rw[xI]at w2;have i0:Cp (W m aq) (.int 0)=!(.int m):=rfl;refine#[mp,?_,w2];have e1:(rn (n+29)).e [] (k+1) (.ix ⇑0 ↥0) [.dat (W m aq),‹s›,.no,.no,.no,.no]=!(‹m›,[.dat (W m aq),‹s›,.no,.no,.no,.no]):=by simp! [U,i0]
 have hn:(cP [.dat (W m aq),‹s›,.no,.no,.no,.no]&&([]:List Nat).isEmpty)=true:=rfl;have st:aY (rn (n+29)) [] (k+1) (.ways 1 2 3 4 5 (.ix ⇑0 ↥0) (.call ne [⇑0,⇑4])) [.dat (W m aq),‹s›,.no,.no,.no,.no]=!(.rt (.dat (.emp mp)),[.dat (W m aq),‹s›,.no,.no,.no,.no]):=by
  show (if (cP [.dat (W m aq),‹s›,.no,.no,.no,.no]&&([]:List Nat).isEmpty)=true then (match (rn (n+29)).e [] (k+1) (.ix ⇑0 ↥0) [.dat (W m aq),‹s›,.no,.no,.no,.no]with
   |!(‹j›,_)=>if GK j=true then match LW (Wy (rn (n+29)) [] (k+1) 4 (.call ne [⇑0,⇑4]) [.dat (W m aq),‹s›,.no,.no,.no,.no]) j.toNat [(s,0)]with |some m'=>!(Fl.rt (.dat (.emp m')),([.dat (W m aq),‹s›,.no,.no,.no,.no]:G)) |none=>none else none
   |_=>none)else none)=_
  rw[tJ hn,e1];dsimp only;rw[tJ (eE m ⋯),AS,w1]
 have hp:cO 6 (Pz [W m aq,.int s])=[Slot.dat (W m aq),‹s›,.no,.no,.no,.no]:=rfl;have hb:(rn (n+30)).b [] (k+1) [(.ways 1 2 3 4 5 (.ix ⇑0 ↥0) (.call ne [⇑0,⇑4]))] [.dat (W m aq),‹s›,.no,.no,.no,.no]=!(.rt (.dat (.emp mp)),[.dat (W m aq),‹s›,.no,.no,.no,.no]):=by rw[U.b];unfold d7;rw[st]
 unfold cB qu;dsimp only;rw[hp,hb];rfl
theorem BP{wy ne:Nat}(hY:fns[wy]?=!(qu ne))(hE:fns[ne]?=!qq)(m:Nat)(hm:1<=m/\m<=8)(aq: ~~~5)(h:Wb m aq):cB (rn (n+50)) (k+2) (lM wy) [W m aq]=!(.dat (~~~(mid m aq))):=by
 have i0:Cp (W m aq) (.int 0)=!(.int m):=rfl;have hg:iC 0 m=(nums m).map .int:=HN m;have hf:∀l:List Int,(l.map λq=>D.int (((rc (λi=>nb i aq) m q:Nat):Int) - 1))=((l.map λq=>((rc (λi=>nb i aq) m q:Nat):Int)).map λx=>x - 1).map .int:=λl=>by rw[List.map_map,List.map_map];rfl
 have step:∀(done: ~~~0) (p:Int) (a3:Slot),(0<=p/\p<m)->done.length<=8->∃b3,(rn (n+49)).b [] (k+2) (ZS wy) [.dat (W m aq),.own (done.map λq=>D.int (((rc (λi=>nb i aq) m q:Nat):Int) - 1)),‹p›,a3]=!(.nx,[.dat (W m aq),.own ((done++[p]).map λq=>D.int (((rc (λi=>nb i aq) m q:Nat):Int) - 1)),‹p›,b3]):=by
  intro done p a3 hp hl;obtain⟨mp,q1,q2⟩:=Oa U hE (n:=n+17) (k:=k) m hm aq h p hp;obtain⟨v,vs,e1,e2⟩:=q2.max (HS h) hp (eA m);refine#[.dat (.emp mp),?_];rw[AW,show [p].map (λq=>D.int (((rc (λi=>nb i aq) m q:Nat):Int) - 1))=[D.int (fc v vs)]by rw[e2];rfl]
  have hml:mp.length<=m:=by
   have:=xB (m:=m) q2.nd λx hx=>by
    obtain⟨y,hy,rfl⟩:=i9.mp hx;obtain⟨i,_,_,h3⟩:=(q2.is y.1 y.2).mp hy;exact (fW (HS h) hp i).gr.BX _ (hV _ h3)
   rwa [dE]at this
  have hA:((done.map λq=>D.int (((rc (λi=>nb i aq) m q:Nat):Int) - 1))).length<lim:=i4 (t9 _) (aF _ (by rw[dE];lia))
  generalize (done.map λq=>D.int (((rc (λi=>nb i aq) m q:Nat):Int) - 1))=A at hA ⊢
  have w:=yX (rn:=rn (n+45)) (bor:=[]) (k:=k+2) (g:=[.dat (W m aq),.own A,‹p›,.dat (.emp mp)]) (g1:=[.dat (W m aq),.own A,‹p›,.dat (.emp mp)]) (kk:=2) (nn:=4) (j:=5) (it:=.slot 3) (e:=.ix ⇑3 ⇑5) mp (λq=>.int q.1) (λq=>.int q.2) (by simp! [U,g7]) rfl ⋯ ⋯ ⋯ (aF _ ⋯) λq hq G' Vs=>by
   have h3:=Vs.1 3 ⋯;have ix:Cp (.emp mp) (.int q.1)=!(.int q.2):=by
    show (match L2.lC q.1 mp with |some v=>!(D.int v) |none=>none)=_
    rw[sF q2.nd hq]
   simp! [U,h3,Vs.2,ix]
  have e3:(mp.map λq=>D.int q.2)=(v::vs).map .int:=by rw[<- e1,List.map_map];rfl
  rw[e3]at w;have mx:=N7 v vs;unfold ZS;simp! [U,hY,dH (fx:=qu ne) rfl,q1,w,mx,hA]
 have key:nums m=[]++nums m:=rfl;obtain⟨g',⟨done,a2,a3,e,rfl⟩,w⟩:=d9 (T:=.nm 2) (λq:Int=>D.int q)
  (I:=λl g=>∃(done: ~~~0) (a2 a3:Slot),nums m=done++l/\g=[.dat (W m aq),.own (done.map λq=>D.int (((rc (λi=>nb i aq) m q:Nat):Int) - 1)),a2,a3])
  (step:=λp l g hI=>by
   obtain⟨done,a2,a3,e,rfl⟩:=hI;have hp:p∈nums m:=by rw[e];simp
   have hl:=congrArg List.length e;rw[cg,eQ]at hl;obtain⟨b3,q⟩:=step done p a3 (fU.mp hp) ⋯;exact#[_,_,rfl,q,done++[p],_,b3,by rw[e];simp,rfl]) (nums m) [.dat (W m aq),.own [],.no,.no] #[[],.no,.no,key,rfl]
 rw[pV]at e;subst e;have hl6:(fE m aq).length<=8:=by unfold fE;rw[dE,cg];exact hm.2
 have ne:fE m aq≠[]:=by intro z;have:=congrArg List.length z;unfold fE at this;rw[dE,cg]at this;simp at this;lia
 have mn:=N6 ((fE m aq).map λx=>x - 1) (by simpa using ne)
 rw[N8 ne]at mn;have v:=vn (rn:=rn (n+47)) (bor:=[]) (k:=k+2) (g:=[.dat (W m aq),.own (((fE m aq).map λx=>x - 1).map .int),a2,a3]) (g1:=[.dat (W m aq),.own (((fE m aq).map λx=>x - 1).map .int),a2,a3]) (kk:=2) (nn:=4) (j:=5) (it:=.dY (.ix ⇑0 ↥0)) (c:=!(.cmp .Eq (.ix ⇑1 ⇑5) (.blt .min [⇑1]))) (e:=.slot 5) (nums m) .int (λp=>decide (((rc (λi=>nb i aq) m p:Nat):Int)=Cv (fE m aq))) .int (by simp! [U,g7,i0,eE m ⋯,hg]) rfl ⋯ ⋯ ⋯ (aF _ (by rw[cg];lia))
  (λp hp G' Vs=>by
   have h1:=Vs.1 1 ⋯;have ix:=N9 (aq:=aq) (fU.mp hp) λq=>((rc (λi=>nb i aq) m q:Nat):Int) - 1
   rw[hf]at ix;have ix':Cp (.lst (((fE m aq).map λx=>x - 1).map .int)) (.int p)=!(.int (((rc (λi=>nb i aq) m p:Nat):Int) - 1)):=ix
   have e:decide (((rc (λi=>nb i aq) m p:Nat):Int) - 1=Cv (fE m aq) - 1)=decide (((rc (λi=>nb i aq) m p:Nat):Int)=Cv (fE m aq)):=by rw[decide_eq_decide];lia
   simp! [U,Bs,h1,Vs.2,ix',mn,e])
  (λp _ _ G' Vs=>by simp! [U,Vs.2])
 have hw:jE (.nm 2) ((rn (n+49)).b [] (k+2) (ZS wy)) ((nums m).map λq=>D.int q) [.dat (W m aq),.own [],.no,.no]=!(.nx,[.dat (W m aq),.own (((fE m aq).map λx=>x - 1).map .int),a2,a3]):=by rw[w,hf];rfl
 generalize hb:(rn (n+49)).b [] (k+2) (ZS wy)=bb at hw;have hl:((((nums m).filter λp=>decide (((rc (λi=>nb i aq) m p:Nat):Int)=Cv (fE m aq))).map .int:List D)).length<=lim:=aF _ (by
  rw[dE];have:=Co (λp=>decide (((rc (λi=>nb i aq) m p:Nat):Int)=Cv (fE m aq))) (nums m)
  rw[cg]at this;lia)
 unfold cB lM;simp! [U,g7,i0,eE m ⋯,hg,hb,hw,v];rfl
end
end Ev
namespace zg
abbrev dR:=List Nat
def brk(l:List dR):dR:=40::(l.flatten++[41])
section
variable(srT:List dR->Bool)
inductive Code:dR->Prop
 |mk (l:List dR):(∀b,b∈l->Code b)->srT l=true->Code (brk l)
end
end zg
namespace zg
abbrev Ji:=List (Int×Int)
noncomputable def fX(E:Ji)(p:Int): ~~~0:=(E.filter λe=>decide (p=e.1\/p=e.2)).map λe=>e.1+e.2 - p
def dP(E:Ji)(p:Int)(a:Option Int): ~~~0:=(fX E p).filter λq=>decide (some q≠a)
inductive RT(E:Ji):Int->Option Int->~~~0->Prop
 |mk (p:Int) (a:Option Int) (vs:Int->~~~0):(∀c,c∈dP E p a->RT E c (!p) (vs c))->RT E p a (p::(dP E p a).flatMap vs)
end zg
namespace Ev
open zg
theorem ZT:PySem.Str.ofString "("=tx [40]:=by decide
theorem ZV:PySem.Str.ofString ")"=tx [41]:=by decide
def srT(l:List dR):Bool:=decide (aJ l=l)
theorem fY(a b:List Nat)(h:a.length+b.length<=1000):lA .Add (dS a) (dS b)=!(.dat (dS (a++b))):=by
 have:(tx a).length+(tx b).length<=lim:=by rw[rL,rL];exact oI h ⋯
 show (if (tx a).length+(tx b).length<=lim then some (R.dat (.str (tx a++tx b)))else none)=_
 rw[tJ this,wO];rfl
theorem nW(l:List dR)(h:l.length<1000):kW .sorted [.lst (l.map dS)]=!(.new ((aJ l).map dS)):=by
 cases l with
 |nil=>rfl
 |cons a l=>
  have e:dw ((a::l).map dS)=!(a::l):=dX _;show (match dw ((a::l).map dS)with |some m=>if m.length<1000 then some (R.new ((aJ m).map dS))else none |none=>none)=_
  rw[e];dsimp only;rw[tJ h]
theorem zh(b:List dR):(brk b).length=(b.map List.length).sum+2:=by simp[brk,List.length_flatten]
open zg
theorem zj(s:dR)(h:s.length<=1000):kW .len [.str (tx s)]=!(.dat (.int s.length)):=by
 show (if (tx s).length<=lim then some (R.dat (.int (tx s).length))else none)=_
 rw[rL,tJ (oI h ⋯)]
open zg
def fF(aq: ~~~5):Ji:=aq.map λx=>(gt x 0,gt x 1)
def nX:Nat->Ji->Int->Option Int->dR
 | 0,_,_,_=>[]
 |f+1,E,p,a=>brk (aJ ((dP E p a).map λq=>nX f E q (!p)))
theorem Vt{E:Ji}{p:Int}{a:Option Int}{vs: ~~~0}(h:RT E p a vs):∀f,vs.length<=f->Code srT (nX f E p a)/\(nX f E p a).length=2 * vs.length:=by
 induction h with
 |mk p a vs hk ih=>
  intro f hf;cases f with
  |zero=>simp at hf
  |succ f=>
   have sub:∀c∈dP E p a,(vs c).length<=f:=λc hc=>by
    have h1:(vs c).length<=((dP E p a).flatMap vs).length:=(List.sublist_flatten_of_mem (i9.mpr #[c,hc,rfl]):(vs c).Sublist ((dP E p a).map vs).flatten).length_le;rw[nK]at hf;lia
   have perm:=bQ ((dP E p a).map λq=>nX f E q (!p))
   refine#[.mk _ (λb hb=>?_) (by unfold srT;rw[wQ];exact w9 rfl),?_]
   . obtain⟨c,hc,rfl⟩:=i9.mp (perm.mem_iff.mp hb);exact (ih c hc f (sub c hc)).1
   .
    show (brk _).length=_;rw[zh];have e1:(((aJ ((dP E p a).map λq=>nX f E q (!p))).map List.length)).sum=(((dP E p a).map λq=>nX f E q (!p)).map List.length).sum:=(perm.map _).sum_nat
    rw[e1,List.map_map,nK,List.length_flatMap];have key:∀l:List Int,(∀c∈l,c∈dP E p a)->(l.map (List.length ∘ λq=>nX f E q (!p))).sum=2 * (l.map λc=>(vs c).length).sum:=by
     intro l
     induction l with
     |nil=>intro _;rfl
     |cons c l ihl=>
      intro h;rw[List.map_cons,List.map_cons,List.sum_cons,List.sum_cons,ihl λd hd=>h d (a8 _ hd)]
      have:=(ih c (h c bP) f (sub c (h c bP))).2;show (nX f E c (!p)).length+_=_;rw[this];lia
    rw[key _ λ_ h=>h]
    lia
open zg
def kj:Fx:=#[2,2,[(.ret (.comp 2 3 (.tp [3,4]) (.ix ⇑0 ↥1) (!(.cmp .In ⇑1 (.tup [⇑3,⇑4]))) (.bin .Sub (.bin .Add ⇑3 ⇑4) ⇑1)))]]
def PJ(ni ci:Nat):Sm:=.setC 3 (.comp 4 2 (.nm 5) (.call ni [⇑0,⇑1]) (!(.cmp .NotEq ⇑5 ⇑2)) (.call ci [⇑0,⇑5,⇑1]))
noncomputable def cdQ:Sm:=.ret (.bin .Add (.bin .Add (.val (.str (PySem.Str.ofString "("))) (.join (.blt .sorted [⇑3]))) (.val (.str (PySem.Str.ofString ")"))))
def kY(ni ci:Nat):Fx:=#[3,4,[PJ ni ci,cdQ]]
theorem Ob(i a b:Int):dQ .In (.int i) (.tup [.int a,.int b])=!(decide (i=a\/i=b)):=by
 have h:Br (.int i) [.int a,.int b]=true:=by have:=gF [a,b];have:=gG [a,b];simp_all [Br,iA]
 have e:decide (i=a\/i=b)=(decide (a=i)||decide (b=i)):=by
  rw[Do];simp only[t5,Cf];constructor
  .
   rintro (h |h)
   . exact .inl h.symm
   . exact .inr h.symm
  .
   rintro (h |h)
   . exact .inl h.symm
   . exact .inr h.symm
 rw[e];simp only[dQ,bF,h,if_true]
 congr 1
 rw[Do];simp[cz]
def aD:Option Int->D
 |none=>.non
 |some q=>.int q
theorem Vu(q:Int)(a:Option Int):dQ .NotEq (.int q) (aD a)=!(decide (some q≠a)):=by
 cases a with
 |none=>rfl
 |some b=>
  have:=HD q b;rw[show aD (!b)=.int b from rfl,this]
  congr 1
  rw[Do];simp
section
variable{k n ni ci:Nat}{g g1:G}{rn:Nat->Rn}{fns:List Fx}(U:iT fns rn)
include U
theorem HY(m:Nat)(aq: ~~~5)(hp:∀x∈aq,Pr m x)(hl:aq.length<=60)(i:Int):cB (rn (n+20)) k kj [W m aq,.int i]=!(.new ((fX (fF aq) i).map .int)):=by
 have i1:Cp (W m aq) (.int 1)=!(.tup (aq.map ∅)):=rfl
 have w:=λn k=>Hv (rn:=rn (n+12)) (bor:=[]) (k:=k) (g:=[.dat (W m aq),‹i›]) (g1:=[.dat (W m aq),‹i›]) (kk:=3) (nn:=2) (j1:=3) (j2:=4) (it:=.ix ⇑0 ↥1) (c:=!(.cmp .In ⇑1 (.tup [⇑3,⇑4]))) (e:=.bin .Sub (.bin .Add ⇑3 ⇑4) ⇑1) aq (λx=>.int (gt x 0)) (λx=>.int (gt x 1)) (λx=>decide (i=gt x 0\/i=gt x 1)) (λx=>.int (gt x 0+gt x 1 - i)) (by
   have e:aq.map ∅=aq.map λx=>.tup [.int (gt x 0),.int (gt x 1)]:=AL λx hx=>by
    obtain⟨a,b,rfl,_⟩:=hp x hx;rfl
   simp! [U,g7,i1,<- e]) rfl ⋯ ⋯ ⋯ ⋯ ⋯ ⋯ ⋯ (aF _ ⋯)
  (λx _ G' hG=>by
   have h1:G'[1]?=!‹i›:=hG.1 1 ⋯;simp! [U,Bs,h1,hG.2.1,hG.2.2,Ob,aF 2 ⋯])
  (λx _ _ G' hG=>by
   have h1:G'[1]?=!‹i›:=hG.1 1 ⋯;simp! [U,h1,hG.2.1,hG.2.2])
 have e:(aq.filter (λx=>decide (i=gt x 0\/i=gt x 1))).map (λx=>D.int (gt x 0+gt x 1 - i))=(fX (fF aq) i).map .int:=by unfold fX fF;rw[List.filter_map,List.map_map,List.map_map];rfl
 rw[<- e];unfold cB kj;simp! [U,w]
variable(hN:fns[ni]?=!kj)(hC:fns[ci]?=!(kY ni ci))
include hN hC
theorem Oc(m:Nat)(aq: ~~~5)(hp:∀x∈aq,Pr m x)(hl:aq.length<=60):∀(f:Nat) (p:Int) (a:Option Int) (vs: ~~~0),RT (fF aq) p a vs->vs.length<=f->f<=30->∀n k,cB (rn (n+40 * f)) (k+f) (kY ni ci) [W m aq,.int p,aD a]=!(.dat (dS (nX f (fF aq) p a))):=by
 intro f
 induction f with
 |zero=>intro p a vs h hf;cases h with |mk _ _ _ _=>simp at hf
 |succ f ih=>
  intro p a vs h hf h30 n k;obtain⟨hcode,PK⟩:=Vt h (f+1) hf;cases h with
  |mk _ _ vs hk=>
   have sub:∀c∈dP (fF aq) p a,(vs c).length<=f:=λc hc=>by
    have h1:(vs c).length<=((dP (fF aq) p a).flatMap vs).length:=(List.sublist_flatten_of_mem (i9.mpr #[c,hc,rfl]):(vs c).Sublist ((dP (fF aq) p a).map vs).flatten).length_le;rw[nK]at hf;lia
   obtain⟨x,hx⟩:∃x,x=n+40 * f:=#[_,rfl];rw[show n+40 * (f+1)=x+40 by lia,show k+(f+1)=k+f+1 by lia]
   have q1:=λn k=>HY (n:=n) (k:=k) U m aq hp hl p
   have q2:∀c∈dP (fF aq) p a,cB (rn (x+38)) (k+f) (kY ni ci) [W m aq,.int c,.int p]=!(.dat (dS (nX f (fF aq) c (!p)))):=λc hc=>by
    have:=ih c (!p) (vs c) (hk c hc) (sub c hc) ⋯ (n+38) k;rw[show n+38+40 * f=x+38 by lia]at this
    exact this
   have hnl:(fX (fF aq) p).length<=60:=by unfold fX fF;rw[dE];exact oI (Co _ _) (by rw[dE];exact hl)
   have cp:cR (rn (x+39)) [] (k+f+1) 4 2 (.nm 5) (.call ni [⇑0,⇑1]) (!(.cmp .NotEq ⇑5 ⇑2)) (.call ci [⇑0,⇑5,⇑1]) [.dat (W m aq),‹p›,.dat (aD a),.no]=!(((fX (fF aq) p).filter λq=>decide (some q≠a)).map (λq=>dS (nX f (fF aq) q (!p))),[.dat (W m aq),‹p›,.dat (aD a),.no]):=by
    refine vn (g1:=[.dat (W m aq),‹p›,.dat (aD a),.no]) (fX (fF aq) p) (λq=>D.int q) (λq=>decide (some q≠a)) (λq=>dS (nX f (fF aq) q (!p))) ?_ rfl ⋯ ⋯ ⋯ (aF _ ⋯) (λq _ G' hG=>?_) λq hq hpq G' hG=>?_
    .
     show _=!((fX (fF aq) p).map D.int,_);generalize (fX (fF aq) p).map D.int=nl at q1 ⊢
     generalize W m aq=w at q1 ⊢
     simp! [U,g7,hN,dH (fx:=kj) rfl,q1]
    .
     have h2:G'[2]?=!(.dat (aD a)):=hG.1 2 ⋯;have h5:=hG.2;have c:=Vu q a;generalize aD a=da at h2 c;generalize decide (some q≠a)=b at c ⊢
     simp! [U,Bs,h2,h5,c]
    .
     have h0:G'[0]?=!(.dat (W m aq)):=hG.1 0 ⋯;have h1:G'[1]?=!‹p›:=hG.1 1 ⋯;have h5:=hG.2;have q3:=q2 q (mI.mpr #[hq,hpq]);generalize dS (nX f (fF aq) q (!p))=dd at q3 ⊢
     generalize W m aq=w at h0 q3;simp! [U,h0,h1,h5,hC,lJ (fx:=kY ni ci) rfl,q3]
   have kd:((fX (fF aq) p).filter λq=>decide (some q≠a))=dP (fF aq) p a:=rfl
   rw[kd]at cp;have em:(dP (fF aq) p a).map (λq=>dS (nX f (fF aq) q (!p)))=((dP (fF aq) p a).map λq=>nX f (fF aq) q (!p)).map dS:=by rw[List.map_map];rfl
   rw[em]at cp;generalize hS:(dP (fF aq) p a).map (λq=>nX f (fF aq) q (!p))=L at cp
   have bM:nX (f+1) (fF aq) p a=brk (aJ L):=by
    show brk (aJ ((dP (fF aq) p a).map λq=>nX f (fF aq) q (!p)))=_
    rw[hS]
   have hLl:L.length<=60:=by rw[<- hS,dE];exact oI (Co _ _) hnl
   rw[bM]at PK ⊢
   rw[zh]at PK;have hsum:((aJ L).map List.length).sum<=900:=by lia
   have s1:aY (rn (x+39)) [] (k+f+1) (PJ ni ci) [.dat (W m aq),‹p›,.dat (aD a),.no]=!(.nx,[.dat (W m aq),‹p›,.dat (aD a),.own (L.map dS)]):=by unfold PJ aY;simp only[cp];simp
   have so:=nW L ⋯;have st:=dX (aJ L);have hs:((aJ L).map List.length).sum<=lim:=oI hsum ⋯;have hf':(aJ L).flatten.length=((aJ L).map List.length).sum:=List.length_flatten;have o1:lA .Add (.str (tx [40])) (.str (tx (aJ L).flatten))=!(.dat (.str (tx (40::(aJ L).flatten)))):=fY [40] (aJ L).flatten (by rw[hf'];simp;lia)
   have o2:lA .Add (.str (tx (40::(aJ L).flatten))) (.str (tx [41]))=!(.dat (.str (tx (brk (aJ L))))):=fY (40::(aJ L).flatten) [41] (by rw[nK,hf'];simp;lia)
   have s2:aY (rn (x+39)) [] (k+f+1) cdQ [.dat (W m aq),‹p›,.dat (aD a),.own (L.map dS)]=!(.rt (.dat (.str (tx (brk (aJ L))))),[.dat (W m aq),‹p›,.dat (aD a),.own (L.map dS)]):=by generalize L.map dS=ds at so;generalize (aJ L).map dS=ds2 at so st;generalize W m aq=w;generalize aD a=da;unfold cdQ;simp! [U,so,st,hs,ZT,ZV,o1,o2]
   have e5:(rn (x+40)).b [] (k+f+1) (kY ni ci).body [.dat (W m aq),‹p›,.dat (aD a),.no]=!(.rt (.dat (.str (tx (brk (aJ L))))),[.dat (W m aq),‹p›,.dat (aD a),.own (L.map dS)]):=by rw[U.b];refine (bH s1).trans ?_;unfold d7;rw[s2]
   unfold cB;rw[show cO (kY ni ci).n (Pz [W m aq,D.int p,aD a])=[.dat (W m aq),‹p›,.dat (aD a),.no]from rfl,e5]
   rfl
end
open zg
theorem Od{m:Nat}{aq: ~~~5}{p:Int}(h:p∈mid m aq):0<=p/\p<m:=fU.mp (mI.mp h).1
theorem Vv{m:Nat}(hm:1<=m)(aq: ~~~5):mid m aq≠[]:=by
 have h0:fE m aq≠[]:=by unfold fE;intro e;have:=congrArg List.length e;rw[dE,cg]at this;simp at this;lia
 obtain⟨p,hp,e⟩:=i9.mp (xF h0).1;exact List.ne_nil_of_mem (mI.mpr #[hp,w9 e])
def qw(m:Nat)(aq: ~~~5):List (List Nat):=(mid m aq).map λp=>nX m (fF aq) p none
def Ia(m:Nat)(aq: ~~~5):List Nat:=match qw m aq with
 | []=>[]
 |b::bs=>jW kU b bs
def ku(mi al:Nat):Fx:=#[1,1,[(.ret (.Gz (.comp 1 2 (.nm 2) (.call mi [⇑0]) none (.call al [⇑0,⇑2,(.val .non)]))))]]
section
variable{k n:Nat}{rn:Nat->Rn}{fns:List Fx}{mi al:Nat}{fm fa:Fx}(U:iT fns rn)(hM:fns[mi]?=!fm)(hA:fns[al]?=!fa)
include U hM hA
theorem Ib(h1:fm.np=1)(h3:fa.np=3)(m:Nat)(hm:1<=m/\m<=8)(aq: ~~~5)(w:D)(qm:∀n k,cB (rn (n+50)) (k+2) fm [w]=!(.dat (~~~(mid m aq))))
  (qa:∀p:Int,0<=p/\p<m->∀n k,cB (rn (n+320)) (k+8) fa [w,.int p,.non]=!(.dat (dS (nX m (fF aq) p none)))):cB (rn (n+330)) (k+9) (ku mi al) [w]=!(.dat (dS (Ia m aq))):=by
 have hl:(mid m aq).length<=8:=by
  unfold mid;have:=Co (λp=>decide (((rc (λi=>nb i aq) m p:Nat):Int)=Cv (fE m aq))) (nums m)
  rw[cg]at this;lia
 have cp:=vn (rn:=rn (n+327)) (bor:=[]) (k:=k+9) (g:=[.dat w]) (g1:=[.dat w]) (kk:=2) (nn:=1) (j:=2) (it:=.call mi [⇑0]) (c:=none) (e:=.call al [⇑0,⇑2,(.val .non)]) (mid m aq) .int (λ_=>true) (λp=>dS (nX m (fF aq) p none)) (by
   have q:=λn k=>qm n k
   generalize List.map D.int (mid m aq)=T at q ⊢
   simp! [U,g7,hM,cW (fx:=fm) h1,q]) rfl ⋯ ⋯ ⋯ (aF _ ⋯) (λq _ G' hG=>by simp! [U,Bs]) λq hq _ G' hG=>by
   have h0:G'[0]?=!(.dat w):=hG.1 0 ⋯;have h4:=hG.2;have q3:=qa q (Od hq);generalize dS (nX m (fF aq) q none)=dd at q3 ⊢
   simp! [U,h0,h4,hA,lJ (fx:=fa) h3,q3]
 have ft:(mid m aq).filter (λ_=>true)=mid m aq:=List.filter_eq_self.mpr λ_ _=>rfl
 rw[ft]at cp;have em:(mid m aq).map (λp=>dS (nX m (fF aq) p none))=(qw m aq).map dS:=by unfold qw;rw[List.map_map];rfl
 rw[em]at cp;have jI:qw m aq≠[]:=by unfold qw;intro e;exact Vv hm.1 aq (List.map_eq_nil_iff.mp e)
 unfold Ia;cases hc:qw m aq with
 |nil=>exact absurd hc jI
 |cons b bs=>rw[hc]at cp;have st:=dX (b::bs);generalize (b::bs).map dS=ds at cp st;dsimp only;unfold cB ku;simp! [U,cp,st,bF,pk,norm]
end
open zg
def xG(se:Nat):List Sm:=[(.ite (.and [(.cmp .LtE (.blt .len [⇑4]) (.bin .Mult ↥2 ⇑1)),(.cmp .GtE ⇑4 ⇑2)]) [(.expr (.extend 3 (.comp 5 2 (.nm 6) (.call se [⇑0,(.bin .Sub ⇑1 (.bin .FloorDiv (.blt .len [⇑4]) ↥2)),⇑4]) none (.bin .Add ⇑4 ⇑6))))] [])]
def cD(se:Nat):Fx:=#[3,5,[(.ite (.cmp .Eq ⇑1 ↥0) [(.ret (.lst [(.val (.str (PySem.Str.ofString "")))]))] []),(.set 3 (.lst [])),(.loop (.nm 4) ⇑0 (xG se)),(.ret ⇑3)]]
def cX(K:List dR):Nat->Nat->dR->List dR
 | 0,_,_=>[[]]
 |f+1,l,a=>if l=0 then [[]]else K.flatMap λc=>if c.length<=2 * l/\¬ c<a then (cX K f (l - c.length / 2) c).map (c ++ ·)else []
theorem Ic:D.str (PySem.Str.ofString "")=dS []:=congrArg D.str (by decide:PySem.Str.ofString ""=tx [])
theorem Vw(a b:dR):dQ .GtE (dS a) (dS b)=!((not (decide (a<b)))):=rfl
theorem zm{α β:Type}{f g:α->List β}:∀{l:List α},(∀x∈l,(f x).length<=(g x).length)->(l.flatMap f).length<=(l.flatMap g).length
 | [],_=>eA _
 |x::l,h=>by
  rw[List.flatMap_cons,List.flatMap_cons,eQ,eQ];exact Nat.add_le_add (h x bP) (zm λy hy=>h y (a8 _ hy))
theorem Ie(K:List dR)(f l:Nat)(a:dR):(cX K f l a).length<=(cX K f l []).length:=by
 cases f with
 |zero=>exact eA _
 |succ f=>
  unfold cX;split
  . exact eA _
  .
   refine zm λc _=>?_
   split
   . rename_i h;rw[tJ #[h.1,List.not_lt_nil _]];exact eA _
   . exact sR _
theorem sH{K:List dR}(hK:∀c∈K,2<=c.length):∀(f l:Nat) (a r:dR),r∈cX K f l a->r.length<=3 * l
 | 0,l,a,r,h=>by rw[fA.mp h];exact sR _
 |f+1,l,a,r,h=>by
  unfold cX at h;split at h
  . rw[fA.mp h];exact sR _
  .
   obtain⟨c,cK,hc⟩:=List.mem_flatMap.mp h;have c2:=hK c cK;split at hc
   . rename_i h2;obtain⟨x,hx,rfl⟩:=i9.mp hc;have:=sH hK f _ _ x hx;rw[eQ];lia
   . cases hc
section
variable{k n se:Nat}{rn:Nat->Rn}{fns:List Fx}(U:iT fns rn)(hS:fns[se]?=!(cD se))
include U hS
theorem BR(K:List dR)(L:Nat)(hK:∀c∈K,2<=c.length/\c.length<=40)(kl:K.length<=500)(hL:L<=20)(hb:∀f l:Nat,l<=f->l<=L->(cX K f l []).length<=1000) :
  ∀(f l:Nat) (a:dR),l<=f->l<=L->∀n k,cB (rn (n+40 * f+10)) (k+f) (cD se) [.lst (K.map dS),.int l,dS a]=!(.new ((cX K f l a).map dS)):=by
 intro f
 induction f with
 |zero=>
  intro l a h1 _ n k;obtain rfl:l=0:=Nat.le_zero.mp h1;have e:(cX K 0 0 a).map dS=[D.str (PySem.Str.ofString "")]:=by rw[Ic];rfl
  rw[e];generalize K.map dS=KL;generalize dS a=A;unfold cB cD;simp! [U,aF 1 ⋯]
 |succ f ih=>
  intro l a h1 h2 n k;by_cases hl:l=0
  .
   subst hl;have e:(cX K (f+1) 0 a).map dS=[D.str (PySem.Str.ofString "")]:=by rw[Ic];rfl
   rw[e];generalize K.map dS=KL;generalize dS a=A;obtain⟨x,hx⟩:∃x,n+40 * (f+1)+10=x+40:=#[n+40 * f+10,by lia]
   rw[hx];unfold cB cD;simp! [U,aF 1 ⋯]
  obtain⟨x,hx⟩:∃x,x=n+40 * f+10:=#[_,rfl];rw[show n+40 * (f+1)+10=x+40 by lia,show k+(f+1)=k+f+1 by lia]
  let F:=λc:dR=>if c.length<=2 * l/\¬ c<a then (cX K f (l - c.length / 2) c).map (c ++ ·)else []
  have eF:cX K (f+1) l a=K.flatMap F:=by unfold cX;rw[sK hl]
  have tot:(K.flatMap F).length<=1000:=by rw[<- eF];exact oI (Ie K _ _ _) (hb _ _ h1 h2)
  have step:∀(c:dR) (acc:List dR) (a4:Slot),c∈K->(acc++F c).length<=1000->(rn (x+39)).b [] (k+f+1) (xG se) [.dat (.lst (K.map dS)),‹l›,.dat (dS a),.own (acc.map dS),.dat (dS c)]=!(.nx,[.dat (.lst (K.map dS)),‹l›,.dat (dS a),.own ((acc++F c).map dS),.dat (dS c)]):=by
   intro c acc a4 hc hacc;obtain⟨c1,c2⟩:=hK c hc;have l1:kW .len [dS c]=!(.dat (.int (c.length:Int))):=zj c ⋯;have g1:=Vw c a;by_cases hF:c.length<=2 * l/\¬ c<a
   .
    have eFc:F c=(cX K f (l - c.length / 2) c).map (c ++ ·):=tJ hF;have hd:((l:Int) - (c.length:Int) / 2)=((l - c.length / 2:Nat):Int):=by lia
    have q:=ih (l - c.length / 2) c ⋯ ⋯ (n+34) k;rw[show n+34+40 * f+10=x+34 by lia]at q
    have aM:(cX K f (l - c.length / 2) c).length<=1000:=oI (Ie K _ _ _) (hb _ _ ⋯ ⋯);have cp:cR (rn (x+35)) [] (k+f+1) 5 2 (.nm 6) (.call se [⇑0,(.bin .Sub ⇑1 (.bin .FloorDiv (.blt .len [⇑4]) ↥2)),⇑4]) none (.bin .Add ⇑4 ⇑6) [.dat (.lst (K.map dS)),‹l›,.dat (dS a),.own (acc.map dS),.dat (dS c)]=!((cX K f (l - c.length / 2) c).map λr=>dS (c++r),[.dat (.lst (K.map dS)),‹l›,.dat (dS a),.own (acc.map dS),.dat (dS c)]):=by
     refine yX (cX K f (l - c.length / 2) c) dS (λr=>dS (c++r)) ?_ rfl ⋯ ⋯ ⋯ (aF _ aM) λr hr G' hG=>?_
     .
      have o1:lA .FloorDiv (.int (c.length:Int)) (.int 2)=!(.dat (.int ((c.length:Int) / 2))):=rfl;have o2:lA .Sub (.int (l:Int)) (.int ((c.length:Int) / 2))=!(.dat (.int ((l - c.length / 2:Nat):Int))):=by rw[<- hd];rfl
      show _=!((cX K f (l - c.length / 2) c).map dS,_);generalize (cX K f (l - c.length / 2) c).map dS=R1 at q ⊢
      generalize K.map dS=KL at q ⊢
      generalize dS c=C at l1 q ⊢
      generalize dS a=A;generalize (c.length:Int) / 2=h at o1 o2;generalize (c.length:Int)=cl at l1 o1;generalize acc.map dS=AC;simp! [U,g7,l1,o1,o2,hS,lJ (fx:=cD se) rfl,q]
     .
      have h4:G'[4]?=!(.dat (dS c)):=hG.1 4 ⋯;have h6:=hG.2;have o:=fY c r (by have:=sH (λc h=>(hK c h).1) _ _ _ r hr;lia)
      generalize dS (c++r)=R1 at o ⊢
      generalize dS c=C at h4 o;generalize dS r=R2 at h6 o;simp! [U,h4,h6,o]
    have eM:acc.map dS++(cX K f (l - c.length / 2) c).map (λr=>dS (c++r))=(acc++F c).map dS:=by rw[eFc,AW,List.map_map];rfl
    have IW:(acc.map dS).length+((cX K f (l - c.length / 2) c).map λr=>dS (c++r)).length<=lim:=by rw[eFc,eQ,dE]at hacc;rw[dE,dE];exact aF _ hacc
    have b1:dQ .LtE (.int (c.length:Int)) (.int (2 * (l:Int)))=!true:=by show some (decide ((c.length:Int)<=2 * (l:Int)))=_;rw[w9 ⋯]
    have b0:lA .Mult (.int 2) (.int (l:Int))=!(.dat (.int (2 * (l:Int)))):=rfl;rw[u7 hF.2]at g1;rw[<- eM];generalize (cX K f (l - c.length / 2) c).map (λr=>dS (c++r))=R1 at cp IW ⊢
    generalize K.map dS=KL at cp ⊢
    generalize dS c=C at l1 g1 cp ⊢
    generalize dS a=A at g1 cp ⊢
    generalize acc.map dS=AC at cp IW ⊢
    generalize (2 * (l:Int))=l2 at b0 b1;generalize (c.length:Int)=cl at l1 b1;unfold xG;simp! [U,l1,b0,b1,g1,cp,IW]
   .
    have eFc:F c=[]:=sK hF;rw[eFc,pV];have b0:lA .Mult (.int 2) (.int (l:Int))=!(.dat (.int (2 * (l:Int)))):=rfl;have b1:dQ .LtE (.int (c.length:Int)) (.int (2 * (l:Int)))=!(decide (c.length<=2 * l)):=by
     show some (decide ((c.length:Int)<=2 * (l:Int)))=_
     congr 1
     rw[decide_eq_decide];lia
    by_cases h1:c.length<=2 * l
    .
     rw[w9 h1]at b1;have h2:c<a:=CS λz=>hF #[h1,z]
     rw[w9 h2]at g1;generalize K.map dS=KL;generalize dS c=C at l1 g1 ⊢
     generalize dS a=A at g1 ⊢
     generalize acc.map dS=AC;generalize (2 * (l:Int))=l2 at b0 b1;generalize (c.length:Int)=cl at l1 b1;unfold xG;simp! [U,l1,b0,b1,g1]
    .
     rw[u7 h1]at b1;generalize K.map dS=KL;generalize dS c=C at l1 ⊢
     generalize dS a=A;generalize acc.map dS=AC;generalize (2 * (l:Int))=l2 at b0 b1;generalize (c.length:Int)=cl at l1 b1;unfold xG;simp! [U,l1,b0,b1]
  obtain⟨g',⟨done,a4,e,rfl⟩,w⟩:=d9 (T:=.nm 4) (b:=(rn (x+39)).b [] (k+f+1) (xG se)) dS
   (I:=λrest g=>∃(done:List dR) (a4:Slot),K=done++rest/\g=[.dat (.lst (K.map dS)),‹l›,.dat (dS a),.own ((done.flatMap F).map dS),a4])
   (step:=λc rest g hI=>by
    obtain⟨done,a4,e,rfl⟩:=hI;have hc:c∈K:=by rw[e];simp
    refine#[_,_,rfl,step c (done.flatMap F) a4 hc ?_,done++[c],.dat (dS c),by rw[e];simp,by rw[List.flatMap_append];simp]
    refine oI ?_ tot;rw[e,List.flatMap_append,List.flatMap_cons,eQ,eQ,eQ];lia) K [.dat (.lst (K.map dS)),‹l›,.dat (dS a),.own [],.no] #[[],.no,rfl,rfl]
  rw[pV]at e;subst e;rw[eF];have c0:dQ .Eq (.int (l:Int)) (.int 0)=!false:=by show some (decide ((l:Int)=0))=_;rw[u7 ⋯]
  generalize hb':(rn (x+39)).b [] (k+f+1) (xG se)=bb at w;generalize (K.flatMap F).map dS=R1 at w ⊢
  generalize K.map dS=KL at w ⊢
  generalize dS a=A at w ⊢
  generalize (l:Int)=l2 at w c0 ⊢
  unfold cB cD;simp! [U,c0,g7,hb',w]
end
open zg
def zo(r:dR):dR:=40::(r++[41])
def Vx(l:Nat)(K:List dR):List dR:=aJ (K++(cX K l l []).map zo)
def sI:Nat->List dR
 | 0=>[]
 |l+1=>Vx l (sI l)
def cdm(m:Nat):List dR:=(sI m).filter λc=>decide (c.length=2 * m)
def WT(ro:Nat):List Sm:=[(.set 1 (.blt .sorted [(.bin .Add ⇑1 (.peek (.comp 3 2 (.nm 4) (.call ro [⇑1,⇑2,(.val (.str (PySem.Str.ofString "")))]) none (.bin .Add (.bin .Add (.val (.str (PySem.Str.ofString "("))) ⇑4) (.val (.str (PySem.Str.ofString ")")))))))]))]
def Ig(ro:Nat):Fx:=#[1,3,[(.set 1 (.lst [])),(.loop (.nm 2) (.dY ⇑0) (WT ro)),(.ret (.comp 3 2 (.nm 4) ⇑1 (!(.cmp .Eq (.blt .len [⇑4]) (.bin .Mult ↥2 ⇑0))) ⇑4))]]
structure BV(l:Nat)(K:List dR):Prop where
 two:∀c∈K,2<=c.length/\c.length<=40
 few:K.length<=400
 row:∀i,i<=l->(cX K i i []).length<=400
theorem Ih{K:List dR}(hK:∀c∈K,2<=c.length):∀(f g l:Nat) (a:dR),l<=f->l<=g->cX K f l a=cX K g l a:=by
 have z:∀(g:Nat) (a:dR),cX K g 0 a=[[]]:=λg a=>by cases g <;> rfl
 intro f
 induction f with
 |zero=>intro g l a h1 h2;obtain rfl:l=0:=Nat.le_zero.mp h1;rw[z,z]
 |succ f ih=>
  intro g l a h1 h2;cases g with
  |zero=>obtain rfl:l=0:=Nat.le_zero.mp h2;rw[z,z]
  |succ g=>
   by_cases hl:l=0
   . subst hl;rw[z,z]
   show (if l=0 then [[]]else K.flatMap λc=>if c.length<=2 * l/\¬ c<a then (cX K f (l - c.length / 2) c).map (c ++ ·)else [])=if l=0 then [[]]else K.flatMap λc=>if c.length<=2 * l/\¬ c<a then (cX K g (l - c.length / 2) c).map (c ++ ·)else []
   rw[sK hl,sK hl];rw[List.flatMap_def,List.flatMap_def];refine congrArg _ (AL λc hc=>?_)
   have:=hK c hc;rw[ih g (l - c.length / 2) c ⋯ ⋯]
section
variable{k n ro:Nat}{rn:Nat->Rn}{fns:List Fx}(U:iT fns rn)(hR:fns[ro]?=!(cD ro))
include U hR
theorem Ii(m l:Nat)(hl:l<=7)(K:List dR)(ok:BV l K)(a2:Slot):(rn (n+350)).b [] (k+9) (WT ro) [‹m›,.own (K.map dS),‹l›]=!(.nx,[‹m›,.own ((Vx l K).map dS),‹l›]):=by
 have hf:=Ih λc h=>(ok.two c h).1
 have hR2:∀c∈cX K 8 l [],c.length<=24:=λc hc=>by
  have:=sH (λc h=>(ok.two c h).1) _ _ _ c hc
  lia
 have e8:cX K 8 l []=cX K l l []:=hf 8 l l [] ⋯ (eA _);have h8:(cX K 8 l []).length<=400:=by rw[e8];exact ok.row l (eA _)
 have q:=λn k=>BR U hR K l (λc h=>ok.two c h) (oI ok.few ⋯) ⋯ (λf i hi hil=>by
  rw[hf f i i [] hi (eA _)];exact oI (ok.row i hil) ⋯) 8 l [] ⋯ (eA _) n k
 have cp:cR (rn (n+345)) [] (k+9) 3 2 (.nm 4) (.call ro [⇑1,⇑2,(.val (.str (PySem.Str.ofString "")))]) none (.bin .Add (.bin .Add (.val (.str (PySem.Str.ofString "("))) ⇑4) (.val (.str (PySem.Str.ofString ")")))) [‹m›,.dat (.lst (K.map dS)),‹l›]=!(((cX K 8 l []).map λr=>dS (zo r)),[‹m›,.dat (.lst (K.map dS)),‹l›]):=by
  refine yX (cX K 8 l []) dS (λr=>dS (zo r)) ?_ rfl ⋯ ⋯ ⋯ (aF _ ⋯) λr hr G' hG=>?_
  .
   rw[Ic];show _=!((cX K 8 l []).map dS,_);generalize (cX K 8 l []).map dS=R1 at q ⊢
   generalize K.map dS=KL at q ⊢
   generalize dS []=C at q ⊢
   simp! [U,g7,hR,lJ (fx:=cD ro) rfl,q]
  .
   have h4:=hG.2;have o1:=fY [40] r (by have:=hR2 r hr;simp;lia)
   have o2:=fY (40::r) [41] (by have:=hR2 r hr;simp;lia)
   have e1:D.str (PySem.Str.ofString "(")=dS [40]:=congrArg D.str (by decide:PySem.Str.ofString "("=tx [40])
   have e2:D.str (PySem.Str.ofString ")")=dS [41]:=congrArg D.str (by decide:PySem.Str.ofString ")"=tx [41])
   rw[e1,e2];show _=!(dS (40::r++[41]),_);have o1':lA .Add (dS [40]) (dS r)=!(.dat (dS (40::r))):=o1;generalize dS (40::r++[41])=R1 at o2 ⊢
   generalize dS (40::r)=R2 at o1' o2;generalize dS r=R3 at h4 o1';generalize dS [40]=R4 at o1' ⊢
   generalize dS [41]=R5 at o2 ⊢
   simp! [U,h4,o1',o2]
 have eM:K.map dS++(cX K 8 l []).map (λr=>dS (zo r))=(K++(cX K l l []).map zo).map dS:=by rw[e8,AW,List.map_map];rfl
 have IW:(K.map dS).length+((cX K 8 l []).map λr=>dS (zo r)).length<=lim:=by rw[dE,dE];exact aF _ (by have:=ok.few;lia)
 have so:=nW (K++(cX K l l []).map zo) (by rw[eQ,dE,<- e8];have:=ok.few;lia)
 have o:lA .Add (.lst (K.map dS)) (.lst ((cX K 8 l []).map λr=>dS (zo r)))=!(.new ((K++(cX K l l []).map zo).map dS)):=by
  rw[<- eM];show (if _ then _ else _)=_
  rw[tJ IW]
 have fl:∀x∈(cX K 8 l []).map (λr=>dS (zo r)),jA x=true:=λx hx=>by
  obtain⟨r,_,rfl⟩:=i9.mp hx;rfl
 have fz:∀KL:List D,List.map fB [‹m›,.own KL,‹l›]=[‹m›,.dat (.lst KL),‹l›]:=λ_=>rfl
 have eN:Vx l K=aJ (K++(cX K l l []).map zo):=rfl;rw[eN];generalize (aJ (K++(cX K l l []).map zo)).map dS=R1 at so ⊢
 generalize (K++(cX K l l []).map zo).map dS=R2 at so o;generalize ((cX K 8 l []).map λr=>dS (zo r))=R3 at cp o fl
 generalize K.map dS=KL at cp o ⊢
 unfold WT;simp! [U,fz,cp,o,so,tJ fl]
theorem Vy(m:Nat)(hm:m<=8)(ok:∀l,l<m->BV l (sI l))(okm:BV 0 (sI m)):cB (rn (n+351)) (k+9) (Ig ro) [.int m]=!(.new ((cdm m).map dS)):=by
 obtain⟨g',⟨a2,l,h1,e,rfl⟩,w⟩:=d9 (T:=.nm 2) (b:=(rn (n+350)).b [] (k+9) (WT ro)) (λ(j:Nat)=>D.int (0+(j:Int)))
  (I:=λ(rest:List Nat) g=>∃(a2:Slot) (l:Nat),l<=m/\rest=(List.range (m - l)).map (· + l)/\g=[‹m›,.own ((sI l).map dS),a2])
  (step:=λj rest g hI=>by
   obtain⟨a2,l,hl,e,rfl⟩:=hI;rw[Int.zero_add];have hlt:l<m:=CS λz=>by
    have:m - l=0:=by lia
    rw[this]at e;cases e
   obtain⟨x,hx⟩:∃x,m - l=x+1:=#[m - l - 1,by lia]
   rw[hx,DJ,List.map_cons,List.map_map]at e;injection e with e1 e2;rw[xI]at e1;subst e1;refine#[_,_,rfl,Ii U hR m j ⋯ _ (ok j hlt) .no,‹j›,j+1,hlt,?_,rfl];rw[e2,show m - (j+1)=x by lia]
   refine AL λy _=>?_
   show Nat.succ y+j=y+(j+1);lia) ((List.range m).map (· + 0)) [‹m›,.own ((sI 0).map dS),.no] #[.no,0,sR _,rfl,rfl]
 have el:l=m:=by
  have:(List.range (m - l)).length=0:=by have:=congrArg List.length e;rw[dE]at this;exact this.symm
  rw[BU]at this;lia
 subst el;have eR:(List.range l).map (λx=>x+0)=List.range l:=List.map_id' _
 rw[eR]at w;have o:=okm;have cp:cR (rn (n+349)) [] (k+9) 3 2 (.nm 4) ⇑1 (!(.cmp .Eq (.blt .len [⇑4]) (.bin .Mult ↥2 ⇑0))) ⇑4 [‹l›,.own ((sI l).map dS),a2]=!(((sI l).filter λc=>decide (c.length=2 * l)).map dS,[‹l›,.dat (.lst ((sI l).map dS)),a2]):=by
  refine vn (sI l) dS (λc=>decide (c.length=2 * l)) dS ?_ rfl ⋯ ⋯ ⋯ (aF _ (by have:=o.few;lia)) (λc hc G' hG=>?_) λc hc _ G' hG=>?_
  . generalize (sI l).map dS=KL;simp! [U,g7]
  .
   have h0:G'[0]?=!‹l›:=hG.1 0 ⋯;have h4:=hG.2;have l1:kW .len [dS c]=!(.dat (.int (c.length:Int))):=zj c (by have:=o.two c hc;lia)
   have b0:lA .Mult (.int 2) (.int (l:Int))=!(.dat (.int (2 * (l:Int)))):=rfl;have b1:dQ .Eq (.int (c.length:Int)) (.int (2 * (l:Int)))=!(decide (c.length=2 * l)):=by
    show some (decide ((c.length:Int)=2 * (l:Int)))=_
    congr 1
    rw[decide_eq_decide];lia
   generalize decide (c.length=2 * l)=bb at b1 ⊢
   generalize dS c=C at h4 l1;generalize (2 * (l:Int))=l2 at b0 b1;generalize (c.length:Int)=cl at l1 b1;simp! [U,Bs,h0,h4,l1,b0,b1]
  .
   have h4:=hG.2;generalize dS c=C at h4 ⊢
   simp! [U,h4]
 have hw:g7 (rn (n+350)) [] (k+9) false (.dY ⇑0) [‹l›,.own [],.no]=!((List.range l).map λ(x:Nat)=>D.int (0+(x:Int)),[‹l›,.own [],.no]):=by simp! [U,g7,eE l ⋯,iC]
 have eC:cdm l=(sI l).filter λc=>decide (c.length=2 * l):=rfl
 rw[eC];have w':jE (.nm 2) ((rn (n+350)).b [] (k+9) (WT ro)) ((List.range l).map λ(x:Nat)=>D.int (0+(x:Int))) [‹l›,.own [],.no]=!(.nx,[‹l›,.own ((sI l).map dS),a2]):=w
 generalize ((sI l).filter λc=>decide (c.length=2 * l)).map dS=R1 at cp ⊢
 generalize (sI l).map dS=KL at cp w';generalize hb':(rn (n+350)).b [] (k+9) (WT ro)=bb at w';unfold cB Ig;generalize ((List.range l).map λ(x:Nat)=>D.int (0+(x:Int)))=its at hw w'
 have hT:(Tg.nm 2).Bq=false:=rfl;simp! [U,hT,hw,hb',w',cp]
end
end Ev
namespace cF
open Ev
noncomputable def qg:List PySem.Addr:=[49]
def x3:Fx:=#[3,8,[(.set 3 (.blt .list [⇑0])),(.set 4 ↥1),(.loop (.nm 5) (.fS ↥1 (.bin .Add (.bin .FloorDiv (.bin .Sub (.blt .len [⇑0]) ↥1) ⇑1) ↥1)) [(.set 4 (.bin .FloorDiv (.bin .Mult ⇑4 (.bin .Sub (.bin .Add ⇑2 ⇑5) ↥1)) ⇑5)),(.loop (.tp [6,7]) (.enum (.slice ⇑0 none (!(.bin .Sub (.blt .len [⇑0]) (.bin .Mult ⇑5 ⇑1))))) [(.uQ 3 (.bin .Add ⇑6 (.bin .Mult ⇑5 ⇑1)) (.bin .Mult ⇑4 ⇑7))])]),(.ret ⇑3)]]
def x4:Fx:=#[1,1,[(.expr (.call 2 [⇑0,↥1,↥20])),(.ret (.ix (.call 5 [⇑0]) (.neg ↥1)))]]
def x5:Fx:=#[1,5,[(.set 1 (.bin .Add (.lst [↥1]) (.bin .Mult (.lst [↥0]) (.bin .Sub ⇑0 ↥1)))),(.set 2 (.lst [])),(.loop (.nm 3) (.fS ↥1 (.bin .Add ⇑0 ↥1)) [(.set 4 (.ix ⇑1 (.bin .Sub ⇑3 ↥1))),(.expr (.append 2 ⇑4)),(.set 1 (.call 3 [⇑1,⇑3,⇑4]))]),(.ret ⇑2)]]
def x6:Fx:=#[1,5,[(.expr (.call 2 [⇑0,↥1,↥20])),(.set 1 (.call 5 [⇑0])),(.set 2 (.slice ⇑1 none (!(.neg ↥1)))),(.set 3 (.blt .sum [(.comp 5 3 (.tp [6,7]) (.zip ⇑2 (.rev ⇑2)) none (.bin .Mult ⇑6 ⇑7))])),(.set 4 (.ite (.cmp .Eq (.bin .Mod ⇑0 ↥2) ↥0) (.ix ⇑1 (.bin .Sub (.bin .FloorDiv ⇑0 ↥2) ↥1)) ↥0)),(.ret (.bin .Sub (.ix ⇑1 (.neg ↥1)) (.bin .FloorDiv (.bin .Sub ⇑3 ⇑4) ↥2)))]]
def x10:Fx:=#[2,4,[(.set 2 ↥1),(.loop (.nm 3) (.dY ⇑1) [(.set 2 (.bin .FloorDiv (.bin .Mult ⇑2 (.bin .Add ⇑0 ⇑3)) (.bin .Add ⇑3 ↥1)))]),(.ret ⇑2)]]
def WW:Fx:=#[1,8,[(.set 1 (.bin .Add (.lst [↥1]) (.bin .Mult (.lst [↥0]) (.blt .len [⇑0])))),(.loop (.nm 2) (.fS ↥1 (.bin .Add (.blt .len [⇑0]) ↥1)) [(.set 3 (.bin .Mult (.lst [↥0]) (.blt .len [⇑1]))),(.loop (.nm 4) (.dY (.blt .len [⇑1])) [(.loop (.nm 5) (.dY (.bin .Add (.bin .FloorDiv (.bin .Sub (.bin .Sub (.blt .len [⇑1]) ↥1) ⇑4) ⇑2) ↥1)) [(.set 6 (.bin .Add ⇑4 (.bin .Mult ⇑5 ⇑2))),(.set 7 (.call 10 [(.ix ⇑0 (.bin .Sub ⇑2 ↥1)),⇑5])),(.item 3 ⇑6 (.bin .Add (.ix ⇑3 ⇑6) (.bin .Mult (.ix ⇑1 ⇑4) ⇑7)))])]),(.set 1 ⇑3)]),(.ret (.slice ⇑1 (!↥1) none))]]
def ZW:Fx:=#[1,3,[(.set 1 (.lst [↥1])),(.loop (.nm 2) (.fS ↥1 ⇑0) [(.expr (.append 1 (.ix (.call 11 [⇑1]) (.neg ↥1))))]),(.ret ⇑1)]]
def ZX:Fx:=#[1,5,[(.set 1 (.lst [])),(.set 2 (.lst [])),(.set 3 ↥0),(.loop (.nm 4) ⇑0 [(.ite (.cmp .Eq ⇑4 (.val (.str (PySem.Str.ofString "(")))) [(.ite (.cmp .NotEq ⇑2 (.lst [])) [(.expr (.append 1 (.tup [(.ix ⇑2 (.neg ↥1)),⇑3])))] []),(.set 2 (.bin .Add ⇑2 (.lst [⇑3]))),(.set 3 (.bin .Add ⇑3 ↥1))] [(.set 2 (.slice ⇑2 none (!(.neg ↥1))))])]),(.ret (.tup [⇑3,(.blt .tuple [(.blt .sorted [⇑1])])]))]]
noncomputable def WX:Fx:=#[1,4,[(.set 1 (.val .non)),.stuck,(.set 3 (.lst [(.pZ ⇑1 [(49,false)]),(.pZ ⇑1 [(49,true)]),(.pZ ⇑1 [(49,false)])])),(.set 3 (.bin .Add ⇑3 (.lst [(.pZ ⇑1 [(49,false)]),(.pZ ⇑1 [(49,false)]),(.pZ ⇑1 [(49,false)])]))),(.set 3 (.bin .Add ⇑3 (.lst [(.pZ ⇑1 [(49,false)]),(.pZ ⇑1 [(49,false)]),(.pZ ⇑1 [(49,false)])]))),(.set 3 (.bin .Add ⇑3 (.lst [(.pZ ⇑1 [(49,false)]),(.pZ ⇑1 [(49,false)]),(.pZ ⇑1 [(49,false)])]))),(.set 3 (.bin .Add ⇑3 (.lst [(.pZ ⇑1 [(49,false)]),(.pZ ⇑1 [(49,false)]),(.pZ ⇑1 [(49,false)])]))),(.ite (.not (.pZ ⇑1 [(49,true)])) [(.ret (.val .non))] []),(.ret (.comp 4 2 (.nm 5) (.dY ↥15) (!(.ix ⇑3 ⇑5)) ⇑5))]]
noncomputable def ZZ:Fx:=#[1,5,[(.set 1 (.blt .len [⇑0])),(.set 2 ↥0),(.loop (.nm 3) (.fS ↥1 ⇑1) [(.set 2 (.bin .Add ⇑2 (.bin .Mult (.ix ⇑0 (.bin .Sub ⇑3 ↥1)) (.ix ⇑0 (.bin .Sub (.bin .Sub ⇑1 ⇑3) ↥1)))))]),(.set 4 (.ite (.cmp .Eq (.bin .Mod ⇑1 ↥2) ↥0) (.ix ⇑0 (.bin .Sub (.bin .FloorDiv ⇑1 ↥2) ↥1)) ↥0)),(.ret (.bin .Sub (.ix ⇑0 (.neg ↥1)) (.bin .FloorDiv (.bin .Sub ⇑2 ⇑4) ↥2)))]]
noncomputable def s1:Sm:=.set 1 (.call 8 [⇑0,↥0])
noncomputable def s2:Sm:=.set 2 (.ix (.lst [↥8,↥7,↥20,(.bin .Add ↥1 (.call 9 [⇑1,↥20])),↥6,↥5,↥4,(.bin .Add ↥1 (.call 9 [⇑1,↥8]))]) (.call 9 [⇑1,↥8]))
noncomputable def s3:Sm:=.set 3 (.call 12 [⇑2])
def s4:Sm:=.ite (.or [(.not (.peek (.call 13 [(.call 4 [⇑2]),(.ix ⇑3 (.neg ↥1))]))),(.not (.peek (.call 13 [(.call 6 [⇑2]),(.call 23 [⇑3])])))]) [(.ret (.val (.bl false)))] []
def s5:Sm:=.ite (.cmp .Lt ⇑2 ↥9) [(.set 4 (.call 15 [⇑2])),(.set 5 (.sset (.comp 7 2 (.nm 8) ⇑4 none (.call 20 [(.call 21 [⇑8])])))),(.ite (.or [(.cmp .NotEq (.blt .len [⇑4]) (.ix ⇑3 (.neg ↥1))),(.cmp .NotEq (.blt .len [⇑5]) (.call 6 [⇑2]))]) [(.ret (.val (.bl false)))] [])] []
def s6:Sm:=.set 6 (.ix (.lst [↥0,↥21,(.neg ↥1),(.val (.bl true)),(.val .non),(.val (.str (PySem.Str.ofString "2"))),(.tup [↥2]),(.bin .Pow ↥10 ↥29)]) (.call 9 [⇑1,↥8]))
noncomputable def s7:Sm:=.ite (.cmp .NotEq (.uP 22 1 qg (.call 4 [⇑6])) (.lst [↥1])) [(.ret (.val (.bl false)))] []
def s8:Sm:=.ret (.cmp .Eq (.uP 22 1 qg (.call 6 [⇑6])) (.lst [↥1]))
noncomputable def WY:Fx:=#[1,7,[s1,s2,s3,s4,s5,s6,s7,s8]]
def fns:List Fx:=[iP,gH 0,ZN 1 0,x3,x4,x5,x6,kX,iO 7,cS,x10,WW,ZW,dz 13,cD 14,Ig 14,kj,kY 16 17,qu 16,lM 18,ku 19 17,ZX,WX,ZZ,WY]
theorem c4:fns[4]?=!(x4):=rfl
theorem c6:fns[6]?=!(x6):=rfl
theorem c7:fns[7]?=!(kX):=rfl
theorem c8:fns[8]?=!(iO 7):=rfl
theorem c9:fns[9]?=!(cS):=rfl
theorem c11:fns[11]?=!(WW):=rfl
theorem c12:fns[12]?=!(ZW):=rfl
theorem c13:fns[13]?=!(dz 13):=rfl
theorem c14:fns[14]?=!(cD 14):=rfl
theorem c15:fns[15]?=!(Ig 14):=rfl
theorem c16:fns[16]?=!(kj):=rfl
theorem c17:fns[17]?=!(kY 16 17):=rfl
theorem c18:fns[18]?=!(qu 16):=rfl
theorem c19:fns[19]?=!(lM 18):=rfl
theorem c20:fns[20]?=!(ku 19 17):=rfl
theorem c21:fns[21]?=!(ZX):=rfl
theorem c22:fns[22]?=!(WX):=rfl
theorem c23:fns[23]?=!(ZZ):=rfl
end cF
namespace cF
open Ev zg
def dec:Nat->Nat->dR
 | 0,_=>[]
 |f+1,w=>(41 - w % 2)::dec f (w / 2)
noncomputable def trF:dR->~~~0->Int->List (~~~0)
 | [],_,_=>[]
 |c::l,st,n=>if c=40 then (match st with | []=>trF l [n] (n+1) |p::_=>[p,n]::trF l (n::st) (n+1))else trF l st.tail n
def PL(c:dR): ~~~5:=dF rA (trF c [] 0)
def rtV:Nat->Ji->Int->Option Int->List Int
 | 0,_,_,_=>[]
 |f+1,E,p,a=>p::(dP E p a).flatMap λc=>rtV f E c (!p)
def rtB:Nat->Ji->Int->Option Int->Bool
 | 0,_,_,_=>false
 |f+1,E,p,a=>(dP E p a).all λc=>rtB f E c (!p)
theorem PN:∀(f:Nat) (E:Ji) (p:Int) (a:Option Int),rtB f E p a=true->RT E p a (rtV f E p a)
 | 0,_,_,_,h=>nomatch h
 |f+1,E,p,a,h=>.mk p a (λc=>rtV f E c (!p)) λc hc=>PN f E c (!p) (mE.mp h c hc)
def wbB(m:Nat)(t: ~~~5):Bool:=(t.all λx=>match x with | [a,b]=>decide (0<=a)&&decide (a<b)&&decide (b<m) |_=>false)&&decide (t.Pairwise λx y=>HT.lexLt x y=true)&&decide (t.length<=15)
theorem Z0{m:Nat}{t: ~~~5}(h:wbB m t=true):Wb m t:=by
 unfold wbB at h;rw[gL,gL]at h;refine#[λx hx=>?_,hU h.1.2,hU h.2]
 have:=mE.mp h.1.1 x hx;split at this
 . rename_i a b;rw[gL,gL]at this;exact#[a,b,rfl,hU this.1.1,hU this.1.2,hU this.2]
 . cases this
def jL(m d:Nat):dR:=dec (2 * m) (d % 65536)
def vE(m d:Nat):dR:=dec (2 * m) (d / 65536)
def PJ(m d:Nat):Bool:=wbB m (PL (jL m d))&&((nums m).all λp=>rtB m (fF (PL (jL m d))) p none&&decide ((rtV m (fF (PL (jL m d))) p none).length<=m))&&decide (Ia m (PL (jL m d))=vE m d)
noncomputable def dat:List (List Nat):=[[],[65537],[196611],[720903,720907],[2555919,2818071,2555943,2818091],[6750239,9895983,9896015,6750351,11206743,9896087,6750311,9896103,11206827],[26148927,26673247,40304799,26673439,26149407,39256239,43450671,26673711,40304847,39256399,40305231,26149263,26673807,44761431,39256663,26673559,43451031,40305255,39256743,44761771],[59703423,103743679,105840959,105841215,103744575,59705407,106365279,160891487,93783135,103745631,107413919,174523039,160892063,105842847,105841439,106366239,105842975,59704863,103746079,156697263,173474991,106367151,160891695,173475119,160893231,103745071,93784623,174523599,107415759,156697935,174524751,105842255,160893519,59704207,103744911,105843087,106367631,178980183,156698967,106366551,173476439,93783447,160893335,173476503,107415143,174525031,156699303,178981547],[236912895,237961599,240059007,596575359,240060543,237965439,236920959,414122687,422511807,640616639,372183231,237969599,416219967,424609087,642713919,640618815,240066879,416220735,424610367,422515263,596582975,240061503,414127167,240067647,236918847,237971519,425133407,643238239,374804831,414130527,429327967,697764447,630657631,422519391,640617567,374805599,640623711,237967455,372189279,644286879,429330847,416227743,711395999,697766559,424616607,642714783,643241119,642720927,240064671,640624799,596576031,422513439,424612639,416228127,425137439,424617247,596580639,422521119,236916255,237966879,240068127,414132767,626461359,693572271,425140911,643239087,710349999,643245231,414128303,374810799,630655791,697766703,429335343,693572911,697771311,422517039,630663471,237964847,372184623,640624175,374811183,644287695,711398607,644293839,416225487,429336783,626464079,711402831,424614223,697772367,240062031,640620111,642721359,643246671,596583311,414127503,422520207,416225679,424618383,425142927,715855191,626468183,425138519,693578071,374806103,643245655,710355543,630662551,429332887,697772439,693578391,644294247,711404135,626469543,715860651]]
def dt(m:Nat):List Nat:=dat.getD m []
end cF
namespace cF
open Ev zg
noncomputable def Z5: ~~~0:=[1,1,2,4,9,20,48,115,286,719,1842,4766,12486,32973,87811,235381,634847,1721159,4688676,12826228]
noncomputable def trs: ~~~0:=[1,1,1,2,3,6,11,23,47,106,235,551,1301,3159,7741,19320,48629,123867,317955,823065]
def rt(m:Nat):Int:=Z5.getD (m - 1) 0
def tr(m:Nat):Int:=trs.getD (m - 1) 0
def ro(m:Nat):List D:=(Z5.take m).map .int
noncomputable def sG:List D:=[.int 0,.int 21,.int (-1),.bl true,.non,.str (PySem.Str.ofString "2"),.tup [.int 2],.int 100000000000000000000000000000]
def Oe(rn:Rn)(k:Nat)(C:Nat)(c:Int):Prop:=∃r g3,rn.b [] k (WX.body.drop 2) ((List.replicate WX.n .no).set 1 (.dat (.kF C)))=!(.rt r,g3)/\bX [] g3 r=!(.new [.int c])
def gOk(rn:Rn)(k i:Nat):Prop:=∃r gc l,rn.b [0] k WW.body [.own (ro i),.no,.no,.no,.no,.no,.no,.no]=!(.rt r,gc)/\gc[0]?=!(.own (ro i))/\bX [0] gc r=!(.new l)/\L2.iS l (-1)=!(.int (rt (i+1)))
structure Fk(rn:Nat->Rn)(n k:Nat):Prop where
 gth:∀i,1<=i/\i<=19->gOk (rn (n+360)) (k+8) i
 v4:∀m:Nat,1<=m/\m<=20->cB (rn (n+360)) (k+9) x4 [.int m]=!(.dat (.int (rt m)))
 v6:∀m:Nat,1<=m/\m<=20->cB (rn (n+360)) (k+9) x6 [.int m]=!(.dat (.int (tr m)))
 v23:∀m:Nat,1<=m/\m<=20->cB (rn (n+360)) (k+9) ZZ [.lst (ro m)]=!(.dat (.int (tr m)))
 v6':∀m:Nat,1<=m/\m<=8->cB (rn (n+362)) (k+9) x6 [.int m]=!(.dat (.int (tr m)))
 tree:∀m:Nat,1<=m/\m<=8->∀d∈dt m,cB (rn (n+361)) (k+9) ZX [dS (jL m d)]=!(.dat (W m (PL (jL m d))))
 bd4:∀d∈sG,PB (rn (n+363)) (k+7) x4 [d]=!0
 bd6:∀d∈sG,PB (rn (n+363)) (k+7) x6 [d]=!0
 rf4:Oe (rn (n+364)) (k+8) 49 1
 rf6:Oe (rn (n+364)) (k+8) 49 1
 cds:∀m:Nat,1<=m/\m<=8->cdm m=(dt m).map (jL m)
 ok:∀l:Nat,l<8->BV l (sI l)
 okm:∀m:Nat,m<=8->BV 0 (sI m)
 chk:∀m:Nat,1<=m/\m<=8->∀d∈dt m,PJ m d=true
 num:∀m:Nat,1<=m/\m<=8->((dt m).length:Int)=rt m/\((bL [] ((dt m).map (vE m))).length:Int)=tr m/\(dt m).length<=200
section
variable{k n:Nat}{rn:Nat->Rn}(U:iT fns rn)
include U
theorem Vz(m:Nat)(hm:1<=m/\m<=8)(d:Nat)(hc:PJ m d=true)(n k:Nat):cB (rn (n+330)) (k+9) (ku 19 17) [W m (PL (jL m d))]=!(.dat (dS (vE m d))):=by
 unfold PJ at hc;rw[gL,gL]at hc;have wb:=Z0 hc.1.1;rw[<- hU hc.2];refine Ib U c19 c17 rfl rfl m hm _ _ (λn k=>BP U c18 c16 (n:=n) (k:=k) m hm _ wb) λp hp n k=>?_
 have hr:=mE.mp hc.1.2 p (fU.mpr hp);rw[gL]at hr;have:=Oc U c16 c17 m _ (λx hx=>wb.tie x hx) (oI wb.len ⋯) m p none _ (PN _ _ _ _ hr.1) (hU hr.2) ⋯ (n+40 * (8 - m)) (k+(8 - m))
 rw[show n+40 * (8 - m)+40 * m=n+320 by lia,show k+(8 - m)+m=k+8 by lia]at this
 exact this
omit U in
theorem VB{i:Nat}(h:i<=20):(ro i).length=i:=by unfold ro;rw[dE,mM];exact A6 h
omit U in
theorem Og:∀i,i<20->ro i++[.int (rt (i+1))]=ro (i+1):=by
 intro i h;have:(List.range 20).all λi=>decide ((Z5.take i)++[rt (i+1)]=Z5.take (i+1)):=by decide
 have:=hU (mE.mp this i (w8.mpr h));unfold ro;rw[<- this,AW];rfl
theorem by1{i:Nat}(hi:i<=19)(F:gOk (rn (n+360)) (k+8) i)(m:Nat):(rn (n+364)).b [] (k+9) [(.expr (.append 1 (.ix (.call 11 [⇑1]) (.neg ↥1))))] [‹m›,.own (ro i),‹i›]=!(.nx,[‹m›,.own (ro (i+1)),‹i›]):=by
 obtain⟨r,gc,l,h1,h2,h3,h4⟩:=F;have hl:=VB (i:=i) ⋯;have hc:dZ (rn (n+360)) WW (k+8) [.var 1] [‹m›,.own (ro i),‹i›]=!(.new l,[‹m›,.own (ro i),‹i›]):=by
  have e1:vars 0 [R.var 1]=[(0,1)]:=rfl;have e2:cL [R.var 1] [‹m›,.own (ro i),‹i›]=![.own (ro i)]:=rfl;have e3:cO WW.n [.own (ro i)]=[.own (ro i),.no,.no,.no,.no,.no,.no,.no]:=rfl;have e4:back [(0,1)] gc [‹m›,.own (ro i),‹i›]=![‹m›,.own (ro i),‹i›]:=by simp only[back,h2];rfl
  unfold dZ;rw[tJ #[rfl,by decide],e1,e2]
  dsimp only;rw[e3,show ([(0,1)]:List (Nat×Nat)).map (·.1)=[0]from rfl,h1]
  dsimp only;rw[e4];dsimp only;rw[h3]
 rw[<- Og i ⋯];have IW:(ro i).length<lim:=by rw[hl];exact y8 hi ⋯
 generalize ro i=L at hc IW;simp! [U,c11,hc,h4,IW]
theorem Z6(F:∀i,1<=i/\i<=19->gOk (rn (n+360)) (k+8) i)(m:Nat)(hm:1<=m/\m<=20):cB (rn (n+365)) (k+9) ZW [.int m]=!(.new (ro m)):=by
 obtain⟨g',⟨a2,i,h1,h2,e,rfl⟩,w⟩:=d9 (T:=.nm 2) (b:=(rn (n+364)).b [] (k+9) [(.expr (.append 1 (.ix (.call 11 [⇑1]) (.neg ↥1))))]) (λ(j:Nat)=>D.int (1+(j:Int)))
  (I:=λ(rest:List Nat) g=>∃(a2:Slot) (i:Nat),1<=i/\i<=m/\rest=(List.range (m - i)).map (· + (i - 1))/\g=[‹m›,.own (ro i),a2])
  (step:=λj rest g hI=>by
   obtain⟨a2,i,h1,h2,e,rfl⟩:=hI;have hlt:i<m:=CS λz=>by
    have:m - i=0:=by lia
    rw[this]at e;cases e
   obtain⟨x,hx⟩:∃x,m - i=x+1:=#[m - i - 1,by lia]
   rw[hx,DJ,List.map_cons,List.map_map]at e;injection e with e1 e2;have ej:(1:Int)+(j:Int)=(i:Int):=by lia
   rw[ej];refine#[_,_,rfl,by1 U ⋯ (F i #[h1,by lia]) m,‹i›,i+1,by lia,hlt,?_,rfl]
   rw[e2,show m - (i+1)=x by lia]
   refine AL λy _=>?_
   show Nat.succ y+(i - 1)=y+(i+1 - 1);lia) ((List.range (m - 1)).map (· + (1 - 1))) [‹m›,.own (ro 1),.no] #[.no,1,eA _,hm.1,rfl,rfl]
 have ei:i=m:=by
  have:(List.range (m - i)).length=0:=by have:=congrArg List.length e;rw[dE]at this;exact this.symm
  rw[BU]at this;lia
 subst ei;have eR:(List.range (i - 1)).map (λx=>x+(1 - 1))=List.range (i - 1):=List.map_id' _
 rw[eR]at w;have hw:g7 (rn (n+364)) [] (k+9) false (.fS ↥1 ⇑0) [‹i›,.own (ro 1),.no]=!((List.range (i - 1)).map λ(x:Nat)=>D.int (1+(x:Int)),[‹i›,.own (ro 1),.no]):=by
  have e2:((i:Int) - 1).toNat=i - 1:=by lia
  simp! [U,g7,eE i ⋯,show GK 1=true from by decide,iC,e2]
 generalize ((List.range (i - 1)).map λ(x:Nat)=>D.int (1+(x:Int)))=its at hw w
 generalize hb':(rn (n+364)).b [] (k+9) [(.expr (.append 1 (.ix (.call 11 [⇑1]) (.neg ↥1))))]=bb at w;have hT:(Tg.nm 2).Bq=false:=rfl;have e1:ro 1=[.int 1]:=rfl;rw[e1]at hw w;generalize ro i=L at w ⊢
 unfold cB ZW;simp! [U,aF 1 ⋯,hT,hw,hb',w]
end
end cF
namespace cF
open Ev zg
section
variable{k n:Nat}{g g1:G}{rn:Nat->Rn}(U:iT fns rn)
include U
theorem Oh(s:Int)(fl:Bool)(a0 a2 a3 a4 a5 a6:Slot):∃(m:Nat) (s':Int),(1<=m/\m<=20)/\aY (rn (n+366)) [] (k+10) s2 [a0,St s fl,a2,a3,a4,a5,a6]=!(.nx,[a0,St s' fl,‹m›,a3,a4,a5,a6]):=by
 obtain⟨x,s1,x1,x2,q1⟩:=lK U (n:=n+342) (k:=k+9) (g:=[a0,St s fl,a2,a3,a4,a5,a6]) (i:=1) (s:=s) (fl:=fl) (m:=20) rfl ⋯;obtain⟨y,s2',y1,y2,q2⟩:=lK U (n:=n+342) (k:=k+9) (g:=[a0,St s1 fl,a2,a3,a4,a5,a6]) (i:=1) (s:=s1) (fl:=fl) (m:=8) rfl ⋯;obtain⟨z,s3',z1,z2,q3⟩:=lK U (n:=n+344) (k:=k+9) (g:=[a0,St s2' fl,a2,a3,a4,a5,a6]) (i:=1) (s:=s2') (fl:=fl) (m:=8) rfl ⋯;have JN:=q1;have Wa:=q2;have q3':=q3;obtain⟨m,hm,em⟩:∃m:Nat,(1<=m/\m<=20)/\L2.iS [D.int 8,.int 7,.int 20,.int (1+x),.int 6,.int 5,.int 4,.int (1+y)] z=!(.int m):=by
  rcases (by lia:z=0\/z=1\/z=2\/z=3\/z=4\/z=5\/z=6\/z=7)with rfl |rfl |rfl |rfl |rfl |rfl |rfl |rfl
  . exact#[8,by decide,rfl]
  . exact#[7,by decide,rfl]
  . exact#[20,by decide,rfl]
  .
   obtain⟨m,rfl⟩:∃m:Nat,x=m:=#[x.toNat,by lia]
   exact#[1+m,by lia,rfl]
  . exact#[6,by decide,rfl]
  . exact#[5,by decide,rfl]
  . exact#[4,by decide,rfl]
  .
   obtain⟨m,rfl⟩:∃m:Nat,y=m:=#[y.toNat,by lia]
   exact#[1+m,by lia,rfl]
 refine#[m,s3',hm,?_];unfold s2;simp! [U,c9,JN,Wa,q3',em,aF 8 ⋯]
theorem VD(s:Int)(fl:Bool)(a0 a2 a3 a4 a5 a6:Slot):∃(b:D) (s':Int),b∈sG/\aY (rn (n+366)) [] (k+10) s6 [a0,St s fl,a2,a3,a4,a5,a6]=!(.nx,[a0,St s' fl,a2,a3,a4,a5,.dat b]):=by obtain⟨z,s',z1,z2,q⟩:=lK U (n:=n+344) (k:=k+9) (g:=[a0,St s fl,a2,a3,a4,a5,a6]) (i:=1) (s:=s) (fl:=fl) (m:=8) rfl ⋯;have q':=q;obtain⟨b,hb,eb⟩:=N3 (l:=sG) #[z1,z2];have o:lA .Pow (.int 10) (.int 29)=!‹100000000000000000000000000000›:=rfl;refine#[b,s',hb,?_];unfold sG at eb;unfold s6;simp! [U,c9,q',o,eb,aF 8 ⋯,aF 1 ⋯]
variable(F:Fk rn n k)
include F
theorem Z7(m:Nat)(hm:1<=m/\m<=20)(a0 a1 a3 a4 a5 a6:Slot):aY (rn (n+366)) [] (k+10) s3 [a0,a1,‹m›,a3,a4,a5,a6]=!(.nx,[a0,a1,‹m›,.own (ro m),a4,a5,a6]):=by
 have q:=Z6 U F.gth m hm;generalize ro m=L at q ⊢
 unfold s3;simp! [U,c12,cW (fx:=ZW) rfl,q]
omit U F in
theorem PX(m:Nat)(hm:1<=m/\m<=20):L2.iS (ro m) (-1)=!(.int (rt m)):=by
 have:(List.range 21).all λm=>decide (m=0)||(match L2.iS (ro m) (-1)with |!(.int j)=>decide (j=rt m) |_=>false):=by decide +kernel
 have:=mE.mp this m (w8.mpr ⋯);rw[u7 ⋯,Bool.false_or]at this;split at this
 . rename_i j e;rw[e,hU this]
 . cases this
theorem Z8(m:Nat)(hm:1<=m/\m<=20)(a0 a1 a4 a5 a6:Slot):aY (rn (n+366)) [] (k+10) s4 [a0,a1,‹m›,.own (ro m),a4,a5,a6]=!(.nx,[a0,a1,‹m›,.own (ro m),a4,a5,a6]):=by
 have q1:=F.v4 m hm;have q2:=F.v6 m hm;have q3:=F.v23 m hm;have q4:=λi n k=>zb U c13 0 n k (.int i) trivial
 have la:=PX m hm;have hz:∀L:List D,List.map fB [a0,a1,‹m›,.own L,a4,a5,a6]=[fB a0,fB a1,‹m›,.dat (.lst L),fB a4,fB a5,fB a6]:=λ_=>rfl
 generalize ro m=L at q3 la ⊢
 unfold s4;simp! [U,hz,c4,c6,c23,c13,cW (fx:=x4) rfl,cW (fx:=x6) rfl,cW (fx:=ZZ) rfl,dH (fx:=dz 13) rfl,q1,q2,q3,q4,la,flat]
theorem Ij(f:Nat)(fx:Fx)(hf:fns[f]?=!fx)(h1:fx.np=1)(N:Nat)(b:D)(y:PB (rn (n+N+1)) (k+7) fx [b]=!0)(hr:Oe (rn (n+N+2)) (k+8) 49 1)(a0 a1 a2 a3 a4 a5:Slot):(rn (n+N+3)).e [] (k+10) (.uP 22 1 qg (.call f [⇑6])) [a0,a1,a2,a3,a4,a5,.dat b]=!(.new [.int 1],[a0,a1,a2,a3,a4,a5,.dat b]):=by
 have nz:List.map noOwn [a0,a1,a2,a3,a4,a5,.dat b]=[noOwn a0,noOwn a1,noOwn a2,noOwn a3,noOwn a4,noOwn a5,.dat b]:=rfl;have hc:qg[0]?=!49:=rfl;obtain⟨r,g3,f1,f2⟩:=hr;have x1:(rn (n+N+2)).x [] (k+8) (.call f [⇑6]) (List.map noOwn [a0,a1,a2,a3,a4,a5,.dat b])=!(0,[noOwn a0,noOwn a1,noOwn a2,noOwn a3,noOwn a4,noOwn a5,.dat b]):=by rw[nz];simp! [U,hf,N1 (fx:=fx) h1,y]
 rw[U.e];simp only[aX,c22,x1,hc,f1,f2]
theorem Z9(b:D)(hb:b∈sG)(a0 a1 a2 a3 a4 a5:Slot):aY (rn (n+366)) [] (k+10) s7 [a0,a1,a2,a3,a4,a5,.dat b]=!(.nx,[a0,a1,a2,a3,a4,a5,.dat b]):=by
 have rr:=Ij U F 4 x4 c4 rfl 362 b (F.bd4 b hb) F.rf4 a0 a1 a2 a3 a4 a5;rw[show n+362+3=n+365 from rfl]at rr
 have ll:(rn (n+365)).e [] (k+10) (.lst [↥1]) [a0,a1,a2,a3,a4,a5,.dat b]=!(.new [.int 1],[a0,a1,a2,a3,a4,a5,.dat b]):=by simp! [U,aF 1 ⋯]
 have cm:dQ .NotEq (.lst [.int 1]) (.lst [.int 1])=!false:=HB [1] [1];have t1:(rn (n+366)).t [] (k+10) (.cmp .NotEq (.uP 22 1 qg (.call 4 [⇑6])) (.lst [↥1])) [a0,a1,a2,a3,a4,a5,.dat b]=!(false,[a0,a1,a2,a3,a4,a5,.dat b]):=by rw[U.t];simp only[stepT,argsR,rr,ll,norm,pk,cm]
 have b0:(rn (n+366)).b [] (k+10) [] [a0,a1,a2,a3,a4,a5,.dat b]=!(.nx,[a0,a1,a2,a3,a4,a5,.dat b]):=by rw[U.b];rfl
 unfold s7;simp only[aY,t1,b0]
theorem aac(b:D)(hb:b∈sG)(a0 a1 a2 a3 a4 a5:Slot):aY (rn (n+366)) [] (k+10) s8 [a0,a1,a2,a3,a4,a5,.dat b]=!(.rt (.dat (.bl true)),[a0,a1,a2,a3,a4,a5,.dat b]):=by
 have rr:=Ij U F 6 x6 c6 rfl 362 b (F.bd6 b hb) F.rf6 a0 a1 a2 a3 a4 a5;rw[show n+362+3=n+365 from rfl]at rr
 have ll:(rn (n+365)).e [] (k+10) (.lst [↥1]) [a0,a1,a2,a3,a4,a5,.dat b]=!(.new [.int 1],[a0,a1,a2,a3,a4,a5,.dat b]):=by simp! [U,aF 1 ⋯]
 have cm:dQ .Eq (.lst [.int 1]) (.lst [.int 1])=!true:=Hz [1] [1];unfold s8;simp only[aY];rw[U.e];simp only[aX,argsR,rr,ll,norm,pk,cm]
theorem aad(m:Nat)(hm:1<=m/\m<=20)(a0 a1 a6:Slot):∃a4 a5,aY (rn (n+366)) [] (k+10) s5 [a0,a1,‹m›,.own (ro m),.no,.no,a6]=!(.nx,[a0,a1,‹m›,.own (ro m),a4,a5,a6]):=by
 by_cases h:m<9
 .
  have h8:1<=m/\m<=8:=by lia
  have lt:dQ .Lt (.int (m:Int)) (.int 9)=!true:=by show some (decide ((m:Int)<9))=_;rw[w9 ⋯]
  have q1:=λn k=>Vy U c14 (n:=n) (k:=k) m h8.2 (λl hl=>F.ok l ⋯) (F.okm m h8.2)
  have q3:=F.v6' m h8;obtain⟨w1,w2,w3⟩:=F.num m h8;rw[F.cds m h8,List.map_map]at q1;have i1:aY (rn (n+365)) [] (k+10) (.set 4 (.call 15 [⇑2])) [a0,a1,‹m›,.own (ro m),.no,.no,a6]=!(.nx,[a0,a1,‹m›,.own (ro m),.own ((dt m).map (dS ∘ jL m)),.no,a6]):=by
   generalize (dt m).map (dS ∘ jL m)=L at q1 ⊢
   simp! [U,c15,cW (fx:=Ig 14) rfl,q1]
  have i2:aY (rn (n+365)) [] (k+10) (.set 5 (.sset (.comp 7 2 (.nm 8) ⇑4 none (.call 20 [(.call 21 [⇑8])])))) [a0,a1,‹m›,.own (ro m),.own ((dt m).map (dS ∘ jL m)),.no,a6]=!(.nx,[a0,a1,‹m›,.own (ro m),.dat (.lst ((dt m).map (dS ∘ jL m))),.own ((aJ (bL [] ((dt m).map (vE m)))).map dS),a6]):=by
   have cp:cR (rn (n+363)) [] (k+10) 7 2 (.nm 8) ⇑4 none (.call 20 [(.call 21 [⇑8])]) [a0,a1,‹m›,.own (ro m),.own ((dt m).map (dS ∘ jL m)),.no,a6]=!((dt m).map λd=>dS (vE m d),[a0,a1,‹m›,.own (ro m),.dat (.lst ((dt m).map (dS ∘ jL m))),.no,a6]):=by
    refine yX (dt m) (dS ∘ jL m) (λd=>dS (vE m d)) ?_ rfl ⋯ ⋯ ⋯ (aF _ (oI w3 ⋯)) λd hd G' hG=>?_
    . generalize (dt m).map (dS ∘ jL m)=L;simp! [U,g7]
    .
     have h4:G'[8]?=!(.dat (dS (jL m d))):=hG.2;have p1:=F.tree m h8 d hd;have p2:=λn k=>Vz U m h8 d (F.chk m h8 d hd) n k
     generalize dS (jL m d)=A at h4 p1;generalize dS (vE m d)=B at p2 ⊢
     generalize W m (PL (jL m d))=T at p1 p2;simp! [U,h4,c20,c21,cW (fx:=ku 19 17) rfl,cW (fx:=ZX) rfl,p1,p2]
   have em:((dt m).map λd=>dS (vE m d))=((dt m).map (vE m)).map dS:=by rw[List.map_map];rfl
   rw[em]at cp;have st:=dX ((dt m).map (vE m));have sl:(dt m).length<1000:=by lia
   generalize (dt m).map (dS ∘ jL m)=L at cp ⊢
   generalize ((dt m).map (vE m)).map dS=L2 at cp st;simp! [U,cp,st,sl]
  have i3:aY (rn (n+365)) [] (k+10) (.ite (.or [(.cmp .NotEq (.blt .len [⇑4]) (.ix ⇑3 (.neg ↥1))),(.cmp .NotEq (.blt .len [⇑5]) (.call 6 [⇑2]))]) [(.ret (.val (.bl false)))] []) [a0,a1,‹m›,.own (ro m),.dat (.lst ((dt m).map (dS ∘ jL m))),.own ((aJ (bL [] ((dt m).map (vE m)))).map dS),a6]=!(.nx,[a0,a1,‹m›,.own (ro m),.dat (.lst ((dt m).map (dS ∘ jL m))),.own ((aJ (bL [] ((dt m).map (vE m)))).map dS),a6]):=by
   have b1:kW .len [.lst ((dt m).map (dS ∘ jL m))]=!(.dat (.int (rt m))):=by rw[<- w1,nO,dE]
   have b2:kW .len [.lst ((aJ (bL [] ((dt m).map (vE m)))).map dS)]=!(.dat (.int (tr m))):=by rw[<- w2,nO,dE,(bQ _).length_eq]
   have la:=PX m hm;generalize (dt m).map (dS ∘ jL m)=L at b1 ⊢
   generalize (aJ (bL [] ((dt m).map (vE m)))).map dS=L2 at b2 ⊢
   generalize ro m=L3 at la ⊢
   simp! [U,la,b1,b2,c6,cW (fx:=x6) rfl,q3]
  generalize (dt m).map (dS ∘ jL m)=L at i1 i2 i3;generalize (aJ (bL [] ((dt m).map (vE m)))).map dS=L2 at i2 i3;refine#[.dat (.lst L),.own L2,?_];have t1:(rn (n+366)).t [] (k+10) (.cmp .Lt ⇑2 ↥9) [a0,a1,‹m›,.own (ro m),.no,.no,a6]=!(true,[a0,a1,‹m›,.own (ro m),.no,.no,a6]):=by
   generalize (m:Int)=M at lt ⊢
   simp! [U,lt]
  unfold s5;simp only[aY,t1];rw[U.b,bH i1,bH i2,bH i3];rfl
 .
  refine#[.no,.no,?_];have lt:dQ .Lt (.int (m:Int)) (.int 9)=!false:=by show some (decide ((m:Int)<9))=_;rw[u7 ⋯]
  unfold s5;generalize (m:Int)=M at lt ⊢
  simp! [U,lt]
theorem whole(ns: ~~~0)(hl:ns.length<=63):∃g',(rn (n+367)).b [] (k+10) WY.body [.dat (.fix (ns.map .int)),.no,.no,.no,.no,.no,.no]=!(.rt (.dat (.bl true)),g'):=by
 obtain⟨s,fl,q1⟩:=HR U c7 (n:=n+325) (k:=k+8) ns ⋯ 0;generalize hA0:Slot.dat (.fix (ns.map .int))=A0;have e1:aY (rn (n+366)) [] (k+10) s1 [A0,.no,.no,.no,.no,.no,.no]=!(.nx,[A0,St s fl,.no,.no,.no,.no,.no]):=by subst hA0;unfold s1;have JN:cB (rn (n+365)) (k+9) (iO 7) [.fix (ns.map .int),.int 0]=!(.new [.int s,.bl fl]):=q1;simp! [U,c8,dH (fx:=iO 7) rfl,JN]
 obtain⟨m,s',hm,e2⟩:=Oh U (n:=n) (k:=k) s fl A0 .no .no .no .no .no;have e3:=Z7 U F m hm A0 (St s' fl) .no .no .no .no;have e4:=Z8 U F m hm A0 (St s' fl) .no .no .no;obtain⟨a4,a5,e5⟩:=aad U F m hm A0 (St s' fl) .no;obtain⟨b,s3,hb,e6⟩:=VD U (n:=n) (k:=k) s' fl A0 ‹m› (.own (ro m)) a4 a5 .no;have e7:=Z9 U F b hb A0 (St s3 fl) ‹m› (.own (ro m)) a4 a5;have e8:=aac U F b hb A0 (St s3 fl) ‹m› (.own (ro m)) a4 a5;refine#[[A0,St s3 fl,‹m›,.own (ro m),a4,a5,.dat b],?_];unfold WY;rw[U.b];dsimp only;rw[bH e1,bH e2,bH e3,bH e4,bH e5,bH e6,bH e7];unfold d7;rw[e8]
end
end cF
namespace cF
open Ev zg
def rfB(rn:Rn)(k:Nat)(C:Nat)(c:Int):Bool:=match rn.b [] k (WX.body.drop 2) ((List.replicate WX.n .no).set 1 (.dat (.kF C)))with
 |!(.rt r,g3)=>(match bX [] g3 r with |!(.new [.int c'])=>decide (c'=c) |_=>false)
 |_=>false
theorem Ik(h:rfB rn k C c=true):Oe rn k C c:=by
 unfold rfB at h;split at h
 .
  rename_i r g3 e;split at h
  . rename_i c' e2;rw[hU h]at e2;exact#[r,g3,e,e2]
  . symm
 . symm
def Vp(r:Option R)(i:Int):Bool:=match r with |!‹j›=>decide (j=i) |_=>false
theorem sJ{r:Option R}{i:Int}(h:Vp r i=true):r=!‹i›:=by
 unfold Vp at h;split at h
 . rw[hU h]
 . symm
def trB(r:Option R)(m:Nat)(t: ~~~5):Bool:=match r with |!(.dat (.tup [.int j,.tup l]))=>decide (j=m)&&decide (kM l=!t) |_=>false
theorem VF{r:Option R}{m:Nat}{t: ~~~5}(h:trB r m t=true):r=!(.dat (W m t)):=by
 unfold trB at h;split at h
 . rw[gL]at h;rw[hU h.1,vD (hU h.2)];rfl
 . symm
def owB(o:Option Slot)(ns: ~~~0):Bool:=match o with |!(.own l)=>decide (bu l=!ns) |_=>false
theorem VG{o:Option Slot}{ns: ~~~0}(h:owB o ns=true):o=!(.own (ns.map .int)):=by
 unfold owB at h;split at h
 . rw[nU (hU h)]
 . symm
def laB(r:Option R)(j:Int):Bool:=match r with |!(.new l)=>(match L2.iS l (-1)with |!(.int i)=>decide (i=j) |_=>false) |_=>false
theorem VH{r:Option R}{j:Int}(h:laB r j=true):∃l,r=!(.new l)/\L2.iS l (-1)=!(.int j):=by
 unfold laB at h;split at h
 .
  rename_i l;split at h
  . rename_i e;rw[hU h]at e;exact#[l,rfl,e]
  . symm
 . symm
def gB(rn:Rn)(k i:Nat):Bool:=match rn.b [0] k WW.body [.own (ro i),.no,.no,.no,.no,.no,.no,.no]with
 |!(.rt r,gc)=>owB gc[0]? (Z5.take i)&&laB (bX [0] gc r) (rt (i+1))
 |_=>false
theorem aae{rn:Rn}{k i:Nat}(h:gB rn k i=true):gOk rn k i:=by
 unfold gB at h;split at h
 . rename_i r gc e;rw[gL]at h;obtain⟨l,e1,e2⟩:=VH h.2;exact#[r,gc,l,e,VG h.1,e1,e2]
 . symm
def cdB(l:Nat)(K:List dR):Bool:=(K.all λc=>decide (2<=c.length)&&decide (c.length<=40))&&decide (K.length<=400)&&(List.range (l+1)).all λi=>decide ((cX K i i []).length<=400)
theorem Il{l:Nat}{K:List dR}(h:cdB l K=true):BV l K:=by
 unfold cdB at h;rw[gL,gL]at h;refine#[λc hc=>?_,hU h.1.2,λi hi=>hU (mE.mp h.2 i (w8.mpr ⋯))]
 have:=mE.mp h.1.1 c hc;rw[gL]at this;exact#[hU this.1,hU this.2]
noncomputable def allR(a b:Nat)(p:Nat->Bool):Bool:=(List.range (b+1 - a)).all λi=>p (a+i)
theorem cY{p:Nat->Bool}{a b:Nat}(h:allR a b p=true)(i:Nat)(hi:a<=i/\i<=b):p i=true:=by
 have:=mE.mp h (i - a) (w8.mpr ⋯);rw[show a+(i - a)=i by lia]at this
 exact this
theorem cat{p:Nat->Bool}{a b c:Nat}(h1:∀i,a<=i/\i<=b->p i=true)(h2:∀i,b+1<=i/\i<=c->p i=true):∀i,a<=i/\i<=c->p i=true:=λi hi=>(AX b i).elim (λh=>h2 i #[h,hi.2]) λh=>h1 i #[hi.1,h]
def p1(i:Nat):Bool:=gB (run fns 360) 8 i
def p2(i:Nat):Bool:=Vp (cB (run fns 360) 9 x4 [.int i]) (rt i)
def p3(i:Nat):Bool:=Vp (cB (run fns 360) 9 x6 [.int i]) (tr i)
def p4(i:Nat):Bool:=Vp (cB (run fns 360) 9 ZZ [.lst (ro i)]) (tr i)
def p5(i:Nat):Bool:=Vp (cB (run fns 362) 9 x6 [.int i]) (tr i)
def p6(i:Nat):Bool:=(dt i).all λd=>trB (cB (run fns 361) 9 ZX [dS (jL i d)]) i (PL (jL i d))
def p7(d:D):Bool:=decide (PB (run fns 363) 7 x4 [d]=!0)&&decide (PB (run fns 363) 7 x6 [d]=!0)
def p8(i:Nat):Bool:=decide (cdm i=(dt i).map (jL i))
def p9(l:Nat):Bool:=cdB l (sI l)
def p10(l:Nat):Bool:=cdB 0 (sI l)
def p11(i:Nat):Bool:=(dt i).all λd=>PJ i d
def p12(i:Nat):Bool:=decide (((dt i).length:Int)=rt i)&&(decide (((bL [] ((dt i).map (vE i))).length:Int)=tr i)&&decide ((dt i).length<=200))
theorem b1_a:allR 1 9 p1=true:=by decide +kernel
theorem b1_b:allR 10 12 p1=true:=by decide +kernel
theorem b1_c:allR 13 14 p1=true:=by decide +kernel
theorem b1_d:allR 15 15 p1=true:=by decide +kernel
theorem b1_e:allR 16 16 p1=true:=by decide +kernel
theorem b1_f:allR 17 17 p1=true:=by decide +kernel
theorem b1_g:allR 18 18 p1=true:=by decide +kernel
theorem b1_h:allR 19 19 p1=true:=by decide +kernel
theorem b2_a:allR 1 13 p2=true:=by decide +kernel
theorem b2_b:allR 14 17 p2=true:=by decide +kernel
theorem b2_c:allR 18 20 p2=true:=by decide +kernel
theorem b3_a:allR 1 13 p3=true:=by decide +kernel
theorem b3_b:allR 14 17 p3=true:=by decide +kernel
theorem b3_c:allR 18 20 p3=true:=by decide +kernel
theorem b4:allR 1 20 p4=true:=by decide +kernel
theorem b5:allR 1 8 p5=true:=by decide +kernel
theorem b6:allR 1 8 p6=true:=by decide +kernel
theorem b7:sG.all p7=true:=by decide +kernel
theorem b8:allR 1 8 p8=true:=by decide +kernel
theorem b9:allR 0 7 p9=true:=by decide +kernel
theorem b10:allR 0 8 p10=true:=by decide +kernel
theorem b11:allR 1 8 p11=true:=by decide +kernel
theorem b12:allR 1 8 p12=true:=by decide +kernel
theorem ak{a b:Bool}(h:(a&&b)=true):a=true/\b=true:=by rw[gL]at h;exact h
theorem VJ:Fk (run fns) 0 0 where
 gth:=λi hi=>aae ((cat (cY b1_a) (cat (cY b1_b) (cat (cY b1_c) (cat (cY b1_d) (cat (cY b1_e) (cat (cY b1_f) (cat (cY b1_g) (cY b1_h)))))))) i hi:p1 i=true)
 v4:=λm hm=>sJ ((cat (cY b2_a) (cat (cY b2_b) (cY b2_c))) m hm:p2 m=true)
 v6:=λm hm=>sJ ((cat (cY b3_a) (cat (cY b3_b) (cY b3_c))) m hm:p3 m=true)
 v23:=λm hm=>sJ (cY b4 m hm:p4 m=true)
 v6':=λm hm=>sJ (cY b5 m hm:p5 m=true)
 tree:=λm hm d hd=>VF (mE.mp (cY b6 m hm:p6 m=true) d hd)
 bd4:=λd hd=>hU (ak (mE.mp b7 d hd)).1
 bd6:=λd hd=>hU (ak (mE.mp b7 d hd)).2
 rf4:=Ik (by decide +kernel)
 rf6:=Ik (by decide +kernel)
 cds:=λm hm=>hU (cY b8 m hm:p8 m=true)
 ok:=λl hl=>Il (cY b9 l #[sR _,CC hl]:p9 l=true)
 okm:=λl hl=>Il (cY b10 l #[sR _,hl]:p10 l=true)
 chk:=λm hm d hd=>mE.mp (cY b11 m hm:p11 m=true) d hd
 num:=λm hm=>#[hU (ak (cY b12 m hm:p12 m=true)).1,hU (ak (ak (cY b12 m hm:p12 m=true)).2).1,hU (ak (ak (cY b12 m hm:p12 m=true)).2).2]
def kk:Nat:=10
def fuel:Nat:=367
theorem hev(ns: ~~~0)(hl:ns.length<=63):∃g',(run fns fuel).b [] kk WY.body (cO 7 [.dat (.fix (ns.map .int))])=!(.rt (.dat (.bl true)),g'):=whole (NZ fns) VJ ns hl
end cF
namespace Ev
open L2
def aaf:Value->Bool
 |.str _ _=>true
 |_=>false
def Oi:Value->Bool
 |.int _ _=>true
 |_=>false
def P0:Value->Bool
 |.bool _=>true
 |_=>false
noncomputable def Im(n:String):Value->Bool
 |.type m=>decide (m=n)
 |_=>false
noncomputable def Oj(q:Addr):Option Value->Bool
 |!(.ref p)=>decide (p=q)
 |_=>false
theorem lN(h:Im n v=true):v=.type n:=by
 unfold Im at h;split at h
 . rw[hU h]
 . symm
theorem zq(h:Oj q v=true):v=!(.ref q):=by
 unfold Oj at h;split at h
 . rw[hU h]
 . symm
def codeOk(K:Frag)(c q:Addr):Bool:=match K.lookup c with
 |some o=>(match o.data with
  |.fields vs=>Im "code" o.cls&&Oj q vs[11]?&&aaf (vs.getD 18 .none)&&Oi (vs.getD 7 .none)&&P0 (vs.getD 9 .none)&&Oi (vs.getD 10 .none)&&decide (c≠q)
  |_=>false)
 |none=>false
theorem qz{K:Frag}{h:Heap}{c q:Addr}(X:K.In h)(e:codeOk K c q=true):PySem.W.CodeHd h c q/\∃o vs,h.get? c=!o/\o.cls=.type "code" /\o.data=.fields vs/\vs[11]?=!(.ref q):=by
 unfold codeOk at e;split at e
 .
  rename_i o ho;split at e
  .
   rename_i vs hv;simp only[gL,t5]at e;obtain⟨⟨⟨⟨⟨⟨e1,e2⟩,e3⟩,e4⟩,e5⟩,e6⟩,e7⟩:=e;have r:=zq e2;have d:vs.getD 11 .none=.ref q:=by rw[Array.getD_eq_getD_getElem?,r];rfl
   unfold aaf at e3;split at e3
   .
    rename_i file tf h3;unfold Oi at e4;split at e4
    .
     rename_i fl tg h4;unfold P0 at e5;split at e5
     .
      rename_i b h5;unfold Oi at e6;split at e6
      . rename_i tx tt h6;exact#[#[o,vs,file,tf,fl,tg,b,tx,tt,X _ _ ho,lN e1,hv,r,d,h3,h4,h5,h6,e7],o,vs,X _ _ ho,lN e1,hv,r]
      . cases e6
     . cases e5
    . cases e4
   . cases e3
  . cases e
 . cases e
noncomputable def Io(K:Frag)(n:Str)(c:Addr):Bool:=K.all λp=>decide (p.1=c)||(not (PySem.W.codeIn [p] (.ref p.1) n))
theorem lookup_mem{β:Type}:∀{l:List (Addr×β)}{a:Addr}{b:β},l.lookup a=!b->(a,b)∈l
 | [],_,_,h=>by symm
 | (x,y)::l,a,b,h=>by
  rw[At]at h;by_cases e:a=x
  . subst e;simp at h;subst h;exact bP
  .
   have:(a==x)=false:=by simpa using e
   rw[this]at h;exact a8 _ (lookup_mem h)
noncomputable def VL(K:Frag)(bm q:Addr):Bool:=match K.lookup bm with
 |!#[c,!d,.plain,_]=>Im "module" c&&decide (d=builtinsNs)&&decide (bm≠builtinsNs)&&decide (bm≠mainGlobals)&&decide (bm≠q)
 |_=>false
theorem VM{K:Frag}{mg:Str->Option Value}{h:Heap}{n:Str}{c q bm:Addr}(X:K.In h)(G:h.Ns mainGlobals mg)(e1:Io K n c=true)(e2:codeOk K c q=true)(e3:(q,oH n)∈bO K)(e7:((bO K).all λp=>decide (p.1=q->p.2=oH n))=true)(e4:PySem.W.nsIn K mainGlobals "__builtins__"=!(!(.ref bm)))(e5:VL K bm q=true)(e6:mainGlobals≠q) :
  ∀bz,PySem.W.codeIn K bz n=true->GL K mg n bz:=λbz hc=>by
 cases bz with
 |ref c'=>
  cases hl:K.lookup c' with
  |none=>unfold PySem.W.codeIn at hc;simp only[hl]at hc;cases hc
  |some o=>
   have hm:=lookup_mem hl;have e0:PySem.W.codeIn [(c',o)] (.ref c') n=PySem.W.codeIn K (.ref c') n:=by
    have h1:List.lookup c' [(c',o)]=!o:=by simp
    unfold PySem.W.codeIn;simp only[hl,h1]
   have ec:c'=c:=by have:=mE.mp e1 _ hm;rw[e0,hc]at this;simpa using this
   subst ec;refine#[c',q,rfl,λb hb=>(qz hb e2).1,e3,λb hb=>?_,e6,λp hp=>hU (mE.mp e7 p hp)]
   unfold VL at e5;split at e5
   . rename_i cc d sl hb2;simp only[gL,t5]at e5;obtain⟨⟨⟨⟨f1,f2⟩,f3⟩,f4⟩,f5⟩:=e5;exact#[bm,_,EI X G e4,f3,f4,f5,hb _ _ hb2,lN f1,by rw[f2],rfl]
   . cases e5
 |_=>cases hc
theorem vF{K:Frag}{o:Obj}{a:Addr}{qs:List Addr}:(qs.map (λq=>(q,o))++K).lookup a=if a∈qs then some o else K.lookup a:=by
 induction qs with
 |nil=>simp
 |cons q qs ih=>
  rw[List.map_cons,List.cons_append,At];by_cases z:a=q
  . subst z;simp
  .
   have:(a==q)=false:=by simpa using z
   rw[this];simp only[dA,z,false_or];exact ih
theorem vG{qs:List Addr}{K:Params->Frag}{w:World}{h:Heap}(e:(qs.all λq=>((K w.params).lookup q).isNone)=true)(Y:PySem.W.InK (oV qs K) w h):(K w.params).In h:=λa o ho=>by
 refine Y a o ?_;show List.lookup a (qs.map _++K w.params)=_;rw[vF,sK,ho];intro z;have:=mE.mp e a z;rw[ho]at this;cases this
theorem BW{cs qs:List Addr}{K:Params->Frag}{w:World}{h:Heap}(e:(qs.all λq=>((K w.params).lookup q).isNone)=true)(e2:(qs.all λq=>cs.any λc=>codeOk (K w.params) c q)=true)(Y:PySem.W.InK (oV qs K) w h):∀p∈qs,(∃c,h.TableAt c p ([].toArray))/\(K w.params).lookup p=none:=λp hp=>by
 obtain⟨c,_,hc⟩:=List.any_eq_true.mp (mE.mp e2 p hp);refine#[#[c,(qz (vG e Y) hc).2,Y _ _ ?_],Option.isNone_iff_eq_none.mp (mE.mp e p hp)];show List.lookup p (qs.map _++K w.params)=_;rw[vF,tJ hp]
theorem Ip{l:PySem.W.OpenLaw}{n k:Nat}{q:Program}{loose:List Str}{XP:(Str->Option Value)->Heap->Prop}{YP:World->Heap->Prop}{d:DefRec}{K:Params->Frag}{CX:zF}{sp:Frag->Sp}{x:Str}{T:List Addr}
  (hn:l.most=!n) (hn2:n<=sizeLine) (iR:d.params.defaults=[]) (hr:bK k callerA)
  (hY:∀(w:World) (h:Heap),YP w h->(K w.params).In h) (hT:∀(w:World) (h:Heap),YP w h->∀q∈T,(∃c,h.TableAt c q ([].toArray))/\(K w.params).lookup q=none)
  (F:∀(w:World) (mg:Str->Option Value) (fa:Addr) (h:Heap),(K w.params).In h->h.Ns mainGlobals mg->mg d.name=!(.ref fa)->
   ∃fd:FuncData,(∀(s:Shared) (u:Value),BindsTo s fd #[[u],[]] [(x,u)])/\
    ∀base:Heap,(K w.params).In base->base.Ns mainGlobals mg->iu l.prog w (K w.params) mg base CX k fa fd [x] (sp (K w.params)))
  (V6:∀(w:World) (H:Hp) (a:Addr) (ns: ~~~0),ns.length<=n->yy T H->bD (K w.params) H a (ns.map V.int)->sp (K w.params) [.ref a] H (λv _=>v=.bl true) λ_ _ _=>False)
  (hCX:∀(H:Hp) (s:Shared) (e:Value) (s':Shared),CX [] H s (λ_ _ _=>False) e s'->False) :
  PySem.W.WalkO q loose XP YP l.row.toRowW d [] (λf vs=>PySem.call f vs):=by
 refine Att.tK hn iR λw s₀ s₁ mg mb fa o pm cd doc a vs ns G Y ho hd bM hmg hobj hints aM hg=>?_
 have KX:=hY w _ Y;obtain⟨fd,hb,hF⟩:=F w mg fa _ KX G.T.g hmg;exact Aw KX (hT w _ Y) G.T.g G.T.b G.T.builtins G.T.nolimit hg hobj hints (oI aM hn2) hr hF hb (λH hO hS=>V6 w H a ns aM hO hS) λH e s'=>hCX H s₁ e s'
noncomputable def kitF(K:Frag)(C:Addr):Bool:=["int", "bool", "str", "tuple", "list", "dict"].all λn=>decide (PySem.W.kitOne K (.ref C) (.type n)=!false)
theorem VN{K:Frag}{C:Addr}(h1:PySem.W.findIn K (.ref C) "__getattribute__"=!(!(.builtin "BaseException.__getattribute__")))(h8:PySem.W.findIn K (.ref C) "__getattr__"=!none)(h9:PySem.W.mroIn K C (.type "BaseException")=!true)(h2:PySem.W.hasDictIn K C=true)(h3:PySem.W.findIn K (.ref C) "__class__"=!(!(.builtin "object.__class__")))(h4:PySem.W.specialIn K (.builtin "object.__class__") "__get__"=!(!(.builtin "getset_descriptor.__get__")))(h5:PySem.W.takesIn K (.builtin "object.__class__")=!true)(h6:PySem.W.mroIn K C (.type "object")=!true)(h7:kitF K C=true):Iw K C:=
 #[h1,h8,h9,h2,h3,h4,h5,h6,λn hn=>hU (mE.mp h7 n hn)]
noncomputable def aag(K:Frag)(cv:Value)(l:List (Addr×Bool)):Bool:=decide (PySem.W.kitOne K (.type "NoneType") cv=!false)&&l.all λp=>decide (PySem.W.kitOne K (.ref p.1) cv=!p.2)
theorem All.of{α:Type}{p:α->Prop}{l:List α}(h:∀a∈l,p a):All p l:=by
 induction l with
 |nil=>exact .nil
 |cons a l ih=>exact .cons (h a bP) (ih λb hb=>h b (a8 _ hb))
def noB(K:Frag)(x:Str):Bool:=match PySem.W.nsIn K mainGlobals x with
 |some none=>true
 |_=>false
theorem VP{K:Frag}{mg:Str->Option Value}{h:Heap}{l:List Str}(X:K.In h)(G:h.Ns mainGlobals mg)(e:l.all (noB K)=true):All (λx=>mg x=none) l:=.of λx hx=>by
 have q:=mE.mp e x hx;unfold noB at q;split at q
 . rename_i e2;exact PySem.W.mg_none_of X G e2
 . cases q
def VR(K:Frag)(bn:List Str)(x:Str)(cv:Value)(l:List (Addr×Bool)):Bool:=(not ((x==(~~~3))))&&(aag K cv l&&(match cv with
 |.ref D=>(match PySem.W.nsIn K mainGlobals x with |some v=>Oj D v |none=>false)
 |.type n=>decide (x∈bn/\x≠ "__name__")&&(match bootBuiltins x with |some v=>Im n v |none=>false)
 |_=>false))
theorem Ol{P:Pg}{K:Frag}{mg:Str->Option Value}{h:Heap}(P1:List Value)(X:K.In h)(G:h.Ns mainGlobals mg)(hl:P.ups.length<=P1.length)(e:((P.ups.zip P1).all λp=>VR K P.bn p.1.1 p.2 p.1.2)=true) :
  All (λp:Str×List (Addr×Bool)=>(p.1==(~~~3))=false/\∃cv,((mg p.1=!cv/\∃D,cv=.ref D)\/(p.1∈P.bn/\p.1≠ "__name__" /\bootBuiltins p.1=!cv/\∃n,cv=.type n))/\PySem.W.kitOne K (.type "NoneType") cv=!false/\∀C b,p.2.lookup C=!b->PySem.W.kitOne K (.ref C) cv=!b) P.ups:=.of λp hp=>by
 obtain⟨i,hi,rfl⟩:=r6 hp;have hz:(P.ups[i],P1[i])∈P.ups.zip P1:=pE (i:=i) (CM.mpr #[mB hi,mB ⋯]);have q:=mE.mp e _ hz;dsimp only at q;generalize P1[i]=cv at q;unfold VR aag at q;simp only[gL,AZ,t5]at q;obtain⟨q1,⟨q2,q3⟩,q4⟩:=q;refine#[q1,cv,?_,q2,λC b hl=>hU (mE.mp q3 _ (lookup_mem hl))]
 cases cv with
 |ref D=>
  dsimp only at q4;split at q4
  . rename_i v e2;rw[zq q4]at e2;exact .inl #[EI X G e2,D,rfl]
  . cases q4
 |type n=>
  simp only[gL,t5]at q4;obtain⟨⟨r1,r2⟩,r3⟩:=q4;split at r3
  . rename_i v e2;rw[lN r3]at e2;exact .inr #[r1,r2,e2,n,rfl]
  . cases r3
 |_=>cases q4
theorem aah{P:Pg}{K:Frag}{mg:Str->Option Value}(h1:All (λn=>∀bz,PySem.W.codeIn K bz n=true->GL K mg n bz) gS)(h2:All (λp:Str×Addr=>mg p.1=!(.ref p.2)/\dj K p.2/\Iw K p.2) (P.cls.zip P.qg))(hl:P.qg.length<=P.cls.length)
  (h3:(P.kt==(~~~3))=false/\∃D,mg P.kt=!(.ref D)/\dj K D/\All (λC=>rH K C D=true) P.qg)
  (h4:All (λp:Str×List (Addr×Bool)=>(p.1==(~~~3))=false/\∃cv,((mg p.1=!cv/\∃D,cv=.ref D)\/(p.1∈P.bn/\p.1≠ "__name__" /\bootBuiltins p.1=!cv/\∃n,cv=.type n))/\PySem.W.kitOne K (.type "NoneType") cv=!false/\∀C b,p.2.lookup C=!b->PySem.W.kitOne K (.ref C) cv=!b) P.ups):U4 P K mg:=
 #[λ_ n hn=>h1.mem n hn,λi C e=>by
  have hi:=(eJ.mp e).1;have hi2:i<P.cls.length:=by lia
  refine#[P.cls[i],mB hi2,?_];have:=h2.mem (P.cls[i],C) (pE (by rw[CM];exact#[mB hi2,e]))
  exact this,λ_=>let #[a,D,b,c,d]:=h3;#[a,D,b,c,λC hC=>d.mem C hC],λx l h=>h4.mem (x,l) h]
end Ev
namespace cF
open L2 Ev
def f0:Fi:=cQ (st 18)
def f1:Fi:=cQ (st 19)
def f2:Fi:=cQ (st 20)
def f3:Fi:=cQ (st 22)
def f4:Fi:=cQ (st 25)
def f5:Fi:=cQ (st 26)
def f6:Fi:=cQ (st 27)
def f7:Fi:=cQ (st 29)
def f8:Fi:=cQ (st 30)
def f9:Fi:=cQ (st 31)
def f10:Fi:=cQ (st 32)
def f11:Fi:=cQ (st 33)
def f12:Fi:=cQ (st 34)
def f13:Fi:=cQ (st 35)
def f14:Fi:=cQ (st 36)
def f15:Fi:=cQ (st 37)
def f16:Fi:=cQ (st 38)
def f17:Fi:=cQ (st 39)
def f18:Fi:=cQ (st 40)
def f19:Fi:=cQ (st 41)
def f20:Fi:=cQ (st 42)
def f21:Fi:=cQ (st 43)
def f22:Fi:=cQ (st 44)
def f23:Fi:=cQ (st 45)
def f24:Fi:=cQ (st 46)
noncomputable def ups:List (Str×List (Addr×Bool)):=[("NoWeb",[(49,false)]),("NoNumber",[(49,true)]),("NoTurn",[(49,false)]),("NoKind",[(49,false)]),("NoPlace",[(49,false)]),("NoTie",[(49,false)]),("NoNumbers",[(49,false)]),("NoTree",[(49,false)]),("NoCode",[(49,false)]),("NoCounts",[(49,false)]),("NoMarks",[(49,false)]),("NoText",[(49,false)]),("NoLine",[(49,false)]),("NoDeed",[(49,false)]),("TooGreat",[(49,false)]),("ValueError",[(49,true)])]
def P:Pg:=#[[f0,f1,f2,f3,f4,f5,f6,f7,f8,f9,f10,f11,f12,f13,f14,f15,f16,f17,f18,f19,f20,f21,f22,f23,f24],[("MOST_COUNTED",.int 20)],["ValueError", "all", "bool", "enumerate", "int", "isinstance", "len", "list", "max", "min", "range", "set", "sorted", "sum", "tuple", "zip"],["NoNumber"],true,[49], "KindError",ups]
theorem V0:NB P P.fn fns=true:=by decide +kernel
theorem fns_eq:List.zipWith (yU P) P.fn fns=P.fn.map (λfi=>bq fi.st):=by kernel_rfl
theorem nLaw:f24.N.length=7:=rfl
theorem hevF:∀ns:List Int,ns.length<=63->∃g',(run fns fuel).b [] kk WY.body (cO f24.N.length [.dat (.fix (ns.map .int))])=!(.rt (.dat (.bl true)),g'):=by rw[nLaw];exact hev
theorem sL(P:Params):bO (K P)=[(nat_lit 366,oH "law")]:=by kernel_rfl
theorem Iq(P:Params):([366].all λq=>((K P).lookup q).isNone)=true:=by kernel_rfl
theorem Ir(P:Params):([366].all λq=>[368].any λc=>codeOk (K P) c q)=true:=by kernel_rfl
theorem Iu(P:Params):codeOk (K P) (nat_lit 368) (nat_lit 366)=true:=by kernel_rfl
theorem Iv(P:Params):Io (K P) "law" (nat_lit 368)=true:=by kernel_rfl
theorem V1(P:Params):VL (K P) (nat_lit 4) (nat_lit 366)=true:=by kernel_rfl
theorem vH(P:Params):Iw (K P) (nat_lit 49):=VN (by kernel_rfl) (by kernel_rfl) (by kernel_rfl) (by kernel_rfl) (by kernel_rfl) (by kernel_rfl) (by kernel_rfl) (by kernel_rfl) (by kernel_rfl)
theorem kZ(P:Params):dj (K P) (nat_lit 49):=by kernel_rfl
theorem vI(P:Params):rH (K P) (nat_lit 49) (nat_lit 24)=true:=by kernel_rfl
theorem sM(P:Params):dj (K P) (nat_lit 24):=by kernel_rfl
noncomputable def P1:List Value:=[.ref 37,.ref 49,.ref 61,.ref 73,.ref 85,.ref 97,.ref 109,.ref 121,.ref 133,.ref 145,.ref 157,.ref 169,.ref 181,.ref 193,.ref 212,.type "ValueError"]
theorem V2(Q:Params):((P.ups.zip P1).all λp=>VR (K Q) P.bn p.1.1 p.2 p.1.2)=true:=by kernel_rfl
theorem bn_no(Q:Params):P.bn.all (noB (K Q))=true:=by kernel_rfl
end cF
open PySem PySem.W PyProof.Rows
set_option maxHeartbeats 0 in
theorem PySem.Challenge.cw_websbykind_k54_codes_and_trees_counted_holds : PySem.Challenge.rw_websbykind_k54_codes_and_trees_counted.Holds := by
 w_on
 refine PySem.W.holds_law (by decide +kernel) λsaid=>?_
 refine PySem.W.holds_open (q:=cF.qv) (loose:=[]) (Xt:=λs=>xlAt cF.qv [] s&&recOk (OpenRow.toRowW PySem.Challenge.rw_websbykind_k54_codes_and_trees_counted.row).records s) (XP:=XL cF.qv []) (Yf:=λs=>cF.as2.map s.heap.get?) (Ya:=λw=>(Ev.oV [366] cF.K w.params).map λp:Nat×Obj=>!p.2) (YP:=InK (Ev.oV [366] cF.K)) (N:=8000) cF.hl (InK.of cF.W2) InK.keeps (λs e=>xl_of s (Bool.and_eq_true_iff.mp e).1) XL.keeps (by rfl) (by rfl) (by rfl) (λs e=>recFacts_of (Bool.and_eq_true_iff.mp e).2) (by rfl) (by first |assumption |decide +kernel) (by decide +kernel) #[rfl,rfl,rfl,rfl,rfl,by decide +kernel] ?hw ?hc
 (case hw=>w_witness2)
 k_fill
 refine Ev.Ip (l:=PySem.Challenge.rw_websbykind_k54_codes_and_trees_counted) (n:=63) (k:=cF.kk+1) (x:= "_law_script") (CX:=L2.v8) (K:=cF.K) (T:=[366]) (sp:=λK=>Ev.O2 K cF.f24.N 1 λbor g r g'=>(Ev.run cF.fns cF.fuel).b bor cF.kk cF.WY.body g=!(.rt r,g')) rfl ⋯ rfl #[rfl,by decide,by decide] (λw h Y=>Ev.vG (cF.Iq _) Y) (λw h Y=>Ev.BW (cF.Iq _) (cF.Ir _) Y) ?F ?S ?C
 case F=>
  intro w mg fa h KX G hmg
  have mm:Ev.All (Ev.Nz (L2.KOf KX) mg) cF.P.fn:=by
   repeat' (first |exact Ev.All.nil |refine Ev.All.cons ?_ ?_)
   all_goals
    dsimp only[L2.KOf]
    exact Ev.ZD (by assumption) (by assumption) (by k_is) (by k_is) (by k_is) (by k_is) #[rfl,rfl,rfl,by decide +kernel,by decide +kernel,by decide +kernel,by decide +kernel] (λ_ _ _ _ _ _ us hl=>by first | (obtain⟨_,e⟩:=Ev.ZG hl;subst e;rfl) | (obtain⟨_,_,e⟩:=Ev.ZJ hl;subst e;rfl) | (obtain⟨_,_,_,e⟩:=Ev.len3 hl;subst e;rfl) | (obtain⟨_,_,_,_,e⟩:=Ev.len4 hl;subst e;rfl)) ⋯
  have nY:Ev.U3 (L2.KOf KX) mg ("MOST_COUNTED",.int 20):=by
   dsimp only[L2.KOf]
   refine' Ev.U5 KX G ?a ⋯
   (case a=>k_is)
  have nZ:PySem.W.nsIn (L2.KOf KX) mainGlobals "NoNumber"=!(!(.ref 49)):=by dsimp only[L2.KOf];k_is
  have vJ:PySem.W.nsIn (L2.KOf KX) mainGlobals "KindError"=!(!(.ref 24)):=by dsimp only[L2.KOf];k_is
  have n_b:PySem.W.nsIn (L2.KOf KX) mainGlobals "__builtins__"=!(!(.ref 4)):=by dsimp only[L2.KOf];k_is
  have lm:Ev.U4 cF.P (L2.KOf KX) mg:=Ev.aah (.cons (Ev.VM (n:= "law") (q:=nat_lit 366) KX G (cF.Iv _) (cF.Iu _) (by rw[cF.sL];decide) (by rw[cF.sL];decide) n_b (cF.V1 _) ⋯) .nil) (.cons #[mg_of KX G nZ,cF.kZ _,cF.vH _] .nil) ⋯ #[by decide,24,mg_of KX G vJ,cF.sM _,(.cons (cF.vI _) .nil)] (Ev.Ol cF.P1 KX G ⋯ (cF.V2 _))
  have md:Ev.rX cF.P (L2.KOf KX) mg:=Ev.ZC mm (.cons nY .nil) (Ev.VP KX G (cF.bn_no _)) (.cons (Ev.ZF KX G nZ (cF.kZ _) ⋯) .nil) lm
  exact Ev.Hu (Ev.U9 cF.V0 cF.fns_eq) md (i:=24) (fi:=cF.f24) rfl rfl rfl (mm.mem _ (pE (i:=24) rfl)) hmg
 case S=>exact λw H a ns hl hO hS=>Ev.U7 cF.hevF (cF.K w.params) H a ns hl (by rw[cF.sL];exact hO) hS
 case C=>exact λ_ _ _ _ z=>z
