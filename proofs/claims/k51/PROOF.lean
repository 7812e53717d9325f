import PyProof.Rows.All
import Wide.All
import OpenK.AllK
import Wide.FinOn
import Lean
import PyProof.EqAt
import PyProof.EqKinds
import PyProof.TupleCall
import PySem.Challenge.RW_websbykind_k51_codes_known
set_option Elab.async false
set_option linter.all false
set_option compiler.extract_closed false
set_option bootstrap.genMatcherCode false
set_option genSizeOf false
set_option maxHeartbeats 4000000
set_option maxRecDepth 100000
set_option autoImplicit true
open PySem PySem.Spec PyProof.Rows
open PySem.W (Frag)
noncomputable section
local macro_rules | `(⋯)=>`(by first |decide |lia |simp)
local macro_rules | `($x⁻¹)=>`(($x).heap.objs.size)
local macro_rules|`(⇑$x)=>`((.slot $x))
local macro_rules|`(↥$x)=>`((.val (.int $x)))
local macro_rules|`(‹$x›)=>`((.dat (.int $x)))
set_option hygiene false in
local macro_rules|`(~~~5)=>`(List (List Int))
local macro_rules|`(~~~0)=>`(List Int)
set_option hygiene false in
local macro_rules|`(~~~1)=>`(List (Addr×Obj))
set_option hygiene false in
local macro_rules|`(~~~2)=>`(model X.prog X.w)
local macro_rules|`(~~~3)=>`(("__debug__":Str))
set_option hygiene false in
local macro_rules|`(~~~7)=>`(Inv X ah Y H s)
set_option hygiene false in
local macro_rules|`(tactic|symm)=>`(tactic|cases h)
abbrev aS:=@PySem.wpAny_bind
abbrev a8:=@List.mem_cons_of_mem
abbrev a9:=@PySem.Heap.get?_push_of_some
abbrev bP:=@List.mem_cons_self
abbrev b0:=@List.size_toArray
abbrev c6:=@List.mem_cons
abbrev c8:=@PySem.wpAny_pure
abbrev dA:=@List.getElem?_eq_some_iff
abbrev dC:=@Nat.le_refl
abbrev dE:=@List.mem_singleton
abbrev dL:=@List.getElem?_set_ne
abbrev d0:=@PySem.Heap.get?_push_size
abbrev d5:=@Option.bind_eq_some_iff
abbrev d6:=@List.nodup_cons
abbrev eA:=@List.getElem?_append_left
abbrev eC:=@List.length_map
abbrev eD:=@List.getElem?_append_right
abbrev eJ:=@PySem.Heap.lt_size
abbrev eM:=@Bool.and_eq_true
abbrev eP:=@Nat.lt_of_lt_of_le
abbrev eQ:=@List.mem_filter
abbrev eR:=@if_pos
abbrev fA:=@List.mem_append_left
abbrev fI:=@if_neg
abbrev fN:=@List.mem_append_right
abbrev fR:=@List.getElem?_set_self
abbrev gL:=@List.mem_append
abbrev gN:=@List.mem_map
abbrev hU:=@Nat.le_trans
abbrev hV:=@decide_eq_false
abbrev hZ:=@List.length_append
abbrev i3:=@List.length_cons
abbrev i4:=@decide_eq_true
abbrev i5:=@List.not_mem_nil
abbrev i6:=@Option.some.inj
abbrev i7:=@List.getElem?_eq_getElem
abbrev i8:=@Nat.ne_of_lt
abbrev i9:=@PySem.wpAny_holding
abbrev kA:=@List.length_replicate
abbrev kS:=@List.map_append
abbrev lL:=@PySem.wpAny_newObj_type
abbrev lS:=@PySem.sizeLine_eq
abbrev mB:=@PyProof.Rows.slot_tuple_getitem
abbrev mE:=@List.pairwise_cons
abbrev mI:=@PySem.wpAny_truthy_bool
abbrev mM:=@List.append_assoc
abbrev mN:=@decide_eq_true_eq
abbrev mP:=@Bool.false_ne_true
abbrev nE:=@Array.length_toList
abbrev nK:=@PyProof.Rows.callWith_type1
abbrev nN:=@List.append_nil
abbrev nS:=@PySem.wpAny_field
abbrev nV:=@List.Perm.refl
abbrev oC:=@PySem.wpAny_callSpecial?_slot
abbrev oD:=@PySem.F.plainAttrs_list
abbrev oI:=@List.lookup_cons
abbrev oP:=@List.mem_map_of_mem
abbrev oQ:=@PySem.wpAny_mono
abbrev oS:=@Ne.symm
abbrev oT:=@Nat.lt_irrefl
abbrev pE:=@Bool.eq_iff_iff
abbrev pV:=@List.length_set
abbrev qS:=@PySem.W.kia_one
abbrev rV:=@List.mem_of_getElem?
abbrev sB:=@PySem.wpAny_call_entry
abbrev sK:=@List.mem_flatMap
abbrev sR:=@List.getD_eq_getElem?_getD
abbrev sT:=@List.getElem?_map
abbrev tJ:=@List.mem_range
abbrev tP:=@List.all_eq_true
abbrev tS:=@List.dropLast_concat
abbrev t0:=@Nat.add_sub_cancel_left
abbrev t5:=@List.nodup_append
abbrev t6:=@List.replicate_succ
abbrev t7:=@Nat.zero_le
abbrev t8:=@Array.getD_eq_getD_getElem?
abbrev t9:=@PySem.F.slot_tuple_iterator_next
abbrev u4:=@List.length_take
abbrev u7:=@Nat.lt_succ_self
abbrev u8:=@List.length_singleton
abbrev vS:=@Nat.lt_or_ge
abbrev v0:=@PySem.wpAny_setField_rec
abbrev v6:=@List.getElem?_eq_none_iff
abbrev wE:=@PySem.wpAny_seqItems
abbrev wP:=@PySem.wpAny_passesOwn
abbrev wS:=@List.getElem?_take_of_lt
abbrev wT:=@Int.toNat_natCast
abbrev w8:=@of_decide_eq_true
abbrev w9:=@PySem.mem_of_lookup
abbrev xI:=@List.pairwise_singleton
abbrev xL:=@List.length_reverse
abbrev x0:=@List.eq_nil_of_length_eq_zero
abbrev x5:=@PySem.Heap.size_push
abbrev yA:=@PySem.Heap.get?_update_other
abbrev yB:=@Nat.lt_of_succ_lt_succ
abbrev yY:=@List.mem_replicate
abbrev y0:=@List.getElem?_eq_none
abbrev y6:=@Nat.not_lt_zero
abbrev y7:=@Bool.or_eq_true
abbrev y8:=@List.contains_iff_mem
abbrev An:=@List.flatten_cons
abbrev Ap:=@or_false
abbrev At:=@Array.perm_iff_toList_perm
abbrev AA:=@Nat.not_succ_le_zero
abbrev AB:=@List.nodup_nil
abbrev AC:=@List.getLast?_eq_some_iff
abbrev AD:=@List.length_drop
abbrev AE:=@Nat.le_succ
abbrev AF:=@List.map_congr_left
abbrev AG:=@PySem.F.args_tuple_add_2
abbrev AH:=@PySem.F.slot_list_append
abbrev AI:=@PySem.F.type_list_append
abbrev AJ:=@PySem.F.entry_tuple_add
abbrev AK:=@Array.Perm.refl
abbrev AL:=@List.map_singleton
abbrev AM:=@Classical.axiomOfChoice
abbrev AO:=@Option.map_eq_some_iff
abbrev AQ:=@PySem.F.slot_tuple_add
abbrev AS:=@Nat.le_of_succ_le_succ
abbrev AT:=@List.reverse_cons
abbrev AU:=@PySem.W.kitx_list
abbrev AV:=@PySem.W.kitx_dict
abbrev AW:=@Array.getElem?_toList
abbrev AX:=@Nat.succ.inj
abbrev AY:=@PySem.F.slot_list_pop
abbrev AZ:=@PySem.F.type_list_pop
abbrev A4:=@List.dropLast_eq_take
abbrev A5:=@List.set_append_right
abbrev A6:=@decide_eq_decide
abbrev A8:=@PySem.wpAny_standAt
abbrev A9:=@PySem.wpAny_newList
abbrev Bn:=@PySem.wpAny_onRaise
abbrev Bz:=@beq_eq_false_iff_ne
abbrev BA:=@List.filterMap_cons
abbrev BD:=@Option.map_some
abbrev BE:=@List.nil_append
abbrev BH:=@List.length_flatten
abbrev BI:=@Nat.ne_of_gt
abbrev BM:=@PySem.wpAny_typeOf
abbrev BN:=@Nat.zero_add
abbrev BQ:=@Bool.and_false
abbrev BS:=@PySem.call_meets
theorem nt{p:Prop}(h:false=true):p:=Bool.noConfusion h
namespace L2
def fK(s:Stmt):Arguments:=match s with
 |.FunctionDef _ a _ _ _ _ _ _ _ _=>a
 |_=>{ posonlyargs:=[],args:=[],vararg:=none,kwonlyargs:=[],kw_defaults:=[],kwarg:=none,defaults:=[]}
def bC(s:Stmt):List Stmt:=match s with
 |.FunctionDef _ _ b _ _ _ _ _ _ _=>b
 |_=>[]
def aQ(s:Stmt):Scope:=match s with
 |.FunctionDef _ _ _ _ _ _ sc _ _ _=>sc
 |_=>{ kind:=.function,names:=[],isGenerator:=false,isCoroutine:=false}
end L2
namespace Ev
open L2
noncomputable def mF(qs:List Addr)(K:Params->Frag)(P:Params):Frag:=qs.map (λq=>(q,{ cls:=.none,data:=.fields #[]}))++K P
section
open PySem.W
noncomputable def Ef(tb:String->Option Builtin)(p:Program)(w:World)(n₀:Nat)(ann:Option Value):Nat->SharedT->Thread->Option SharedT
 | 0,_,_=>none
 |n+1,s,t=>match through t with
  |true=>some s
  |false=>match stepOk n₀ ann t with
   |false=>none
   |true=>match stepT (denote tb) p w s t with
    |some (s',t')=>Ef tb p w n₀ ann n s' t'
    |none=>none
theorem uD:∀{n:Nat}{s s':SharedT}{t:Thread},Ef tb p w n₀ ann n s t=some s'->topRun tb p w n₀ ann n s.abs t=some s'.abs
 | 0,_,_,_,h=>by symm
 |n+1,s,s',t,h=>by
  unfold Ef at h;unfold topRun;cases he:through t with
  |true=>rw[he]at h;symm;rfl
  |false=>
   rw[he]at h;cases hk:stepOk n₀ ann t with
   |false=>rw[hk]at h;symm
   |true=>
    rw[hk]at h;cases hs:stepT (denote tb) p w s t with
    |none=>rw[hs]at h;symm
    |some r=>obtain⟨s₂,t₂⟩:=r;rw[hs]at h;rw[stepT_spec hs];exact uD h
noncomputable def Jm:BT->Nat->List Obj->BT
 |t,_,[]=>t
 |t,n,o::os=>Jm (t.ins n o) (n+1) os
noncomputable def yC(P:Params):BT:=Jm .nil 0 (boot_heap P).objs.toList
theorem yD(P:Params):absHeap (yC P) 11 (boot_heap P).life=boot_heap P:=by kernel_rfl
noncomputable abbrev AN (P:Params):Option Value:=(boot_heap P).nsMap mainGlobals "__annotations__"
theorem vW{p q:Program}{loose:List Str}{Xt:Shared->Bool}{α:Type}{Yf:Shared->α}{Ya:World->α}{N:Nat}{ann:Option Value}
  (e:opening p=plainProg p.main.scope.names) (hN:Nat.ble 600 N=true) (f:∀s,fenceModules? p s=some s) (ha:∀P,AN P=ann)
  (run:∀(w:World) (os:OsState),(Ef treeTable p w 11 ann N ⟨yC w.params,11,(boot_heap w.params).life,#[],boot_drawn,boot_toks,os⟩ (topStub p)).map (λs=>
   (staticsOk (importedModules p.main.body) (boot_heap w.params) s.abs.heap&&namesBound p s.abs.heap&&gensDone s.abs&&laidKept (boot_heap w.params) s.abs.heap,openSeen q loose (importedModules p.main.body) Xt true s.abs,Yf s.abs))=some (true,openGood q loose,Ya w)):LeftO p q loose Xt Yf Ya N:=λw=>by
 obtain⟨⟨h,gs,d,k,os⟩,e1,e2⟩:=AO.mp (boot_open e hN f w);obtain⟨rfl,rfl,rfl,rfl⟩:h=boot_heap w.params/\gs=Array.mk []/\d=boot_drawn/\k=boot_toks:=by simpa using e2
 obtain⟨s,r1,r2⟩:=AO.mp (run w os);obtain⟨l1,l2,l3⟩:_/\_/\_:=by simpa only[Prod.mk.injEq]using r2
 have r:=uD r1;unfold openEnds;rw[e1];show (topFrom treeTable p w N _).map _=_;have z0:((boot_heap w.params).isNs mainGlobals&&(Array.mk []:Array GenState).size==0)=true:=by kernel_rfl
 have t:topFrom treeTable p w N ⟨boot_heap w.params,Array.mk [],boot_drawn,boot_toks,os⟩=some s.abs:=by
  unfold topFrom;dsimp only;rw[z0];have r':topRun treeTable p w (boot_heap w.params).objs.size ((boot_heap w.params).nsMap mainGlobals "__annotations__") N ⟨boot_heap w.params,Array.mk [],boot_drawn,boot_toks,os⟩ (topStub p)=some s.abs:=by
   have:=ha w.params;unfold AN at this;rw[this];have z:SharedT.abs ⟨yC w.params,11,(boot_heap w.params).life,#[],boot_drawn,boot_toks,os⟩=⟨boot_heap w.params,Array.mk [],boot_drawn,boot_toks,os⟩:=by unfold SharedT.abs;dsimp only;rw[yD]
   rw[z]at r;exact r
  rw[r'];show (match staticsOk (importedModules p.main.body) (boot_heap w.params) s.abs.heap&&namesBound p s.abs.heap&&gensDone s.abs&&laidKept (boot_heap w.params) s.abs.heap with |true=>_ |false=>_)=_
  rw[l1]
 rw[t];exact congrArg some (Prod.ext l2 l3)
theorem Qt(P:Params):AN P=some (.ref 6):=by kernel_rfl
end
end Ev
namespace cC
open L2 Ev
def st(j:Nat):Stmt:=PySem.Challenge.pw_websbykind_k51_codes_known.main.body.getD j (.Pass ⟨0,0,0,0⟩)
noncomputable def de(P:Params)(s:Str)(t:Tok)(v:Value):DictEntry:=⟨PyData.keyHash P s,.str s t,v⟩
noncomputable def co(vs:Array Value):Obj:=⟨.type "code",none,.fields vs,#[]⟩
noncomputable def fo(j:Nat)(n:Str)(kV doc pm:Value)(an:Option Addr)(dz ct:Value):Obj:=⟨.type "function",none,.func (PySem.W.fnOf n n (fK (st j)) (bC (st j)) (aQ (st j)) .none kV doc pm an dz ct),#[]⟩
noncomputable def ce(n:Str)(b a s r t u:Nat):Obj:=⟨.type "type",none,.cls ⟨n,[.ref b],[.ref a,.ref b,.type "ValueError",.type "Exception",.type "BaseException",.type "object"],s,n,true,[],[],false,none,false⟩,#[some (.ref r),none,some (.str n t),some (.str n u),some (.builtin "ValueError.__new__"),some (.bool true)]⟩
def cd(n:Str)(t l p r:Nat)(x y z:Value)(u:Nat):Obj:=co #[.str n t,.str n (t+1),.str "/claim/cut.py" (t+2),.int l 0,.int p 0,.int 0 0,.int 0 0,.int 3 0,.ref r,.bool true,.int 181 0,.ref (r+1),.none,x,y,z,.int u 0,.int l 0,.str "/claim/cut.py" (u+1)]
def fq(j:Nat)(n:Str)(m:Value)(c:Addr):Obj:=fo j n .none .none m none (.ref c) .none
def m0:Value:=.str "websbykind.trees" 187
def m1:Value:=.str "law_websbykind_k51_codes_known" 208
def K(P:Params):Frag:=
 (nat_lit 3,⟨.type "dict",none,.dict #[de P "__name__" 165 (.str "law_websbykind_k51_codes_known" 208),de P "__doc__" 166 (.none),de P "__package__" 167 (.none),de P "__loader__" 168 (.builtin "__main__.__loader__#opaque"),de P "__spec__" 169 (.none),de P "__annotations__" 170 (.ref 6),de P "__builtins__" 171 (.ref 4),de P "__file__" 173 (.str "/claim/cut.py" 172),de P "__cached__" 174 (.none),de P "MOST_SIGNS" 190 (.int 40 189),de P "is_code" 200 (.ref 21),de P "joined" 207 (.ref 28),de P "_law_cell_at" 217 (.ref 35),de P "_law_state" 226 (.ref 42),de P "_law_take" 236 (.ref 49),de P "_law_named" 247 (.ref 56),de P "_law_mixed" 257 (.ref 63),de P "_law_tree" 268 (.ref 70),de P "_law_near" 274 (.ref 75),de P "_law_code" 280 (.ref 80),de P "_law_some_code" 289 (.ref 87),de P "_law_bent_code" 301 (.ref 94),de P "_law_same" 307 (.ref 99),de P "_law_branches" 318 (.ref 106),de P "_law_is_code" 327 (.ref 113),de P "law" 333 (.ref 118)] 26,#[]⟩) ::
 (nat_lit 4,⟨.type "module",(some 0),.plain,#[]⟩) ::
 (nat_lit 20,cd "is_code" 191 3 1 15 (.ref 17) (.ref 18) (.ref 19) 198) ::
 (nat_lit 21,fq 2 "is_code" m0 20) ::
 (nat_lit 27,cd "joined" 201 18 1 22 (.ref 24) (.ref 25) (.ref 26) 205) ::
 (nat_lit 28,fq 3 "joined" m0 27) ::
 (nat_lit 34,cd "_law_cell_at" 210 21 2 29 (.ref 31) (.ref 32) (.ref 33) 215) ::
 (nat_lit 35,fq 5 "_law_cell_at" m1 34) ::
 (nat_lit 41,cd "_law_state" 218 25 2 36 (.ref 38) (.ref 39) (.ref 40) 224) ::
 (nat_lit 42,fq 6 "_law_state" m1 41) ::
 (nat_lit 48,cd "_law_take" 227 30 2 43 (.ref 45) (.ref 46) (.ref 47) 234) ::
 (nat_lit 49,fq 7 "_law_take" m1 48) ::
 (nat_lit 55,cd "_law_named" 237 39 2 50 (.ref 52) (.ref 53) (.ref 54) 245) ::
 (nat_lit 56,fq 8 "_law_named" m1 55) ::
 (nat_lit 62,cd "_law_mixed" 248 44 2 57 (.ref 59) (.ref 60) (.ref 61) 255) ::
 (nat_lit 63,fq 9 "_law_mixed" m1 62) ::
 (nat_lit 69,cd "_law_tree" 258 50 2 64 (.ref 66) (.ref 67) (.ref 68) 266) ::
 (nat_lit 70,fq 10 "_law_tree" m1 69) ::
 (nat_lit 74,cd "_law_near" 269 56 2 71 .none .none (.ref 73) 272) ::
 (nat_lit 75,fq 11 "_law_near" m1 74) ::
 (nat_lit 79,cd "_law_code" 275 58 3 76 .none .none (.ref 78) 278) ::
 (nat_lit 80,fq 12 "_law_code" m1 79) ::
 (nat_lit 86,cd "_law_some_code" 281 61 1 81 (.ref 83) (.ref 84) (.ref 85) 287) ::
 (nat_lit 87,fq 13 "_law_some_code" m1 86) ::
 (nat_lit 93,cd "_law_bent_code" 290 65 2 88 (.ref 90) (.ref 91) (.ref 92) 299) ::
 (nat_lit 94,fq 14 "_law_bent_code" m1 93) ::
 (nat_lit 98,cd "_law_same" 302 72 2 95 .none .none (.ref 97) 305) ::
 (nat_lit 99,fq 15 "_law_same" m1 98) ::
 (nat_lit 105,cd "_law_branches" 308 80 1 100 (.ref 102) (.ref 103) (.ref 104) 316) ::
 (nat_lit 106,fq 16 "_law_branches" m1 105) ::
 (nat_lit 112,cd "_law_is_code" 319 95 1 107 (.ref 109) (.ref 110) (.ref 111) 325) ::
 (nat_lit 113,fq 17 "_law_is_code" m1 112) ::
 (nat_lit 117,cd "law" 328 105 1 114 .none .none (.ref 116) 331) ::
 (nat_lit 118,fq 18 "law" m1 117)::[]
noncomputable def as:List Addr:=nat_lit 3::nat_lit 4::nat_lit 20::nat_lit 21::nat_lit 27::nat_lit 28::nat_lit 34::nat_lit 35::nat_lit 41::nat_lit 42::nat_lit 48::nat_lit 49::nat_lit 55::nat_lit 56::nat_lit 62::nat_lit 63::nat_lit 69::nat_lit 70::nat_lit 74::nat_lit 75::nat_lit 79::nat_lit 80::nat_lit 86::nat_lit 87::nat_lit 93::nat_lit 94::nat_lit 98::nat_lit 99::nat_lit 105::nat_lit 106::nat_lit 112::nat_lit 113::nat_lit 117::nat_lit 118::[]
def as2:List Addr:=nat_lit 115 ::  as
noncomputable def qv:Program:={ PySem.Challenge.pw_websbykind_k51_codes_known with main:={ PySem.Challenge.pw_websbykind_k51_codes_known.main with body:=[st 1,st 2,st 3,st 5,st 6,st 7,st 8,st 9,st 10,st 11,st 12,st 13,st 14,st 15,st 16,st 17,st 18]}}
theorem Qu(P:Params):as2=(mF [115] K P).map (·.1):=by kernel_rfl
theorem op:PySem.W.opening PySem.Challenge.rw_websbykind_k51_codes_known.row.prog=PySem.W.plainProg PySem.Challenge.rw_websbykind_k51_codes_known.row.prog.main.scope.names:=by kernel_rfl
theorem fe:∀s,PySem.fenceModules? PySem.Challenge.rw_websbykind_k51_codes_known.row.prog s=some s:=λs=>by kernel_rfl
theorem hl:PySem.W.LeftO PySem.Challenge.rw_websbykind_k51_codes_known.row.prog qv [] (λs=>PySem.W.xlAt qv [] s&&PySem.W.recOk (PySem.W.OpenRow.toRowW PySem.Challenge.rw_websbykind_k51_codes_known.row).records s) (λs=>as2.map s.heap.get?) (λw=>(mF [115] K w.params).map λp:Nat×Obj=>some p.2) 8000:=vW op ⋯ fe Qt λw os=>by kernel_rfl
end cC
namespace Ev
open PySem PySem.W
end Ev
namespace L2
abbrev Key:=Sum Int Str
noncomputable def mG:Key->Value->Bool
 |.inl k,v=>Value.isInt k v
 |.inr x,v=>Value.isStrOf x v
noncomputable def VB(w:World):Key->Int
 |.inl k=>hashInt k
 |.inr x=>hashStr w x
theorem aW:∀{k:Key}{v:Value},mG k v=true->(∃i t,k=Sum.inl i/\v=Value.int i t)\/(∃x t,k=Sum.inr x/\v=Value.str x t)
 |.inl i,v,h=>by
  obtain⟨t,e⟩:=Value.isInt_shape h;exact .inl ⟨i,t,rfl,e⟩
 |.inr x,v,h=>by
  obtain⟨t,e⟩:=Value.isStrOf_shape h;exact .inr ⟨x,t,rfl,e⟩
theorem vX(i:Int)(t:Tok):mG (.inl i) (.int i t)=true:=by simp[mG,Value.isInt]
theorem vY(x:Str)(t:Tok):mG (.inr x) (.str x t)=true:=by simp[mG,Value.isStrOf]
theorem J2(a b:Int):decide ((Sum.inl a:Key)=Sum.inl b)=(a==b):=by
 by_cases e:a=b
 . subst e;simp
 .
  have h : ¬ (Sum.inl a:Key)=Sum.inl b:=λq=>e (Sum.inl.inj q)
  rw[hV h];exact (Bz.mpr e).symm
theorem J3(a b:Str):decide ((Sum.inr a:Key)=Sum.inr b)=decide (a=b):=by
 by_cases e:a=b
 . subst e;simp
 .
  have h : ¬ (Sum.inr a:Key)=Sum.inr b:=λq=>e (Sum.inr.inj q)
  rw[hV h,hV e]
theorem J4(a:Int)(b:Str):decide ((Sum.inl a:Key)=Sum.inr b)=false:=hV (λq=>nomatch q)
theorem J5(a:Str)(b:Int):decide ((Sum.inr a:Key)=Sum.inl b)=false:=hV (λq=>nomatch q)
def eF(prog:Program)(w:World):PySem.KeyKind prog w Key where
 is:=mG
 hash:=VB w
 inj:=λv a b ha hb=>by
  rcases aW ha with ⟨i,t,rfl,rfl⟩ |⟨x,t,rfl,rfl⟩
  .
   rcases aW hb with ⟨j,u,rfl,e⟩ |⟨y,u,rfl,e⟩
   . injection e with e1 _;rw[e1]
   . exact nomatch e
  .
   rcases aW hb with ⟨j,u,rfl,e⟩ |⟨y,u,rfl,e⟩
   . exact nomatch e
   . injection e with e1 _;rw[e1]
 byValue:=λk v h=>by
  rcases aW h with ⟨i,t,rfl,rfl⟩ |⟨x,t,rfl,rfl⟩ <;> rfl
 pyHash:=λhv h=>by
  rcases aW hv with ⟨i,t,rfl,rfl⟩ |⟨x,t,rfl,rfl⟩
  . exact wpAny_pyHash_int h
  . exact wpAny_pyHash_str h
 eqBool:=λhu hv h=>by
  rcases aW hu with ⟨i,t,rfl,rfl⟩ |⟨x,t,rfl,rfl⟩
  .
   rcases aW hv with ⟨j,u,rfl,rfl⟩ |⟨y,u,rfl,rfl⟩
   . rw[J2]at h;exact wpAny_eqBool_int h
   . rw[J4]at h;exact SeqAt.EqAt.int_str i t y u _ _ _ _ h
  .
   rcases aW hv with ⟨j,u,rfl,rfl⟩ |⟨y,u,rfl,rfl⟩
   . rw[J5]at h;exact SeqAt.EqAt.str_int x t j u _ _ _ _ h
   . rw[J3]at h;exact wpAny_eqBool_str h
 «strs»:=λk x t v h=>by
  rcases aW h with ⟨i,u,rfl,e⟩ |⟨y,u,rfl,e⟩
  . exact nomatch e
  . injection e with e1 _;subst e1;cases v <;> rfl
theorem qa(prog:Program)(w:World)(i:Int)(t:Tok):(eF prog w).is (.inl i) (.int i t)=true:=vX i t
theorem qc(prog:Program)(w:World)(x:Str)(t:Tok):(eF prog w).is (.inr x) (.str x t)=true:=vY x t
inductive V where
 |non |bl (b:Bool) |int (i:Int) |str (x:Str) |uE (b:Array UInt8) |flt (b:UInt64) |ref (a:Addr) |ty (n:String)
 deriving DecidableEq
noncomputable def RelV:V->Value->Prop
 |.non,u=>u=Value.none
 |.bl b,u=>u=Value.bool b
 |.int i,u=>∃t,u=Value.int i t
 |.str x,u=>∃t,u=Value.str x t
 |.uE b,u=>∃t,u=Value.bytes b t
 |.flt b,u=>∃t,u=Value.float b t
 |.ref a,u=>u=Value.ref a
 |.ty n,u=>u=Value.type n
abbrev Vals:List V->List Value->Prop:=Paired RelV
theorem Vals.length{xs:List V}{us:List Value}(r:Vals xs us):xs.length=us.length:=Paired.length r
theorem Vals.get:∀{xs:List V}{us:List Value}{i:Nat}{x:V},Vals xs us->xs[i]?=some x->∃u,us[i]?=some u/\RelV x u
 |_,_,_,_,.nil,e=>by simp at e
 |_,_,0,_,.cons r _,e=>by simp at e;subst e;exact⟨_,rfl,r⟩
 |_,_,i+1,x,.cons _ t,e=>by
  obtain⟨u,h1,h2⟩:=Vals.get t (by simpa using e)
  exact⟨u,by simpa using h1,h2⟩
theorem Vals.set(r:RelV x u):∀{xs:List V}{us:List Value} (i:Nat),Vals xs us->Vals (xs.set i x) (us.set i u)
 |_,_,_,.nil=>.nil
 |_,_,0,.cons _ t=>.cons r t
 |_,_,i+1,.cons q t=>.cons q (Vals.set r i t)
theorem Vals.append:∀{xs ys:List V}{us ws:List Value},Vals xs us->Vals ys ws->Vals (xs++ys) (us++ws):=by
 intro xs ys us ws h s
 induction h with
 |nil=>exact s
 |cons r t ih=>exact .cons r ih
theorem Vals.take:∀{xs:List V}{us:List Value} (n:Nat),Vals xs us->Vals (xs.take n) (us.take n)
 |_,_,0,_=>.nil
 |_,_,_+1,.nil=>.nil
 |_,_,n+1,.cons r t=>.cons r (Vals.take n t)
theorem Vals.drop:∀{xs:List V}{us:List Value} (n:Nat),Vals xs us->Vals (xs.drop n) (us.drop n)
 |_,_,0,r=>r
 |_,_,_+1,.nil=>.nil
 |_,_,n+1,.cons _ t=>Vals.drop n t
def Qv:Option V->Option Value->Prop
 |some v,some u=>RelV v u
 |none,none=>True
 |_,_=>False
def KV{κ:Type}:List (κ×V)->List (κ×Value)->Prop:=Paired λ(p:κ×V) (q:κ×Value)=>p.1=q.1/\RelV p.2 q.2
noncomputable def kV:Key->V
 |.inl i=>.int i
 |.inr x=>.str x
inductive HO where
 |lst (xs:List V)
 |tup (xs:List V)
 |dK (e8:List (Key×V)) |dT (e8:List (List Key×V))
 |set (S:Int->Bool) (n:Nat)
 |ins (C dx:Addr) (fs:List (Str×V))
 |own (x:Addr)
 |xd (fs:List (Str×V))
 |met (f x:Addr)
 |VD (lo hi:Int)
 |jG (o:Obj) (u:HO)
 |yj (ps:Array Value)
 |ext (φ:Heap->Prop)
abbrev Hp:=Addr->Option HO
noncomputable def upd(H:Hp)(a:Addr)(o:HO):Hp:=λb=>if b=a then some o else H b
theorem aA:upd H a o a=some o:=by unfold upd;rw[eR rfl]
theorem az(h:b≠a):upd H a o b=H b:=by unfold upd;rw[fI h]
theorem aK{H:Hp}{a b:Addr}{o:HO}(h:H a=some o)(h':H b=none):a≠b:=by intro e;subst e;rw[h]at h';cases h'
def dB(h:Heap)(a:Addr)(aq:Array Value):Prop:=∃o,h.get? a=some o/\(o.cls=.type "tuple" /\∃n,o.data=.seq aq n)/\o.dict=none
theorem dB.tup{h:Heap}{a:Addr}{aq:Array Value}(x:dB h a aq):IsTup h a aq:=let ⟨o,e,c,_⟩:=x;⟨o,e,c⟩
theorem dB.new(h:Heap)(aq:Array Value):dB (h.push { cls:=.type "tuple",data:=.seq aq}) h.objs.size aq:=⟨_,d0 _ rfl,⟨rfl,_,rfl⟩,rfl⟩
section
variable(P:Program)(w:World)
def cD(H:Hp)(h:Heap)(a:Addr):HO->Prop
 |.lst xs=>xs.length<=sizeLine/\∃(aq:List Value) (n:Nat),Vals xs aq/\h.get? a=some { cls:=.type "list",data:=.seq aq.toArray n}
 |.tup xs=>xs.length<=sizeLine/\∃aq:List Value,Vals xs aq/\dB h a aq.toArray
 |.dK e8=>e8.length<=sizeLine/\(a==sysModules)=false/\∃vs,KV e8 vs/\h.DictOf (eF P w) a vs
 |.dT e8=>e8.length<=sizeLine/\(a==sysModules)=false/\∃xs:List (List Key×Addr×Value),
   Paired (λ(p:List Key×V) (q:List Key×Addr×Value)=>p.1=q.1/\H q.2.1=some (.tup (p.1.map kV))/\RelV p.2 q.2.2) e8 xs/\
   ∃o es ep,h.get? a=some o/\o.ExactDict/\o.data=.dict es ep/\es.toList=xs.map (entryOfKey (tupleKind (eF P w)))/\(xs.map (·.1)).Nodup
 |.set S n=>h.SetOf (intKind P w) a S n
 |.ins C dx fs=>H dx=some (.own a)/\fs.length<=1000/\dx≠a/\h.get? a=some (PySem.W.instObj C dx)/\
   ∃mA,h.Ns1 dx mA/\(∀f,Qv (fs.lookup f) (mA f))/\PySem.Within mA (fs.map (·.1))
 |.own _=>∃o,h.get? a=some o
 |.xd fs=>∃mA,h.Ns1 a mA/\∀f,Qv (fs.lookup f) (mA f)
 |.VD lo hi=>∃t u v,h.get? a=some { cls:=.type "range",data:=.fields #[.int lo t,.int hi u,.int 1 v]}
 |.jG o u=>h.get? a=some o/\cD H h a u
 |.yj ps=>h.get? a=some { cls:=.none,data:=.fields ps}
 |.met f x=>h.get? a=some (PySem.W.methodObj (.ref f) (.ref x))
 |.ext φ=>φ h/\(∃o,h.get? a=some o)/\∀h1 h2:Heap,φ h1->(∀o,h1.get? a=some o->h2.get? a=some o)->φ h2
def kC(H:Hp)(h:Heap):Prop:=∀a o,H a=some o->cD P w H h a o
end
section
variable{P:Program}{w:World}{H H':Hp}{h h':Heap}{a:Addr}{o:HO}
theorem cD.lt(x:cD P w H h a o):a<h.objs.size:=by
 cases o with
 |lst xs=>obtain⟨_,_,_,_,e⟩:=x;exact eJ e
 |tup xs=>obtain⟨_,_,_,_,e,_⟩:=x;exact eJ e
 |dK e8=>obtain⟨_,_,_,_,o,_,_,e,_⟩:=x;exact eJ e
 |dT e8=>obtain⟨_,_,_,_,o,_,_,e,_⟩:=x;exact eJ e
 |set S n=>obtain⟨o,_,_,_,e,_⟩:=x;exact eJ e
 |ins C dx fs=>obtain⟨_,_,_,e,_⟩:=x;exact eJ e
 |own y=>obtain⟨_,e⟩:=x;exact eJ e
 |xd fs=>obtain⟨_,⟨_,_,_,e,_⟩,_⟩:=x;exact eJ e
 |VD lo hi=>obtain⟨_,_,_,e⟩:=x;exact eJ e
 |jG ob u=>obtain⟨e,_⟩:=x;exact eJ e
 |yj ps=>exact eJ (show h.get? a=some _ from x)
 |met f y=>exact eJ (show h.get? a=some _ from x)
 |ext φ=>obtain⟨_,⟨_,e⟩,_⟩:=x;exact eJ e
theorem Paired.VF{α β:Type}{F G:α->β->Prop}:∀{l₁:List α}{l₂:List β},Paired F l₁ l₂->(∀a b,F a b->G a b)->Paired G l₁ l₂:=by
 intro l₁ l₂ h f
 induction h with
 |nil=>exact .nil
 |cons r t ih=>exact .cons (f _ _ r) ih
theorem cD.stay(x:cD P w H h a o)(k:∀b u,(b=a\/H b=some (.own a))->h.get? b=some u->h'.get? b=some u)
  (ho:∀b,H b=some (.own a)->H' b=some (.own a)) (ht:∀b xs,H b=some (.tup xs)->H' b=some (.tup xs)):cD P w H' h' a o:=by
 induction o with
 |lst xs=>obtain⟨z,aq,n,r,e⟩:=x;exact⟨z,aq,n,r,k _ _ (.inl rfl) e⟩
 |tup xs=>obtain⟨z,aq,r,ob,e,c⟩:=x;exact⟨z,aq,r,ob,k _ _ (.inl rfl) e,c⟩
 |dK e8=>obtain⟨z,y,vs,r,ob,es,ep,e,c⟩:=x;exact⟨z,y,vs,r,ob,es,ep,k _ _ (.inl rfl) e,c⟩
 |dT e8=>obtain⟨z,y,xs,r,ob,es,ep,e,c⟩:=x;exact⟨z,y,xs,Paired.VF r λp q z=>⟨z.1,ht _ _ z.2.1,z.2.2⟩,ob,es,ep,k _ _ (.inl rfl) e,c⟩
 |set S n=>obtain⟨ob,es,ep,t,e,c⟩:=x;exact⟨ob,es,ep,t,k _ _ (.inl rfl) e,c⟩
 |ins C dx fs=>obtain⟨d,z,ne,e,mA,⟨od,es,ep,e2,c⟩,r⟩:=x;exact⟨ho _ d,z,ne,k _ _ (.inl rfl) e,mA,⟨od,es,ep,k _ _ (.inr d) e2,c⟩,r⟩
 |own y=>obtain⟨ob,e⟩:=x;exact⟨ob,k _ _ (.inl rfl) e⟩
 |xd fs=>obtain⟨mA,⟨od,es,ep,e,c⟩,r⟩:=x;exact⟨mA,⟨od,es,ep,k _ _ (.inl rfl) e,c⟩,r⟩
 |VD lo hi=>obtain⟨t,u,v,e⟩:=x;exact⟨t,u,v,k _ _ (.inl rfl) e⟩
 |jG ob u ih=>obtain⟨e,q⟩:=x;exact⟨k _ _ (.inl rfl) e,ih q⟩
 |yj ps=>have e:=x;exact k a _ (.inl rfl) e
 |met f y=>have e:=x;exact k a _ (.inl rfl) e
 |ext φ=>obtain⟨p,⟨o,e⟩,st⟩:=x;exact⟨st _ _ p λo q=>k _ _ (.inl rfl) q,⟨o,k _ _ (.inl rfl) e⟩,st⟩
theorem kC.lt(x:kC P w H h)(e:H a=some o):a<h.objs.size:=(x a o e).lt
theorem kC.fresh(x:kC P w H h)(e:h.objs.size<=a):H a=none:=by
 cases q:H a with
 |none=>rfl
 |some u=>exact absurd (eP (x.lt q) e) (oT _)
theorem kC.kept(x:kC P w H h)(k:∀b u,h.get? b=some u->h'.get? b=some u):kC P w H h':=λa o e=>
 (x a o e).stay (λb u _ q=>k b u q) (λ_ q=>q) λ_ _ q=>q
theorem kC.laid(x:kC P w H h)(k:∀b u,h.get? b=some u->h'.get? b=some u)(hp:h.objs.size<=a)(new:cD P w (upd H a o) h' a o):kC P w (upd H a o) h':=λb u e=>by
 have hn:=x.fresh hp;by_cases hb:b=a
 . subst hb;rw[aA]at e;cases e;exact new
 . rw[az hb]at e;exact (x b u e).stay (λc v _ q=>k c v q) (λc q=>by rw[az (aK q hn)];exact q) λc xs q=>by rw[az (aK q hn)];exact q
end
def Rd(H:Hp)(a:Addr)(u:HO):Prop:=H a=some u\/∃o,H a=some (.jG o u)
theorem Rd.ok{P:Program}{w:World}{H:Hp}{h:Heap}{a:Addr}{u:HO}(r:Rd H a u)(x:kC P w H h):cD P w H h a u:=by
 rcases r with r |⟨o,r⟩
 . exact x a u r
 . obtain⟨_,q⟩:=x a _ r;exact q
noncomputable def Ux:Option HO->Prop
 |some (.lst _)=>True
 |some (.dK _)=>True
 |some (.dT _)=>True
 |some (.set _ _)=>True
 |some (.ins _ _ _)=>True
 |some (.ext _)=>True
 |_=>False
section
variable{P:Program}{w:World}{H:Hp}{h h':Heap}{x e:Addr}{o':HO}
theorem kC.write(ok:kC P w H h)(mu:Ux (H x))(he:e=x\/H e=some (.own x))(k:∀b u,b≠e->h.get? b=some u->h'.get? b=some u)(PN:∃u,h'.get? e=some u)
  (new:cD P w (upd H x o') h' x o'):kC P w (upd H x o') h':=λb u q=>by
 have Qw:∀c y,H c=some (.own y)->c≠x:=λc y r z=>by subst z;rw[r]at mu;exact mu
 have VG:∀c xs,H c=some (.tup xs)->c≠x:=λc xs r z=>by subst z;rw[r]at mu;exact mu
 by_cases hb:b=x
 . subst hb;rw[aA]at q;cases q;exact new
 .
  rw[az hb]at q;by_cases J6:b=e
  .
   have q':H b=some (.own x):=by
    rcases he with z |z
    . exact absurd (J6.trans z) hb
    . rw[J6];exact z
   rw[q]at q';cases q';obtain⟨v,hv⟩:=PN;exact⟨v,by rw[J6];exact hv⟩
  .
   refine (ok b u q).stay (λc v hc r=>k c v ?_ r) (λc r=>by rw[az (Qw c b r)];exact r) λc xs r=>by rw[az (VG c xs r)];exact r
   rcases hc with rfl |hc
   . exact J6
   .
    rintro rfl;rcases he with z |z
    . exact Qw c b hc z
    . rw[hc]at z;cases z;exact hb rfl
end
structure Un(fs ex:List Addr)(H H':Hp)(h h':Heap):Prop where
 keep:∀b o,h.get? b=some o->H b=none->b∉fs->b∉ex->h'.get? b=some o
 slot:∀b o,h.get? b=some o->H b=none->b∈fs->b∉ex->∃sl,h'.get? b=some { o with slots:=sl}
 free:∀b o,h.get? b=some o->H b=none->b∉ex->H' b=none
 there:∀b o,h.get? b=some o->b∉ex->∃o',h'.get? b=some o'
 tups:∀b xs,H b=some (.tup xs)->H' b=some (.tup xs)
 nX:∀b o u,H b=some (.jG o u)->H' b=some (.jG o u)
 nY:∀b ps,H b=some (.yj ps)->∃more,H' b=some (.yj (ps++more))
section
variable{fs fs' ex ex':List Addr}{H H1 H2:Hp}{h h1 h2 h':Heap}{a x e:Addr}{o:HO}
theorem Un.any(u:Un fs ex H H1 h h1){b:Addr}{ob:Obj}(q:h.get? b=some ob)(n:H b=none)(hx:b∉ex):∃sl,h1.get? b=some { ob with slots:=sl}:=by
 by_cases hb:b∈fs
 . exact u.slot b ob q n hb hx
 . exact⟨ob.slots,u.keep b ob q n hb hx⟩
theorem Un.kept(k:∀b u,h.get? b=some u->h'.get? b=some u):Un fs ex H H h h':=
 ⟨λb ob q _ _ _=>k b ob q,λb ob q _ _ _=>⟨ob.slots,k b ob q⟩,λ_ _ _ n _=>n,λb ob q _=>⟨ob,k b ob q⟩,λ_ _ q=>q,λ_ _ _ q=>q,λ_ ps q=>⟨#[],by rw[q];simp⟩⟩
theorem Un.refl:Un fs ex H H h h:=Un.kept λ_ _ q=>q
theorem Un.laid(k:∀b u,h.get? b=some u->h'.get? b=some u)(hp:h.objs.size<=a)(hn:H a=none):Un fs ex H (upd H a o) h h' where
 keep:=λb u q _ _ _=>k b u q
 slot:=λb u q _ _ _=>⟨u.slots,k b u q⟩
 free:=λb u q n _=>by rw[az (i8 (eP (eJ q) hp))];exact n
 there:=λb u q _=>⟨u,k b u q⟩
 tups:=λb xs q=>by rw[az (aK q hn)];exact q
 nX:=λb u xs q=>by rw[az (aK q hn)];exact q
 nY:=λb ps q=>⟨#[],by rw[az (aK q hn),q];simp⟩
theorem Un.write(mu:Ux (H x))(he:e=x\/H e=some (.own x))(k:∀b u,b≠e->h.get? b=some u->h'.get? b=some u)(PN:∃u,h'.get? e=some u):Un fs ex H (upd H x o) h h':=by
 have hx:∀b,H b=none->b≠x:=λb n z=>by subst z;rw[n]at mu;exact mu
 have hb:∀b,H b=none->b≠e:=λb n z=>by
  subst z;rcases he with r |r
  . exact hx b n r
  . rw[n]at r;cases r
 have hm:∀b u,H b=some u->¬ Ux (some u)->b≠x:=λb u q nm z=>by subst z;rw[q]at mu;exact nm mu
 refine⟨λb u q n _ _=>k b u (hb b n) q,λb u q n _ _=>⟨u.slots,k b u (hb b n) q⟩,λb u q n _=>by rw[az (hx b n)];exact n,λb u q _=>?_,
  λb xs q=>by rw[az (hm b _ q λz=>z)];exact q,λb u xs q=>by rw[az (hm b _ q λz=>z)];exact q,λb ps q=>⟨#[],by rw[az (hm b _ q λz=>z),q];simp⟩⟩
 by_cases J6:b=e
 . subst J6;exact PN
 . exact⟨u,k b u J6 q⟩
end
noncomputable def Uy(h:Heap)(H:Hp):List Addr:=(List.range h.objs.size).filter λa=>(H a).isSome
def nZ(h:Heap)(H:Hp):Heap:=PySem.W.hideAll h (Uy h H)
theorem vZ(h:Heap)(H:Hp):(nZ h H).objs.size=h.objs.size:=PySem.W.hideAll_size _ _
theorem yE(e:h.get? b=some o)(n:H b=none):(nZ h H).get? b=some o:=
 PySem.W.hideAll_get _ e λhm=>by
  have q:=(eQ.mp hm).2;rw[n]at q;simp at q
theorem Eg(e:(nZ h H).get? b=some o):h.get? b=some o/\H b=none:=by
 have e':=PySem.W.of_hideAll (Uy h H) e;refine⟨e',?_⟩;cases q:H b with
 |none=>rfl
 |some x=>
  have hm:b∈Uy h H:=eQ.mpr ⟨tJ.mpr (eJ e'),by simp[q]⟩
  have z:(nZ h H).get? b=none:=PySem.W.hideAll_none (Uy h H) hm;rw[z]at e;cases e
noncomputable def Eh(g h:Heap)(qqz:Addr): ~~~1:=(List.range h.objs.size).filterMap λa=>if a=qqz\/(g.get? a).isSome=true then none else (h.get? a).map λo=>(a,o)
def aE(g h:Heap)(qqz d:Addr): ~~~1:=(Eh g h qqz).filter λp=>decide (p.1≠d)
structure Mod(K:Frag)(mg:Str->Option Value)(base:Heap):Prop where
 Uz:K.In base
 glob:base.Ns mainGlobals mg
 blt:∃mb,base.Ns builtinsNs mb/\∀x:Str,x≠ "__name__" ->mb x=bootBuiltins x
 nolimit:base.NoLimit
structure Cx where
 prog:Program
 w:World
 K:Frag
 mg:Str->Option Value
 base:Heap
 A:Around
 N:List Str
 s₀:Shared
 H₀:Hp
 env:Env
 outer:List Env
 stack:List Env
 ex:List Addr
 fn:Str->Bool
 calm:Bool
 pn:List (Addr×Obj)
 xe:Value->Shared->Prop
noncomputable def frs(l:List Env):List Addr:=l.filterMap (·.frame)
abbrev Cx.fs(X:Cx):List Addr:=frs X.outer
def ym(sc:Scope)(x:Str):Prop:=sc.names.lookup x=some .local\/sc.names.lookup x=some .cell\/sc.names.lookup x=some .free
def Loc(sc:Scope)(x:Str):Prop:=sc.names.lookup x=some .local\/sc.names.lookup x=some .cell
def Look(env:Env)(h:Heap)(m:Str->Option Value)(x:Str)(u:Value):Prop:=
 (env.kindOf x=some .local/\m x=some u)\/((env.kindOf x=some .cell\/env.kindOf x=some .free)/\∃c,env.cells.lookup x=some c/\h.IsCell c (some u))
structure Cx.Ok(X:Cx):Prop where
 mod:Mod X.K X.mg X.base
 kind:X.env.scope.kind=.function
 glob:X.env.globals=mainGlobals
 blt:X.env.builtins=builtinsNs
 above:X.s₀⁻¹<=X.env.locals
 inj:∀x y c,X.env.cells.lookup x=some c->X.env.cells.lookup y=some c->x=y
 has:∀x,(X.env.kindOf x=some .cell\/X.env.kindOf x=some .free)->∃c,X.env.cells.lookup x=some c
 PX:∀x c,X.fn x=true->X.env.cells.lookup x=some c->X.s₀⁻¹<=c
 hd:X.calm=true->X.A.handled=none
 frames:X.A.frames=some X.stack
 stk:X.stack=X.outer\/(X.stack=X.env::X.outer/\X.env.frame=some X.env.locals)
 Qx:∀b∈X.ex,b≠X.env.locals/\∀x c,X.env.cells.lookup x=some c->c≠b
 bs:∀b o,X.base.get? b=some o->X.s₀.heap.get? b=some o/\X.H₀ b=none
 Ei:X.base.objs.size<=X.s₀⁻¹
 sC:∀b o,X.base.get? b=some o->b∉X.ex
 v5:∀b∈X.ex,b∉X.fs
 jH:X.s₀.heap.FunFrames X.base X.outer
 J7:∀b∈X.fs,X.H₀ b=none
structure Inv(X:Cx)(ah: ~~~1)(Y:List (Option V))(H:Hp)(s:Shared):Prop where
 ok:X.Ok
 os:s.os=X.s₀.os
 bare:AllBare s.gens
 base:Un X.fs X.ex X.H₀ H X.s₀.heap s.heap
 loc:∃m,s.heap.Ns X.env.locals m/\∀(i:Nat) (x:Str) (v:V),X.N[i]?=some x->Y[i]?=some (some v)->ym X.env.scope x->∃u,RelV v u/\Look X.env s.heap m x u
 cell:∀x c,X.env.cells.lookup x=some c->∃v,s.heap.IsCell c v
 free:H X.env.locals=none
 gg:∀x c,X.env.cells.lookup x=some c->H c=none
 pin:∀p∈X.pn++ah,s.heap.get? p.1=some p.2/\H p.1=none/\p.1≠X.env.locals/\p.1∉X.fs/\∀v,p.2.data≠.cell v
 hok:kC X.prog X.w H s.heap
 len:Y.length=X.N.length
section
variable{X:Cx}{ah: ~~~1}{Y:List (Option V)}{H H':Hp}{s:Shared}{h':Heap}
theorem Cx.Ok.VH(ok:X.Ok)(e:X.base.get? b=some o):b∉X.fs:=λhb=>by
 have:=(ok.jH.mem hb).1;rw[e]at this;cases this
theorem Inv.bs(I: ~~~7):∀b o,X.base.get? b=some o->s.heap.get? b=some o/\H b=none:=λb o e=>
 ⟨I.base.keep b o (I.ok.bs b o e).1 (I.ok.bs b o e).2 (I.ok.VH e) (I.ok.sC b o e),I.base.free b o (I.ok.bs b o e).1 (I.ok.bs b o e).2 (I.ok.sC b o e)⟩
theorem Inv.bk(I: ~~~7):∀b o,X.base.get? b=some o->s.heap.get? b=some o:=λb o e=>(I.bs b o e).1
theorem Inv.mod(I: ~~~7):Mod X.K X.mg X.base:=I.ok.mod
theorem Inv.qe(I: ~~~7):X.K.In s.heap:=I.ok.mod.Uz.keeps I.bk
theorem Inv.lt(I: ~~~7):X.env.locals<s⁻¹:=let ⟨_,hn,_⟩:=I.loc;hn.lt
theorem Inv.sz(I: ~~~7):X.s₀⁻¹<=s⁻¹:=hU I.ok.above (Nat.le_of_lt I.lt)
theorem Inv.VJ(I: ~~~7)(h:s⁻¹<=a):a∉X.fs:=λhb=>by
 obtain⟨_,o,ho,_⟩:=I.ok.jH.mem hb;exact absurd (eP (eJ ho) (hU I.sz h)) (oT _)
theorem Inv.J8(I: ~~~7):∀x c,X.env.cells.lookup x=some c->c≠X.env.locals:=λx c e z=>by
 obtain⟨v,o,ho,hd⟩:=I.cell x c e;obtain⟨m,⟨o',es,ep,ho',hd',_⟩,_⟩:=I.loc;rw[z,ho']at ho;cases ho;rw[hd']at hd;cases hd
theorem Inv.jH(I: ~~~7):s.heap.FunFrames X.base X.outer:=by
 have all:∀(l:List Env),(∀b∈frs l,b∈X.fs)->X.s₀.heap.FunFrames X.base l->s.heap.FunFrames X.base l:=by
  intro l
  induction l with
  |nil=>intro _ _;trivial
  |cons env r ih=>
   intro hs hl;obtain⟨hk,⟨qqz,o,hf,hn,ho,hd⟩,hr⟩:=hl;have hL:=hs qqz (by unfold frs;rw[BA,hf];exact bP)
   obtain⟨sl,e⟩:=I.base.slot qqz o ho (I.ok.J7 qqz hL) hL λz=>I.ok.v5 qqz z hL
   exact⟨hk,⟨qqz,_,hf,hn,e,hd⟩,ih (λb hb=>hs b (by unfold frs;rw[BA,hf];exact a8 _ hb)) hr⟩
 exact all X.outer (λ_ hb=>hb) I.ok.jH
theorem Inv.stack(I: ~~~7):s.heap.FunFrames X.base X.stack:=by
 rcases I.ok.stk with e |⟨e,hf⟩
 . rw[e];exact I.jH
 .
  rw[e];obtain⟨m,hn,_⟩:=I.loc;refine .cons (by rw[I.ok.kind];decide) hf hn ?_ I.jH
  exact Heap.get?_none_of_le (hU I.ok.Ei I.ok.above)
theorem Inv.sD(I: ~~~7):∀b∈frs X.stack,b∈X.env.locals::X.fs:=λb hb=>by
 rcases I.ok.stk with e |⟨e,hf⟩
 . rw[e]at hb;exact a8 _ hb
 . rw[e]at hb;unfold frs at hb;rw[BA,hf]at hb;exact hb
theorem Inv.uF(I: ~~~7):∀b∈frs X.stack,H b=none:=λb hb=>by
 rcases c6.mp (I.sD b hb)with e |hb
 . rw[e];exact I.free
 . obtain⟨_,o,ho,_⟩:=I.ok.jH.mem hb;exact I.base.free b o ho (I.ok.J7 b hb) λz=>I.ok.v5 b z hb
theorem Inv.step{g':Array GenState}{t':Nat}{d':Drawn}{ch:List Addr}(I: ~~~7)
  (hch:∀b∈ch,(b∈X.ex\/X.s₀⁻¹<=b)/\b≠X.env.locals/\(∀x c,X.env.cells.lookup x=some c->c≠b)/\∀p∈X.pn++ah,p.1≠b)
  (keep:∀b o,b≠X.env.locals->b∉X.fs->b∉ch->s.heap.get? b=some o->H b=none->h'.get? b=some o)
  (slot:∀b o,b≠X.env.locals->b∈X.fs->b∉ch->s.heap.get? b=some o->H b=none->∃sl,h'.get? b=some { o with slots:=sl}) (free:∀b o,b∉ch->s.heap.get? b=some o->H b=none->H' b=none)
  (there:∀b o,b∉ch->s.heap.get? b=some o->∃o',h'.get? b=some o')
  (tups:∀b xs,H b=some (.tup xs)->H' b=some (.tup xs)) (nX:∀b o u,H b=some (.jG o u)->H' b=some (.jG o u)) (nY:∀b ps,H b=some (.yj ps)->∃more,H' b=some (.yj (ps++more)))
  (ns:∀m,s.heap.Ns X.env.locals m->h'.Ns X.env.locals m) (hok:kC X.prog X.w H' h') (hg:AllBare g') :
  Inv X ah Y H' { s with heap:=h',gens:=g',drawn:=d',toks:=t'}:=by
 have Yc:∀b o,X.s₀.heap.get? b=some o->b≠X.env.locals:=λb o e=>i8 (eP (eJ e) I.ok.above)
 have UG:∀b o,X.s₀.heap.get? b=some o->b∉X.ex->b∉ch:=λb o e hx hb=>by
  rcases (hch b hb).1 with z |z
  . exact hx z
  . exact absurd (eP (eJ e) z) (oT _)
 have cellK:∀x c,X.env.cells.lookup x=some c->∀v,s.heap.IsCell c v->h'.IsCell c v:=by
  rintro x c e v ⟨o,ho,hd⟩;have Qy:c∉ch:=λz=>(hch c z).2.2.1 x c e rfl
  by_cases hc:c∈X.fs
  . obtain⟨sl,q⟩:=slot c o (I.J8 x c e) hc Qy ho (I.gg x c e);exact⟨_,q,hd⟩
  . exact⟨o,keep c o (I.J8 x c e) hc Qy ho (I.gg x c e),hd⟩
 refine⟨I.ok,I.os,hg,⟨λb o e n hb hx=>?_,λb o e n hb hx=>?_,λb o e n hx=>?_,λb o e hx=>?_,λb xs e=>tups b xs (I.base.tups b xs e),λb o xs e=>nX b o xs (I.base.nX b o xs e),λb ps e=>?_⟩,?_,λx c e=>?_,?_,λx c e=>?_,λp hp=>?_,hok,I.len⟩
 . exact keep b o (Yc b o e) hb (UG b o e hx) (I.base.keep b o e n hb hx) (I.base.free b o e n hx)
 . obtain⟨sl,e1⟩:=I.base.slot b o e n hb hx;obtain⟨Yd,e2⟩:=slot b _ (Yc b o e) hb (UG b o e hx) e1 (I.base.free b o e n hx);exact⟨Yd,e2⟩
 . obtain⟨o',e1⟩:=I.base.there b o e hx;exact free b o' (UG b o e hx) e1 (I.base.free b o e n hx)
 . obtain⟨o',e1⟩:=I.base.there b o e hx;exact there b o' (UG b o e hx) e1
 . obtain⟨m1,e1⟩:=I.base.nY b ps e;obtain⟨m2,e2⟩:=nY b _ e1;exact⟨m1++m2,by rw[e2,Array.append_assoc]⟩
 .
  obtain⟨m,hn,hl⟩:=I.loc;refine⟨m,ns m hn,λi x v e1 e2 e3=>?_⟩
  obtain⟨u,r,l⟩:=hl i x v e1 e2 e3;refine⟨u,r,?_⟩;rcases l with l |⟨k,c,e,z⟩
  . exact .inl l
  . exact .inr ⟨k,c,e,cellK x c e _ z⟩
 . obtain⟨v,z⟩:=I.cell x c e;exact⟨v,cellK x c e v z⟩
 . obtain⟨m,⟨o,_,_,ho,_⟩,_⟩:=I.loc;exact free _ o (λz=>(hch _ z).2.1 rfl) ho I.free
 . obtain⟨v,o,ho,hd⟩:=I.cell x c e;exact free c o (λz=>(hch c z).2.2.1 x c e rfl) ho (I.gg x c e)
 .
  obtain⟨e,n,ne,nf,d⟩:=I.pin p hp;have Qy:p.1∉ch:=λz=>(hch p.1 z).2.2.2 p hp rfl
  exact⟨keep p.1 p.2 ne nf Qy e n,free p.1 p.2 Qy e n,ne,nf,d⟩
theorem Inv.un{t':Nat}(I: ~~~7)(u:Un X.fs [] H H' s.heap h')(hok:kC X.prog X.w H' h'):Inv X ah Y H' { s with heap:=h',toks:=t'}:=by
 obtain⟨m,⟨o,es,ep,ho,r⟩,_⟩:=id I.loc;obtain⟨sl,hL⟩:=u.any ho I.free ⋯;exact I.step (ch:=[]) (λ_ z=>nomatch z) (λb o _ hb _ e n=>u.keep b o e n hb ⋯) (λb o _ hb _ e n=>u.slot b o e n hb ⋯) (λb o _ e n=>u.free b o e n ⋯) (λb o _ e=>u.there b o e ⋯) u.tups u.nX u.nY (λm' hm=>by
  obtain⟨o',es',Ej,ho',r'⟩:=hm;rw[ho]at ho';cases ho';exact⟨_,es',Ej,hL,r'⟩) hok I.bare
theorem Inv.call{g':Array GenState}{t':Nat}{d':Drawn}{ch:List Addr}(I: ~~~7)(u:Un (frs X.stack) ch H H' s.heap h')(hok:kC X.prog X.w H' h')(hg:AllBare g')
  (hch:∀b∈ch,(b∈X.ex\/X.s₀⁻¹<=b)/\b≠X.env.locals/\(∀x c,X.env.cells.lookup x=some c->c≠b)/\∀p∈X.pn++ah,p.1≠b) :
  Inv X ah Y H' { s with heap:=h',gens:=g',drawn:=d',toks:=t'}:=by
 obtain⟨m,⟨o,es,ep,ho,r⟩,_⟩:=id I.loc;obtain⟨sl,hL⟩:=u.any ho I.free λz=>(hch _ z).2.1 rfl
 exact I.step hch (λb o hL hb hc e n=>u.keep b o e n (λz=>(c6.mp (I.sD b z)).elim hL hb) hc) (λb o _ _ hc e n=>u.any e n hc) (λb o hc e n=>u.free b o e n hc) (λb o hc e=>u.there b o e hc) u.tups u.nX u.nY (λm' hm=>by
  obtain⟨o',es',Ej,ho',r'⟩:=hm;rw[ho]at ho';cases ho';exact⟨_,es',Ej,hL,r'⟩) hok hg
theorem Inv.turned{t':Nat}{it:Addr}(I: ~~~7)(k:∀b o,b≠it->s.heap.get? b=some o->h'.get? b=some o)(hn:H it=none)(hL:it≠X.env.locals)
  (h1:it∈X.ex\/X.s₀⁻¹<=it) (h2:∀x c,X.env.cells.lookup x=some c->c≠it) (h3:∀p∈X.pn++ah,p.1≠it):Inv X ah Y H { s with heap:=h',toks:=t'}:=by
 have Ye:∀b u,H b=some u->b≠it:=λb u e z=>by rw[z,hn]at e;cases e
 refine I.step (ch:=[it]) (λb hb=>?_) (λb o _ _ hc e _=>k b o (λz=>hc (by simp[z])) e) (λb o _ _ hc e _=>⟨o.slots,k b o (λz=>hc (by simp[z])) e⟩) (λ_ _ _ _ n=>n)
  (λb o hc e=>⟨o,k b o (λz=>hc (by simp[z])) e⟩) (λ_ _ e=>e) (λ_ _ _ e=>e) (λb ps e=>⟨#[],by rw[e];simp⟩) (λm hm=>?_) (λb u e=>?_) I.bare
 .
  have e:b=it:=by simpa using hb
  subst e;exact⟨h1,hL,h2,h3⟩
 . obtain⟨o,es,ep,ho,r⟩:=hm;exact⟨o,es,ep,k _ o (oS hL) ho,r⟩
 .
  refine (I.hok b u e).stay (λc v hc q=>k c v ?_ q) (λ_ q=>q) λ_ _ q=>q
  rcases hc with z |z
  . rw[z];exact Ye b u e
  . exact Ye c _ z
theorem Inv.tok(I: ~~~7)(t:Nat):Inv X ah Y H { s with toks:=t}:=I.un Un.refl I.hok
theorem Inv.kept{t':Nat}(I: ~~~7)(k:∀b u,s.heap.get? b=some u->h'.get? b=some u):Inv X ah Y H { s with heap:=h',toks:=t'}:=I.un (Un.kept k) (I.hok.kept k)
theorem Inv.laid{a:Addr}{o:HO}{t':Nat}(I: ~~~7)(k:∀b u,s.heap.get? b=some u->h'.get? b=some u)(hp:s⁻¹<=a)(new:cD X.prog X.w (upd H a o) h' a o) :
  Inv X ah Y (upd H a o) { s with heap:=h',toks:=t'}:=I.un (Un.laid k hp (I.hok.fresh hp)) (I.hok.laid k hp new)
theorem Inv.write(I: ~~~7)(mu:Ux (H x))(he:e=x\/H e=some (.own x))(k:∀b u,b≠e->s.heap.get? b=some u->h'.get? b=some u)(PN:∃u,h'.get? e=some u)
  (new:cD X.prog X.w (upd H x o) h' x o):Inv X ah Y (upd H x o) { s with heap:=h',toks:=t'}:=I.un (Un.write mu he k PN) (I.hok.write mu he k PN new)
theorem Inv.uG(I: ~~~7)(h:∀p∈Qz,s.heap.get? p.1=some p.2/\H p.1=none/\p.1≠X.env.locals/\p.1∉X.fs/\∀v,p.2.data≠.cell v):Inv X Qz Y H s:=
 ⟨I.ok,I.os,I.bare,I.base,I.loc,I.cell,I.free,I.gg,λp hp=>(gL.mp hp).elim (λz=>I.pin p (fA _ z)) (h p),I.hok,I.len⟩
theorem qg{N:List Str}(hN:N.Nodup){i j:Nat}{x:Str}(a:N[i]?=some x)(b:N[j]?=some x):i=j:=by obtain⟨h1,e1⟩:=dA.mp a;obtain⟨h2,e2⟩:=dA.mp b;exact (List.getElem_inj hN).mp (e1.trans e2.symm)
theorem mH{M:Model}{A:Around}{E:Value->Shared->Prop}{i:Nat}{x:Str}{v:V}{u:Value}{Q:Unit->Shared->Prop}(I: ~~~7)(hN:X.N.Nodup)(hi:X.N[i]?=some x)(hx:Loc X.env.scope x)(r:RelV v u)
  (h:∀s',Inv X ah (Y.set i (some v)) H s'->(∃a,Heap.SameBut a s.heap s'.heap/\(a=X.env.locals\/X.env.cells.lookup x=some a))->Q () s') (hf:X.fn x=true\/X.env.scope.names.lookup x=some .local:=by first |exact .inl rfl |exact .inr rfl |assumption):wpAny M A (storeName X.env x u) Q E s:=by
 obtain⟨m,hn,hl⟩:=id I.loc;have hcls:(X.env.scope.kind==.class||(X.env.scope.kind==.module&&X.env.locals != X.env.globals))=false:=by rw[I.ok.kind];rfl
 have QB:i<Y.length:=by rw[I.len];exact (dA.mp hi).1
 have J8:=I.J8;have tracked:∀{a:Addr}{h':Heap},(∃o,s.heap.get? a=some o/\H a=none)->Heap.SameBut a s.heap h'->kC X.prog X.w H h':=λ{a h'} ha hs b ob e=>by
  obtain⟨_,_,hfree⟩:=ha;refine (I.hok b ob e).stay (λc w' hc q=>(hs.2 c ?_).trans q) (λ_ q=>q) λ_ _ q=>q
  rintro rfl;rcases hc with rfl |hc
  . rw[hfree]at e;cases e
  . rw[hfree]at hc;cases hc
 rcases hx with hk |hk
 .
  refine wpAny_storeName_local hk hn (λh' hn' hs=>?_) hcls
  obtain⟨oL,_,_,UJ,_⟩:=id hn;refine h _ ⟨I.ok,I.os,I.bare,⟨λb o e n hb hx=>?_,λb o e n hb hx=>?_,I.base.free,λb o e hx=>?_,I.base.tups,I.base.nX,I.base.nY⟩,⟨_,hn',λj y v' e1 e2 e3=>?_⟩,λy c e=>?_,I.free,I.gg,λp hp=>?_,tracked ⟨oL,UJ,I.free⟩ hs,by simpa using I.len⟩ ⟨_,hs,.inl rfl⟩
  . exact (hs.2 b (i8 (eP (eJ e) I.ok.above))).trans (I.base.keep b o e n hb hx)
  . obtain⟨sl,e1⟩:=I.base.slot b o e n hb hx;exact⟨sl,(hs.2 b (i8 (eP (eJ e) I.ok.above))).trans e1⟩
  . obtain⟨o',e1⟩:=I.base.there b o e hx;exact⟨o',(hs.2 b (i8 (eP (eJ e) I.ok.above))).trans e1⟩
  .
   by_cases hj:j=i
   . subst hj;rw[hi]at e1;cases e1;rw[fR QB]at e2;cases e2;exact⟨u,r,.inl ⟨hk,by simp⟩⟩
   .
    rw[dL (oS hj)]at e2;obtain⟨u',r',q⟩:=hl j y v' e1 e2 e3;refine⟨u',r',?_⟩;rcases q with ⟨k,e⟩ |⟨k,c,e,z⟩
    .
     refine .inl ⟨k,?_⟩;have:y≠x:=λe=>hj (qg hN e1 (e▸hi))
     simp[this,e]
    . exact .inr ⟨k,c,e,z.sameBut hs (J8 y c e)⟩
  . obtain⟨w',z⟩:=I.cell y c e;exact⟨w',z.sameBut hs (J8 y c e)⟩
  . obtain⟨e,n,ne,nf,d⟩:=I.pin p hp;exact⟨(hs.2 p.1 ne).trans e,n,ne,nf,d⟩
 .
  have hfn:X.fn x=true:=by
   rcases hf with z |z
   . exact z
   . rw[z]at hk;cases hk
  obtain⟨c,hc⟩:=I.ok.has x (.inl hk);obtain⟨w',z⟩:=I.cell x c hc;refine wpAny_storeName_cell I.ok.kind hk hc z (λh' hc' hs=>?_)
  obtain⟨oc,hoc,VL⟩:=id z;refine h { s with heap:=h'} ⟨I.ok,I.os,I.bare,⟨λb o e n hb hx=>?_,λb o e n hb hx=>?_,I.base.free,λb o e hx=>?_,I.base.tups,I.base.nX,I.base.nY⟩,⟨m,hn.sameBut hs (oS (J8 x c hc)),λj y v' e1 e2 e3=>?_⟩,λy c' e=>?_,I.free,I.gg,λp hp=>?_,tracked ⟨oc,hoc,I.gg x c hc⟩ hs,by simpa using I.len⟩ ⟨c,hs,.inr hc⟩
  . exact (hs.2 b (i8 (eP (eJ e) (I.ok.PX x c hfn hc)))).trans (I.base.keep b o e n hb hx)
  . obtain⟨sl,e1⟩:=I.base.slot b o e n hb hx;exact⟨sl,(hs.2 b (i8 (eP (eJ e) (I.ok.PX x c hfn hc)))).trans e1⟩
  . obtain⟨o',e1⟩:=I.base.there b o e hx;exact⟨o',(hs.2 b (i8 (eP (eJ e) (I.ok.PX x c hfn hc)))).trans e1⟩
  .
   by_cases hj:j=i
   . subst hj;rw[hi]at e1;cases e1;rw[fR QB]at e2;cases e2;exact⟨u,r,.inr ⟨.inl hk,c,hc,hc'⟩⟩
   .
    rw[dL (oS hj)]at e2;obtain⟨u',r',q⟩:=hl j y v' e1 e2 e3;refine⟨u',r',?_⟩;rcases q with q |⟨k,c',e,z'⟩
    . exact .inl q
    . refine .inr ⟨k,c',e,z'.sameBut hs ?_⟩;rintro rfl;exact hj (qg hN e1 (I.ok.inj _ _ _ e hc▸hi))
  .
   by_cases hcc:c'=c
   . subst hcc;exact⟨_,hc'⟩
   . obtain⟨w2,z2⟩:=I.cell y c' e;exact⟨w2,z2.sameBut hs hcc⟩
  . obtain⟨e,n,ne,nf,d⟩:=I.pin p hp;refine⟨(hs.2 p.1 ?_).trans e,n,ne,nf,d⟩;intro q;rw[q,hoc]at e;have q':=i6 e;exact d w' (by rw[<- q'];exact VL)
theorem gY{M:Model}{A:Around}{E:Value->Shared->Prop}{i:Nat}{x:Str}{v:V}{u:Value}{Q:Unit->Shared->Prop}(I: ~~~7)(hN:X.N.Nodup)(hi:X.N[i]?=some x)(hx:Loc X.env.scope x)(r:RelV v u)
  (h:∀s',Inv X ah (Y.set i (some v)) H s'->Q () s') (hf:X.fn x=true\/X.env.scope.names.lookup x=some .local:=by first |exact .inl rfl |exact .inr rfl |assumption):wpAny M A (storeName X.env x u) Q E s:=
 mH I hN hi hx r (λs' I' _=>h s' I') hf
theorem Inv.call'(I: ~~~7)(ho:s'.os=s.os)(u:Un (frs X.stack) ch H H' s.heap s'.heap)(hok:kC X.prog X.w H' s'.heap)(hg:AllBare s'.gens)
  (hch:∀b∈ch,(b∈X.ex\/X.s₀⁻¹<=b)/\b≠X.env.locals/\(∀x c,X.env.cells.lookup x=some c->c≠b)/\∀p∈X.pn++ah,p.1≠b):Inv X ah Y H' s':=by
 obtain⟨h',g',d',t',o'⟩:=s';have e:=ho;subst e;exact I.call u hok hg hch
end
abbrev XK:=Value->Option Addr->Hp->Prop
abbrev St:=List (Option V)
abbrev VK:=V->Hp->Prop
abbrev TE:=St->Hp->VK->Prop
abbrev TT:=St->Hp->(Bool->Hp->Prop)->Prop
abbrev TA:=St->Hp->(List V->Hp->Prop)->Prop
structure Ends where
 nx:St->Hp->Prop
 rt:VK
 bk:St->Hp->Prop:=λ_ _=>False
 ct:St->Hp->Prop:=λ_ _=>False
abbrev TS:=Ends->St->Hp->Prop
def EP(X:Cx)(ah: ~~~1)(Y:St)(Q:VK)(u:Value)(s':Shared):Prop:=∃v H',Inv X ah Y H' s'/\RelV v u/\Q v H'
def TP(X:Cx)(ah: ~~~1)(Y:St)(Q:Bool->Hp->Prop)(b:Bool)(s':Shared):Prop:=∃H',Inv X ah Y H' s'/\Q b H'
def AP(X:Cx)(ah: ~~~1)(Y:St)(Q:List V->Hp->Prop)(us:List Value)(s':Shared):Prop:=∃vs H',Inv X ah Y H' s'/\Vals vs us/\Q vs H'
def SP(X:Cx)(ah: ~~~1)(D:Ends)(f:Flow)(s':Shared):Prop:=
 match f with
 |.next=>∃σ' H',Inv X ah σ' H' s'/\D.nx σ' H'
 |.brk=>∃σ' H',Inv X ah σ' H' s'/\D.bk σ' H'
 |.cont=>∃σ' H',Inv X ah σ' H' s'/\D.ct σ' H'
 |.ret u=>∃v σ' H',Inv X ah σ' H' s'/\RelV v u/\D.rt v H'
def PE(X:Cx)(e:Expr)(t:TE):Prop:=
 ∀(ah: ~~~1) (s:Shared) (Y:St) (H:Hp) (Q:VK),Inv X ah Y H s->t Y H Q->wpAny (~~~2) X.A (eval e X.env) (EP X ah Y Q) X.xe s
def PT(X:Cx)(e:Expr)(t:TT):Prop:=
 ∀(ah: ~~~1) (s:Shared) (Y:St) (H:Hp) (Q:Bool->Hp->Prop),Inv X ah Y H s->t Y H Q->wpAny (~~~2) X.A (isTrue e X.env (eval e X.env)) (TP X ah Y Q) X.xe s
def PW(X:Cx)(e:Expr)(t:TT):Prop:=
 ∀(whole:Sem Value) (ah: ~~~1) (s:Shared) (Y:St) (H:Hp) (Q:Bool->Hp->Prop),Inv X ah Y H s->t Y H Q->wpAny (~~~2) X.A (isTrue e X.env whole) (TP X ah Y Q) X.xe s
theorem PW.pt{X:Cx}{e:Expr}{t:TT}(h:PW X e t):PT X e t:=h _
def PA(X:Cx)(es:List Expr)(t:TA):Prop:=
 ∀(pos:Pos) (ah: ~~~1) (s:Shared) (Y:St) (H:Hp) (Q:List V->Hp->Prop),Inv X ah Y H s->t Y H Q->wpAny (~~~2) X.A (spliced (backTo pos (starEach es X.env))) (AP X ah Y Q) X.xe s
def PS(X:Cx)(st:Stmt)(t:TS):Prop:=
 ∀(ah: ~~~1) (s:Shared) (Y:St) (H:Hp) (D:Ends),Inv X ah Y H s->t D Y H->wpAny (~~~2) X.A (exec st X.env) (SP X ah D) X.xe s
def n6(X:Cx)(st:List Stmt)(t:TS):Prop:=
 ∀(ah: ~~~1) (s:Shared) (Y:St) (H:Hp) (D:Ends),Inv X ah Y H s->t D Y H->wpAny (~~~2) X.A (execs st X.env) (SP X ah D) X.xe s
theorem bG{α:Type}{t:Sem α}{Q Q':α->Shared->Prop}{M:Model}{A:Around}{E:Value->Shared->Prop}{s:Shared}(h:wpAny M A t Q E s)(hQ:∀a s,Q a s->Q' a s):wpAny M A t Q' E s:=oQ h hQ λ_ _ x=>x
section
variable{X:Cx}
def QC(i:Nat):TE:=λY H Q=>∃v,Y[i]?=some (some v)/\Q v H
def tC(v:V):TE:=λ_ H Q=>Q v H
theorem e9(hN:X.N[i]?=some x)(hv:ym X.env.scope x)(hd:(x==(~~~3))=false:=by decide)(bY:(x==("__classdict__":Str))=false:=by decide):PE X (.Name x pos) (QC i):=by
 intro ah s Y H Q I h;obtain⟨v,e,h⟩:=h;obtain⟨m,hn,hl⟩:=I.loc;obtain⟨u,r,l⟩:=hl i x v hN e hv;have fin:EP X ah Y Q u s:=⟨v,H,I,r,h⟩;rcases l with ⟨hk,hm⟩ |⟨hk,c,hc,hcell⟩
 . exact wpAny_Name (wpAny_loadName_local I.ok.kind hk hn hm fin) hd
 .
  rcases hk with hk |hk
  . exact wpAny_Name (wpAny_loadName_cell I.ok.kind hk hc hcell fin) hd
  . exact wpAny_Name (wpAny_loadName_free I.ok.kind hk hc hcell fin bY) hd
theorem gw{i j pos}:PE X (.Constant (.int i) j pos) (tC (.int i)):=λ_ _ _ H _ I h=>wpAny_Constant_int ⟨.int i,H,I.tok _,⟨_,rfl⟩,h⟩
theorem Jo{b j pos}:PE X (.Constant (.bool b) j pos) (tC (.bl b)):=λ_ _ _ H _ I h=>Constant_bool ⟨.bl b,H,I,rfl,h⟩
theorem J9{j pos}:PE X (.Constant .none j pos) (tC .non):=λ_ _ _ H _ I h=>Constant_none ⟨.non,H,I,rfl,h⟩
theorem yF{x j pos}:PE X (.Constant (.str x) j pos) (tC (.str x)):=λ_ _ _ H _ I h=>Calls.Constant_str ⟨.str x,H,I.tok _,⟨_,rfl⟩,h⟩
def Gl(X:Cx)(x:Str):Prop:=X.env.kindOf x=some .globalImplicit
theorem uH{E:Value->Shared->Prop}{ah: ~~~1}{s:Shared}{Y:St}{H:Hp}{x:Str}{u:Value}{pos:Pos}{Q:Value->Shared->Prop}(I: ~~~7)(hg:Gl X x)(hm:X.mg x=some u)(h:Q u s)
  (hd:(x==(~~~3))=false:=by decide):wpAny (~~~2) X.A (eval (.Name x pos) X.env) Q E s:=
 Calls.Name_function_global I.ok.kind hg (Calls.loadGlobal_global (by rw[I.ok.glob];exact I.mod.glob.keeps I.bk) hm h) hd
theorem fc{E:Value->Shared->Prop}{ah: ~~~1}{s:Shared}{Y:St}{H:Hp}{x:Str}{u:Value}{pos:Pos}{Q:Value->Shared->Prop}(I: ~~~7)(hg:Gl X x)(hm:X.mg x=none)(hv:bootBuiltins x=some u)(h:Q u s)
  (hn:x≠ "__name__" :=by decide) (hd:(x==(~~~3))=false:=by decide):wpAny (~~~2) X.A (eval (.Name x pos) X.env) Q E s:=by
 obtain⟨mb,h1,h2⟩:=I.mod.blt;exact Calls.Name_function_global I.ok.kind hg (Calls.loadGlobal_builtin (by rw[I.ok.glob];exact I.mod.glob.keeps I.bk) hm (by rw[I.ok.blt];exact h1.keeps I.bk) ((h2 x hn).trans hv) h) hd
theorem Ek(hg:Gl X x)(hm:X.mg x=some u)(r:RelV v u)(hd:(x==(~~~3))=false:=by decide):PE X (.Name x pos) (tC v):=
 λ_ _ _ H _ I h=>uH I hg hm ⟨v,H,I,r,h⟩ hd
theorem uI(hg:Gl X x)(hm:X.mg x=none)(hv:bootBuiltins x=some u)(r:RelV v u)(hn:x≠ "__name__" :=by decide)(hd:(x==(~~~3))=false:=by decide):PE X (.Name x pos) (tC v):=
 λ_ _ _ H _ I h=>fc I hg hm hv ⟨v,H,I,r,h⟩ hn hd
variable{a b:Expr}{ta tb:TE}{pos:Pos}
variable{tA UL:TT}{aE:List Expr}
noncomputable def VM(t u:TT):TT:=λY H Q=>t Y H λc H1=>if c=true then u Y H1 Q else Q false H1
noncomputable def Zt(t u:TT):TT:=λY H Q=>t Y H λc H1=>if c=true then Q true H1 else u Y H1 Q
def VN(t:TT):TT:=λY H Q=>t Y H λc H1=>Q (!c) H1
theorem pw_and1(ha:PT X a tA):PW X (.BoolOp .And [a] pos) tA:=by
 intro wh ah s Y H Q I h;refine isTrue_and (bG (ha ah s Y H Q I h) λc s1 e=>?_)
 cases c with
 |true=>exact isTrue_and_nil e
 |false=>exact e
theorem pw_or1(ha:PT X a tA):PW X (.BoolOp .Or [a] pos) tA:=by
 intro wh ah s Y H Q I h;refine isTrue_or (bG (ha ah s Y H Q I h) λc s1 e=>?_)
 cases c with
 |false=>exact isTrue_or_nil e
 |true=>exact e
theorem pw_and(ha:PT X a tA)(hb:PW X (.BoolOp .And (b::aE) pos) UL):PW X (.BoolOp .And (a::b::aE) pos) (VM tA UL):=by
 intro wh ah s Y H Q I h;refine isTrue_and (bG (ha ah s Y H _ I h) ?_);rintro c s1 ⟨H1,I1,q1⟩;cases c with
 |true=>exact hb wh ah s1 Y H1 Q I1 q1
 |false=>exact⟨H1,I1,q1⟩
theorem pw_or(ha:PT X a tA)(hb:PW X (.BoolOp .Or (b::aE) pos) UL):PW X (.BoolOp .Or (a::b::aE) pos) (Zt tA UL):=by
 intro wh ah s Y H Q I h;refine isTrue_or (bG (ha ah s Y H _ I h) ?_);rintro c s1 ⟨H1,I1,q1⟩;cases c with
 |true=>exact⟨H1,I1,q1⟩
 |false=>exact hb wh ah s1 Y H1 Q I1 q1
theorem Ka(ha:PT X a tA):PT X (.UnaryOp .Not a pos) (VN tA):=by intro ah s Y H Q I h;exact isTrue_not (ha ah s Y H (λc H1=>Q (!c) H1) I h)
noncomputable def QD(ta tb:TE):TE:=λY H Q=>ta Y H λx H1=>∃c,x=.bl c/\if c=true then tb Y H1 Q else Q (.bl false) H1
noncomputable def VP(ta tb:TE):TE:=λY H Q=>ta Y H λx H1=>∃c,x=.bl c/\if c=true then Q (.bl true) H1 else tb Y H1 Q
def QF(ta:TE):TE:=λY H Q=>ta Y H λx H1=>∃c,x=.bl c/\Q (.bl (!c)) H1
theorem yG{op}(h:PE X a t):PE X (.BoolOp op [a] pos) t:=λah s Y H Q I hw=>BoolOp_one (h ah s Y H Q I hw)
theorem sE(ha:PE X a ta)(hb:PE X (.BoolOp .And (b::aE) pos) tb):PE X (.BoolOp .And (a::b::aE) pos) (QD ta tb):=by
 intro ah s Y H Q I h;refine BoolOp_and (bG (ha ah s Y H _ I h) ?_);rintro v s1 ⟨x,H1,I1,r1,q1⟩;obtain⟨c,rfl,q1⟩:=q1;cases r1;refine mI ?_;cases c with
 |true=>exact hb ah s1 Y H1 Q I1 q1
 |false=>exact⟨.bl false,H1,I1,rfl,q1⟩
theorem Jp(ha:PE X a ta)(hb:PE X (.BoolOp .Or (b::aE) pos) tb):PE X (.BoolOp .Or (a::b::aE) pos) (VP ta tb):=by
 intro ah s Y H Q I h;refine BoolOp_or (bG (ha ah s Y H _ I h) ?_);rintro v s1 ⟨x,H1,I1,r1,q1⟩;obtain⟨c,rfl,q1⟩:=q1;cases r1;refine mI ?_;cases c with
 |false=>exact hb ah s1 Y H1 Q I1 q1
 |true=>exact⟨.bl true,H1,I1,rfl,q1⟩
theorem Kc(ha:PE X a ta):PE X (.UnaryOp .Not a pos) (QF ta):=by intro ah s Y H Q I h;refine UnaryOp_ (bG (ha ah s Y H _ I h) ?_);rintro v s1 ⟨x,H1,I1,r1,q1⟩;obtain⟨c,rfl,q1⟩:=q1;cases r1;exact not_of (mI ⟨.bl (!c),H1,I1,rfl,q1⟩)
noncomputable def Zu(t:TT)(ta tb:TE):TE:=λY H Q=>t Y H λc H1=>if c=true then ta Y H1 Q else tb Y H1 Q
theorem qh{c:Expr}(hc:PT X c tA)(ha:PE X a ta)(hb:PE X b tb):PE X (.IfExp c a b pos) (Zu tA ta tb):=by
 intro ah s Y H Q I h;refine wpAny_IfExp (bG (hc ah s Y H _ I h) ?_);rintro d s1 ⟨H1,I1,q1⟩;cases d with
 |true=>exact ha ah s1 Y H1 Q I1 q1
 |false=>exact hb ah s1 Y H1 Q I1 q1
end
def bH(K:Frag)(H:Hp)(a:Addr)(xs:List V):Prop:=
 Rd H a (.lst xs)\/
  ∃(o:Obj) (aq:Array Value) (n:Nat),K.lookup a=some o/\o.cls=.type "list" /\o.dict=none/\o.data=.seq aq n/\aq.size<=sizeLine/\Vals xs aq.toList
def fU(K:Frag)(H:Hp)(a:Addr)(xs:List V):Prop:=
 Rd H a (.tup xs)\/
  ∃(o:Obj) (aq:Array Value) (n:Nat),K.lookup a=some o/\o.cls=.type "tuple" /\o.data=.seq aq n/\aq.size<=sizeLine/\Vals xs aq.toList
noncomputable def VR:Value->Option V
 |.none=>some .non
 |.bool b=>some (.bl b)
 |.int i _=>some (.int i)
 |.str x _=>some (.str x)
 |.bytes b _=>some (.uE b)
 |.float b _=>some (.flt b)
 |.ref a=>some (.ref a)
 |.type n=>some (.ty n)
 |_=>none
theorem RelV.abs(r:RelV x u):VR u=some x:=by
 cases x with
 |non=>cases r;rfl
 |bl _=>cases r;rfl
 |int _=>obtain⟨t,rfl⟩:=r;rfl
 |str _=>obtain⟨t,rfl⟩:=r;rfl
 |uE _=>obtain⟨t,rfl⟩:=r;rfl
 |flt _=>obtain⟨t,rfl⟩:=r;rfl
 |ref _=>cases r;rfl
 |ty _=>cases r;rfl
theorem RelV.inj{x y:V}{u:Value}(r:RelV x u)(q:RelV y u):x=y:=i6 (r.abs.symm.trans q.abs)
theorem Vals.inj:∀{xs ys:List V}{us:List Value},Vals xs us->Vals ys us->xs=ys:=by
 intro xs ys us h
 induction h generalizing ys with
 |nil=>intro h';cases h';rfl
 |cons r t ih=>intro h';cases h' with |cons r' t'=>rw[r.inj r',ih t']
section
variable{X:Cx}{ah: ~~~1}{Y:St}{H:Hp}{s:Shared}{a:Addr}{xs ys:List V}
theorem bH.of{K:Frag}(h:H a=some (.lst xs)):bH K H a xs:=.inl (.inl h)
theorem Inv.list(I: ~~~7)(h:bH X.K H a xs):∃aq:List Value,Vals xs aq/\PlainL s.heap a aq.toArray/\xs.length<=sizeLine:=by
 rcases h with h |⟨o,aq,n,hk,hc,hd,hs,hz,r⟩
 . obtain⟨z,aq,n,r,e⟩:=h.ok I.hok;exact⟨aq,r,⟨_,n,e,rfl,rfl,rfl⟩,z⟩
 .
  refine⟨aq.toList,r,⟨o,n,I.qe a o hk,hc,hd,by simpa using hs⟩,?_⟩
  have e:=r.length;simp only[nE]at e;lia
theorem Inv.tuple(I: ~~~7)(h:fU X.K H a xs):∃aq:List Value,Vals xs aq/\IsTup s.heap a aq.toArray/\xs.length<=sizeLine:=by
 rcases h with h |⟨o,aq,n,hk,hc,hs,hz,r⟩
 . obtain⟨z,aq,r,p⟩:=h.ok I.hok;exact⟨aq,r,p.tup,z⟩
 .
  refine⟨aq.toList,r,⟨o,I.qe a o hk,hc,n,by simpa using hs⟩,?_⟩
  have e:=r.length;simp only[nE]at e;lia
theorem Inv.qi(I: ~~~7)(h:bH X.K H a xs)(h':bH X.K H a ys):xs=ys:=by
 obtain⟨aq,r,⟨o,n,e,_,_,d⟩,_⟩:=I.list h;obtain⟨its',r',⟨o',n',e',_,_,d'⟩,_⟩:=I.list h';rw[e]at e';cases e';rw[d]at d';injection d' with d1 _;have:aq=its':=by simpa using congrArg Array.toList d1
 subst this;exact r.inj r'
theorem Inv.mJ(I: ~~~7)(h:fU X.K H a xs)(h':fU X.K H a ys):xs=ys:=by
 obtain⟨aq,r,⟨o,e,_,n,d⟩,_⟩:=I.tuple h;obtain⟨its',r',⟨o',e',_,n',d'⟩,_⟩:=I.tuple h';rw[e]at e';cases e';rw[d]at d';injection d' with d1 _;have:aq=its':=by simpa using congrArg Array.toList d1
 subst this;exact r.inj r'
end
abbrev Cx.wish(X:Cx)(E:Value->Shared->Prop):Cx:={ X with xe:=E}
abbrev Cx.P0(X:Cx):Cx:=X.wish λ_ _=>False
theorem Cx.Ok.wish{X:Cx}(ok:X.Ok)(E:Value->Shared->Prop):(X.wish E).Ok:=
 ⟨ok.mod,ok.kind,ok.glob,ok.blt,ok.above,ok.inj,ok.has,ok.PX,ok.hd,ok.frames,ok.stk,ok.Qx,ok.bs,ok.Ei,ok.sC,ok.v5,ok.jH,ok.J7⟩
theorem Cx.Ok.fh{X:Cx}{E:Value->Shared->Prop}(ok:(X.wish E).Ok):X.Ok:=
 ⟨ok.mod,ok.kind,ok.glob,ok.blt,ok.above,ok.inj,ok.has,ok.PX,ok.hd,ok.frames,ok.stk,ok.Qx,ok.bs,ok.Ei,ok.sC,ok.v5,ok.jH,ok.J7⟩
section
variable{X:Cx}{ah: ~~~1}{Y:St}{H:Hp}{s:Shared}{E:Value->Shared->Prop}
theorem Inv.wish(I: ~~~7)(E:Value->Shared->Prop):Inv (X.wish E) ah Y H s:=⟨I.ok.wish E,I.os,I.bare,I.base,I.loc,I.cell,I.free,I.gg,I.pin,I.hok,I.len⟩
theorem Inv.fh(I:Inv (X.wish E) ah Y H s):Inv X ah Y H s:=⟨I.ok.fh,I.os,I.bare,I.base,I.loc,I.cell,I.free,I.gg,I.pin,I.hok,I.len⟩
theorem SP.fh(h:SP (X.wish E) ah D f s'):SP X ah D f s':=by
 cases f with
 |next=>obtain⟨σ',H',I,q⟩:=h;exact⟨σ',H',I.fh,q⟩
 |brk=>obtain⟨σ',H',I,q⟩:=h;exact⟨σ',H',I.fh,q⟩
 |cont=>obtain⟨σ',H',I,q⟩:=h;exact⟨σ',H',I.fh,q⟩
 |ret u=>obtain⟨v,σ',H',I,r,q⟩:=h;exact⟨v,σ',H',I.fh,r,q⟩
theorem n6.P0{st:List Stmt}{t:TS}(h:n6 X.P0 st t):n6 X st t:=λah s Y H D I hw=>
 oQ (h ah s Y H D (I.wish _) hw) (λ_ _ q=>q.fh) λ_ _ z=>False.elim z
end
section
variable{X:Cx}{st:Stmt}{aE:List Stmt}{t u:TS}{e:Expr}{te:TE}{pos:Pos}
def QG:TS:=λD Y H=>D.nx Y H
def QH(t u:TS):TS:=λD Y H=>t { D with nx:=u D} Y H
theorem uJ:n6 X [] QG:=λ_ _ Y H _ I h=>wpAny_execs_nil ⟨Y,H,I,h⟩
theorem bR(h1:PS X st t)(h2:n6 X aE u):n6 X (st::aE) (QH t u):=by
 intro ah s Y H D I h;refine wpAny_execs_cons (bG (h1 ah s Y H { D with nx:=u D} I h) λf s1 q=>?_)
 cases f with
 |next=>obtain⟨σ',H',I',q⟩:=q;exact h2 ah s1 σ' H' D I' q
 |ret v=>exact q
 |brk=>exact q
 |cont=>exact q
theorem bS(h1:PS X st t):n6 X [st] t:=by
 intro ah s Y H D I h;refine wpAny_execs_cons (bG (h1 ah s Y H D I h) λf s1 q=>?_)
 cases f with
 |next=>exact wpAny_execs_nil q
 |ret v=>exact q
 |brk=>exact q
 |cont=>exact q
theorem Inv.quiet{ah: ~~~1}{Y:St}{H:Hp}{s:Shared}(I: ~~~7):interactive X.env=false:=by simp[interactive,I.ok.kind]
def QJ(te:TE):TS:=λD Y H=>te Y H λ_ H1=>D.nx Y H1
theorem n8(he:PE X e te)(hs:swapsWith e none pos.line X.env=pure false:=by rfl):PS X (.Expr e pos) (QJ te):=by intro ah s Y H D I h;exact wpAny_Expr_any (bG (he ah s Y H _ I h) (by rintro v s1 ⟨x,H1,I1,r1,q1⟩;exact⟨Y,H1,I1,q1⟩)) I.quiet hs
def QK(te:TE):TS:=λD Y H=>te Y H D.rt
theorem sF(he:PE X e te):PS X (.Return (some e) pos) (QK te):=by intro ah s Y H D I h;exact wpAny_Return_some (bG (he ah s Y H _ I h) (by rintro v s1 ⟨x,H1,I1,r1,q1⟩;exact⟨x,Y,H1,I1,r1,q1⟩))
noncomputable def V0(c:TT)(t u:TS):TS:=λD Y H=>c Y H λb H1=>if b=true then t D Y H1 else u D Y H1
theorem fj{c:Expr}{a b:List Stmt}{tc:TT}(hc:PT X c tc)(ha:n6 X a t)(hb:n6 X b u):PS X (.If c a b pos) (V0 tc t u):=by
 intro ah s Y H D I h;refine wpAny_If (bG (hc ah s Y H _ I h) ?_);rintro d s1 ⟨H1,I1,q1⟩;cases d with
 |true=>exact ha ah s1 Y H1 D I1 q1
 |false=>exact hb ah s1 Y H1 D I1 q1
def Kd:TS:=λ_ _ _=>False
theorem cQ:n6 X pY Kd:=λ_ _ _ _ _ _ h=>h.elim
end
abbrev TG:=V->St->Hp->(St->Hp->Prop)->Prop
abbrev Ke:=List V->St->Hp->(St->Hp->Prop)->Prop
def PG(X:Cx)(target:Expr)(t:TG):Prop:=
 ∀(ah: ~~~1) (s:Shared) (Y:St) (H:Hp) (v:V) (u:Value) (Q:St->Hp->Prop),Inv X ah Y H s->RelV v u->t v Y H Q->
  wpAny (~~~2) X.A (assign target X.env u) (λ_ s'=>∃σ' H',Inv X ah σ' H' s'/\Q σ' H') X.xe s
def P1(X:Cx)(ts:List Expr)(t:Ke):Prop:=
 ∀(ah: ~~~1) (s:Shared) (Y:St) (H:Hp) (vs:List V) (us:List Value) (Q:St->Hp->Prop),Inv X ah Y H s->Vals vs us->t vs Y H Q->
  wpAny (~~~2) X.A (assignInOrder ((assignEach ts X.env).map (·.2)) us) (λ_ s'=>∃σ' H',Inv X ah σ' H' s'/\Q σ' H') X.xe s
abbrev Kf:=V->V->V->Hp->(Hp->Prop)->Prop
def QL(X:Cx)(t:Kf):Prop:=
 ∀(ah: ~~~1) (s:Shared) (Y:St) (H:Hp) (o i v:V) (ov iv u:Value) (Q:Hp->Prop),Inv X ah Y H s->RelV o ov->RelV i iv->RelV v u->t o i v H Q->
  wpAny (~~~2) X.A (setItem ov iv u) (λ_ s'=>∃H',Inv X ah Y H' s'/\Q H') X.xe s
section
variable{X:Cx}{pos:Pos}
def yH(i:Nat):TG:=λv Y H Q=>Q (Y.set i (some v)) H
theorem n9(hN:X.N.Nodup)(hi:X.N[i]?=some x)(hx:Loc X.env.scope x)(hf:X.fn x=true\/X.env.scope.names.lookup x=some .local:=by first |exact .inl rfl |exact .inr rfl |assumption):PG X (.Name x pos) (yH i):=by intro ah s Y H v u Q I r h;exact wpAny_assign_Name (gY I hN hi hx r (λs' I'=>⟨_,H,I',h⟩) hf)
def V1:Ke:=λvs Y H Q=>vs=[]/\Q Y H
noncomputable def QM(t:TG)(u:Ke):Ke:=λvs Y H Q=>∃v r,vs=v::r/\t v Y H λσ' H'=>u r σ' H' Q
theorem El:P1 X [] V1:=by intro ah s Y H vs us Q I r h;obtain⟨e,h⟩:=h;subst e;exact assignInOrder_nil ⟨Y,H,I,h⟩
theorem yI{e:Expr}{es:List Expr}{t:TG}{u:Ke}(h1:PG X e t)(h2:P1 X es u)
  (hs:(assignEach (e::es) X.env).map (·.2)=assign e X.env::(assignEach es X.env).map (·.2):=by rfl):P1 X (e::es) (QM t u):=by
 intro ah s Y H vs us Q I r h;obtain⟨v,vr,e1,h⟩:=h;subst e1;cases r with
 |cons r rr=>rw[hs];refine assignInOrder_cons (bG (h1 ah s Y H _ _ _ I r h) ?_);rintro _ s1 ⟨σ1,H1,I1,q1⟩;exact h2 ah s1 σ1 H1 _ _ Q I1 rr q1
def V2(K:Frag)(n:Nat)(t:Ke):TG:=λv Y H Q=>∃a xs,v=.ref a/\fU K H a xs/\xs.length=n/\t xs Y H Q
theorem Kg(hc:X.calm=true)(h:P1 X es t)
  (hn:(assignEach es X.env).length=n:=by rfl) (gX:(assignEach es X.env).findIdx? (·.1)=none:=by rfl):PG X (.Tuple es k pos) (V2 X.K n t):=by
 intro ah s Y H v u Q I r hw;obtain⟨a,xs,e1,hq,hl,hw⟩:=hw;subst e1;cases r;obtain⟨aq,rv,ht,hz⟩:=I.tuple hq;refine assign_Tuple_tuple (I.ok.hd hc) ht (by simp[hn,<- hl,rv.length]) gX λh' hx=>?_
 have I1:=I.kept (t':=s.toks) λb o e=>hx b o (i8 (eJ e)) e
 exact h ah _ Y H xs _ Q I1 (by simpa using rv) hw
noncomputable def V3(to ti:TE)(t:Kf):TG:=λv Y H Q=>to Y H λo H1=>ti Y H1 λi H2=>t o i v H2 λH3=>Q Y H3
theorem Kh{o i:Expr}{to ti:TE}{t:Kf}(ho:PE X o to)(hi:PE X i ti)(hs:QL X t)
  (ha:∀v,assign (.Subscript o i pos) X.env v=(do
   let ov <- holding [v] (eval o X.env)
   let iv <- holding [v,ov] (eval i X.env)
   standAt pos
   holding [v,ov,iv] (setItem ov iv v)
   release [v,ov,iv] []):=by intro _;rfl):PG X (.Subscript o i pos) (V3 to ti t):=by
 intro ah s Y H v u Q I r h;refine aS (i9 (bG (ho ah s Y H _ I h) ?_));rintro ov s1 ⟨x,H1,I1,r1,q1⟩;refine aS (i9 (bG (hi ah s1 Y H1 _ I1 q1) ?_));rintro iv s2 ⟨y,H2,I2,r2,q2⟩;refine aS (A8 (aS (i9 (bG (hs ah s2 Y H2 x y v ov iv u _ I2 r1 r2 r q2) ?_))));rintro _ s3 ⟨H3,I3,q3⟩;exact wpAny_release ⟨Y,H3,I3,q3⟩
def Kl(te:TE)(g:TG):TS:=λD Y H=>te Y H λx H1=>g x Y H1 D.nx
theorem Km{tg e:Expr}{te:TE}{g:TG}(he:PE X e te)(hg:PG X tg g)(hs:swapsWithSole [tg] e pos.line X.env=pure false:=by rfl)(hw:swappedStores [tg] e X.env=pure none:=by rfl)
  (h1:(assignEach [tg] X.env).map (·.2)=[assign tg X.env]:=by rfl):PS X (.Assign [tg] e pos) (Kl te g):=by
 intro ah s Y H D I h;refine wpAny_Assign_stores (bG (he ah s Y H _ I h) ?_) hs hw;rintro v s1 ⟨x,H1,I1,r1,q1⟩;rw[h1];exact bG (hg ah s1 Y H1 x v _ I1 r1 q1) λ_ s2 q=>q
theorem oh{i:Nat}{x:Str}{e:Expr}{te:TE}{pos':Pos}(hN:X.N.Nodup)(hi:X.N[i]?=some x)(hx:Loc X.env.scope x)(he:PE X e te)(hs:swapsWith e (some (.Name x pos')) pos.line X.env=pure false:=by rfl)(hf:X.fn x=true\/X.env.scope.names.lookup x=some .local:=by first |exact .inl rfl |exact .inr rfl |assumption) :
  PS X (.Assign [.Name x pos'] e pos) (Kl te (yH i)):=by
 intro ah s Y H D I h;refine wpAny_Assign_Name (bG (he ah s Y H _ I h) ?_) hs;rintro v s1 ⟨y,H1,I1,r1,q1⟩;exact gY I1 hN hi hx r1 (λs2 I2=>⟨_,H1,I2,q1⟩) hf
noncomputable def V4(i j:Nat)(ta:TA):TS:=λD Y H=>ta Y H λvs H1=>∃v w,vs=[v,w]/\D.nx ((Y.set i (some v)).set j (some w)) H1
theorem Ko{i j:Nat}{x y:Str}{a b:Expr}{ta:TA}{px py pt:Pos}{kt k2 Kp}(hc:X.calm=true)(hN:X.N.Nodup)(hi:X.N[i]?=some x)(hj:X.N[j]?=some y)(hij:i≠j)
  (hx:X.env.scope.names.lookup x=some .local) (hy:X.env.scope.names.lookup y=some .local) (ha:PA X [a,b] ta)
  (hw:swappedStores [.Tuple [.Name x px,.Name y py] kt pt] (.Tuple [a,b] k2 Kp) X.env=pure (some [x,y]))
  (hs:swapsWithSole [.Tuple [.Name x px,.Name y py] kt pt] (.Tuple [a,b] k2 Kp) pos.line X.env=pure false:=by rfl) :
  PS X (.Assign [.Tuple [.Name x px,.Name y py] kt pt] (.Tuple [a,b] k2 Kp) pos) (V4 i j ta):=by
 intro ah s Y H D I h;rw[exec_Assign_arm];refine aS (A8 ?_);rw[hs];refine aS (c8 ?_);rw[fI ⋯];refine aS (Tuple_ (bG (ha _ ah s Y H _ I h) ?_));rintro us s1 ⟨vs,H1,I1,r1,q1⟩;obtain⟨v,w,e1,q1⟩:=q1;subst e1;obtain⟨u1,u2,rfl,rv,rw'⟩:∃u1 u2,us=[u1,u2]/\RelV v u1/\RelV w u2:=by
  cases r1 with
  |cons p q=>
   cases q with
   |cons p' q'=>cases q';exact⟨_,_,rfl,p,p'⟩
 refine lL ?_ (by show 2<=sizeLine;decide)
 have I2:Inv X ah Y H1 { s1 with heap:=s1.heap.push { cls:=.type "tuple",data:=.seq [u1,u2].toArray}}:=I1.kept (t':=s1.toks) λb o e=>a9 _ e
 rw[hw];refine aS (c8 ?_);show wpAny (~~~2) X.A (do rule "assign.swapped-stores";let items <- unpackItems (.ref s1⁻¹) 2 none;assignInOrder [λv=>bindName X.env y v,λv=>bindName X.env x v] items.reverse;pure Flow.next) _ _ _
 refine aS (wpAny_rule (aS (unpackItems_tuple (items:=#[u1,u2]) (I.ok.hd hc) (IsTup.new s1.heap _) λh' hx'=>?_)))
 have I3:=I2.kept (h':=h') (t':=s1.toks) λb o e=>hx' b o (i8 (eJ e)) e
 show wpAny _ _ (assignInOrder [λv=>bindName X.env y v,λv=>bindName X.env x v] [u2,u1] >>= λ_=>pure Flow.next) _ _ _
 refine aS (assignInOrder_cons (wpAny_bindName (gY I3 hN hj (.inl hy) rw' (λs2 I4=>?_) (.inr hy))))
 refine assignInOrder_cons (wpAny_bindName (gY I4 hN hi (.inl hx) rv (λs3 I5=>assignInOrder_nil (c8 ?_)) (.inr hx)))
 rw[List.set_comm _ _ (oS hij)]at I5;exact⟨_,H1,I5,q1⟩
end
section
variable{X:Cx}{pos:Pos}
noncomputable def Kq(c:TT)(tb:TS):TS:=λD Y H=>∃W:Nat->St->Hp->Prop,(∃m,W m Y H)/\∀m Y H,W m Y H->
 c Y H λb H1=>if b=true then ∃N:St->Hp->Prop,(∀σ' H',N σ' H'->∃m',m'<m/\W m' σ' H')/\tb { D with nx:=N,ct:=N,bk:=D.nx} Y H1 else D.nx Y H1
theorem yJ{c:Expr}{body:List Stmt}{tc:TT}{tb:TS}(hp:PassesOwn (~~~2) X.A X.env X.xe)(hc:PT X c tc)(hb:n6 X body tb):PS X (.While c body [] pos) (Kq tc tb):=by
 intro ah s Y H D I h;obtain⟨W,⟨m0,w0⟩,turn⟩:=h;refine wpAny_While (codeAny_whileLoop (λn s'=>∃σ' H',Inv X ah σ' H' s'/\W n σ' H') ?_ m0 ⟨Y,H,I,w0⟩)
 rintro n s1 ⟨σ1,H1,I1,w1⟩;refine wP hp (bG (hc ah s1 σ1 H1 _ I1 (turn n σ1 H1 w1)) ?_);rintro b s2 ⟨H2,I2,q2⟩;cases b with
 |true=>
  obtain⟨N,hN,q2⟩:=q2;refine wP hp (bG (hb ah s2 σ1 H2 _ I2 q2) λf s3 q3=>?_)
  cases f with
  |next=>obtain⟨σ3,H3,I3,n3⟩:=q3;obtain⟨m',hm,w3⟩:=hN σ3 H3 n3;exact⟨m',hm,σ3,H3,I3,w3⟩
  |cont=>obtain⟨σ3,H3,I3,n3⟩:=q3;obtain⟨m',hm,w3⟩:=hN σ3 H3 n3;exact⟨m',hm,σ3,H3,I3,w3⟩
  |brk=>exact q3
  |ret v=>exact q3
 |false=>exact wpAny_execs_nil ⟨σ1,H2,I2,q2⟩
end
structure It where
 go:Nat->Hp->Prop
 UT:Nat->Hp->V->Hp->Prop
 stop:Nat->Hp->Prop
def gZ(X:Cx)(ah: ~~~1)(H:Hp)(b:Addr):Prop:=
 H b=none/\b≠X.env.locals/\b∉X.fs/\(b∈X.ex\/X.s₀⁻¹<=b)/\(∀x c,X.env.cells.lookup x=some c->c≠b)/\∀p∈X.pn++ah,p.1≠b
theorem Inv.v7{X:Cx}{ah: ~~~1}{Y:St}{H H':Hp}{s:Shared}{b:Addr}(I: ~~~7)(hb:s⁻¹<=b)(hn:H' b=none):gZ X ah H' b:=by
 refine⟨hn,BI (eP I.lt hb),I.VJ hb,.inr (hU I.sz hb),λx c e z=>?_,λp hp z=>?_⟩
 . obtain⟨v,q⟩:=I.cell x c e;exact absurd (eP q.lt (by rw[z];exact hb)) (oT _)
 . exact absurd (eP (eJ (I.pin p hp).1) (by rw[z];exact hb)) (oT _)
structure Turn(P:Program)(w:World)(K:Frag)(tg:Expr)(J:It)(fp:List Addr)(it:Addr)(tn:Nat->Heap->Prop):Prop where
 mem:it∈fp
 obj:∀i h,tn i h->∀b∈fp,∃o,h.get? b=some o/\∀v,o.data≠.cell v
 keep:∀i h h',tn i h->(∀b∈fp,∀o,h.get? b=some o->h'.get? b=some o)->tn i h'
 item:∀(X:Cx),X.prog=P->X.w=w->X.K=K->X.calm=true->∀(i:Nat) (ah: ~~~1) (s:Shared) (Y:St) (H:Hp) (E:Value->Shared->Prop),Inv X ah Y H s->(∀b∈fp,gZ X ah H b)->tn i s.heap->J.go i H->
  wpAny (model P w) X.A (pyNext (.ref it)) (λr s1=>∃u,r=some u/\
   wpAny (model P w) X.A (letOwnedTupleGo tg (.ref it) u) (λ_ s2=>∃x H',Inv X ah Y H' s2/\RelV x u/\J.UT i H x H'/\tn (i+1) s2.heap/\∀b∈fp,H' b=none) E s1) E s
 done:∀(X:Cx),X.prog=P->X.w=w->X.K=K->X.calm=true->∀(i:Nat) (ah: ~~~1) (s:Shared) (Y:St) (H:Hp) (E:Value->Shared->Prop),Inv X ah Y H s->(∀b∈fp,gZ X ah H b)->tn i s.heap->J.stop i H->
  wpAny (model P w) X.A (pyNext (.ref it)) (λr s1=>r=none/\Inv X ah Y H s1) E s
 self:∀(A:Around) (i:Nat) (s:Shared) (Q:Value->Shared->Prop) (E:Value->Shared->Prop),tn i s.heap->Q (.ref it) s->wpAny (model P w) A (pyIter (.ref it)) Q E s
abbrev TI:=St->Hp->(It->Hp->Prop)->Prop
def PIE(X:Cx)(ah: ~~~1)(Y:St)(tg:Expr)(R:It->Hp->Prop)(itv:Value)(s2:Shared):Prop:=
 ∃(it:Addr) (fp:List Addr) (tn:Nat->Heap->Prop) (J:It) (H':Hp),itv=.ref it/\Inv X ah Y H' s2/\Turn X.prog X.w X.K tg J fp it tn/\tn 0 s2.heap/\(∀b∈fp,gZ X ah H' b)/\R J H'
def PI(X:Cx)(tg iter:Expr)(wi:TI):Prop:=
 ∀(ah: ~~~1) (s:Shared) (Y:St) (H:Hp) (R:It->Hp->Prop),Inv X ah Y H s->wi Y H R->
  wpAny (~~~2) X.A (eval iter X.env) (λv s1=>wpAny (~~~2) X.A (pyIter v) (PIE X ah Y tg R) X.xe s1) X.xe s
theorem uK(ho:s.heap.get? it=some o)(hc:o.cls=.type n)(hd:o.data=.fields vs)
  (hn:["enumerate", "zip", "dict_itemiterator", "dict_reverseitemiterator", "odict_iterator", "itertools.zip_longest", "itertools.pairwise"].contains n=false) (hQ:Q () s):wpAny M A (letOwnedTupleGo tg (.ref it) u) Q E s:=by
 cases tg <;> first
  |exact c8 hQ
  | (cases u <;> first
    |exact c8 hQ
    | (refine aS (wpAny_load ho ?_)
       rw[hc,hd];show wpAny M A (if (["enumerate", "zip", "dict_itemiterator", "dict_reverseitemiterator", "odict_iterator", "itertools.zip_longest", "itertools.pairwise"].contains n&&vs[0]?==some (rawInt _))=true then _ else _) Q E s
       rw[fI (by intro h;rw[hn]at h;symm)]
       exact c8 hQ))
def Yg(K:Frag)(a:Addr):It:=
 ⟨λi H=>∃xs x,bH K H a xs/\xs[i]?=some x,λi H x H'=>H'=H/\∀xs,bH K H a xs->xs[i]?=some x,λi H=>∃xs,bH K H a xs/\xs.length<=i⟩
def Yh(K:Frag)(a:Addr):It:=
 ⟨λi H=>∃xs x,fU K H a xs/\xs[i]?=some x,λi H x H'=>H'=H/\∀xs,fU K H a xs->xs[i]?=some x,λi H=>∃xs,fU K H a xs/\xs.length<=i⟩
noncomputable def Kr(lo:Int)(n:Nat):It:=⟨λi _=>i<n,λi H x H'=>H'=H/\x=.int (lo+i),λi _=>n<=i⟩
theorem v8{P:Program}{w:World}{K:Frag}{tg:Expr}(a it:Addr):Turn P w K tg (Yg K a) [it] it (λi h=>h.IsListIter it a i) where
 mem:=by simp
 obj:=λi h st b hb=>by
  have e:b=it:=by simpa using hb
  subst e;obtain⟨o,e,c,d⟩:=st;exact⟨o,e,λv z=>by rw[d]at z;cases z⟩
 keep:=λi h h' st k=>st.at λo e=>k it ⋯ o e
 item:=by
  intro X hP hw hK hc i ah s Y H E I hf st hg;subst hP hw hK;obtain⟨xs,x,hq,hx⟩:=hg;obtain⟨aq,rv,p,hz⟩:=I.list hq;obtain⟨u,hu,ru⟩:=rv.get hx;obtain⟨f0,f1,f2,f3,f4,f5⟩:=hf it ⋯;refine wpAny_pyNext_list_item st p.isList (by simpa using hu) λh' st' sb=>?_
  have I1:=I.turned (t':=s.toks) (λb o hb e=>(sb.2 b hb).trans e) f0 f1 f3 f4 f5
  obtain⟨o,e,c,d⟩:=id st';exact⟨u,rfl,uK e c d ⋯ ⟨x,H,I1,ru,⟨rfl,λys hy=>by rw[I.qi hy hq];exact hx⟩,st',λb hb=>(hf b hb).1⟩⟩
 done:=by intro X hP hw hK hc i ah s Y H E I hf st hg;subst hP hw hK;obtain⟨xs,hq,hx⟩:=hg;obtain⟨aq,rv,p,hz⟩:=I.list hq;obtain⟨f0,f1,f2,f3,f4,f5⟩:=hf it ⋯;have hl:=rv.length;exact wpAny_pyNext_list_end (I.ok.hd hc) st p.isList (by simp;lia) λh' eb=>⟨rfl,I.turned (λb o hb e=>eb b o hb e) f0 f1 f3 f4 f5⟩
 self:=λ_ _ _ _ _ st h=>wpAny_pyIter_listiter st h
theorem sG{P:Program}{w:World}{K:Frag}{tg:Expr}(a it:Addr):Turn P w K tg (Yh K a) [it] it (λi h=>h.IsTupleIter it a i) where
 mem:=by simp
 obj:=λi h st b hb=>by
  have e:b=it:=by simpa using hb
  subst e;obtain⟨o,e,c,d⟩:=st;exact⟨o,e,λv z=>by rw[d]at z;cases z⟩
 keep:=λi h h' st k=>st.at λo e=>k it ⋯ o e
 item:=by
  intro X hP hw hK hc i ah s Y H E I hf st hg;subst hP hw hK;obtain⟨xs,x,hq,hx⟩:=hg;obtain⟨aq,rv,p,hz⟩:=I.tuple hq;obtain⟨u,hu,ru⟩:=rv.get hx;obtain⟨f0,f1,f2,f3,f4,f5⟩:=hf it ⋯;refine wpAny_pyNext_tuple_item st (show s.heap.IsTuple a aq.toArray from p) (by simpa using hu) λh' st' sb=>?_
  have I1:=I.turned (t':=s.toks) (λb o hb e=>(sb.2 b hb).trans e) f0 f1 f3 f4 f5
  obtain⟨o,e,c,d⟩:=id st';exact⟨u,rfl,uK e c d ⋯ ⟨x,H,I1,ru,⟨rfl,λys hy=>by rw[I.mJ hy hq];exact hx⟩,st',λb hb=>(hf b hb).1⟩⟩
 done:=by intro X hP hw hK hc i ah s Y H E I hf st hg;subst hP hw hK;obtain⟨xs,hq,hx⟩:=hg;obtain⟨aq,rv,p,hz⟩:=I.tuple hq;obtain⟨f0,f1,f2,f3,f4,f5⟩:=hf it ⋯;have hl:=rv.length;exact wpAny_pyNext_tuple_end (I.ok.hd hc) st (show s.heap.IsTuple a aq.toArray from p) (by simp;lia) λh' eb=>⟨rfl,I.turned (λb o hb e=>eb b o hb e) f0 f1 f3 f4 f5⟩
 self:=λ_ _ _ _ _ st h=>wpAny_pyIter_tupleiter st h
theorem sH{P:Program}{w:World}{K:Frag}{tg:Expr}(it:Addr)(lo:Int)(n:Nat):Turn P w K tg (Kr lo n) [it] it (λi h=>IsRangeIter h it (lo+(i:Nat) * 1) ((n:Int) - (i:Nat)) 1) where
 mem:=by simp
 obj:=λi h st b hb=>by
  have e:b=it:=by simpa using hb
  subst e;exact⟨_,st,λv z=>by
   have z':=z;cases z'⟩
 keep:=λi h h' st k=>k it ⋯ _ st
 item:=by
  intro X hP hw hK hc i ah s Y H E I hf st hg;subst hP hw hK;obtain⟨f0,f1,f2,f3,f4,f5⟩:=hf it ⋯;have W:=Walks.range (prog:=X.prog) (w:=X.w) (I.ok.hd hc) it lo 1 n;refine W.item i s _ _ hg st λv h' tk hv st' kk=>?_
  obtain⟨t,rfl⟩:=hv;have I1:Inv X ah Y H { s with heap:=h',toks:=tk}:=I.turned (λb o hb e=>kk b o (by simpa using hb) e) f0 f1 f3 f4 f5
  refine⟨_,rfl,uK st' rfl rfl ⋯ ⟨.int (lo+i),H,I1,⟨t,?_⟩,⟨rfl,rfl⟩,st',λb hb=>(hf b hb).1⟩⟩
  rw[Int.mul_one]
 done:=by intro X hP hw hK hc i ah s Y H E I hf st hg;obtain⟨f0,f1,f2,f3,f4,f5⟩:=hf it ⋯;exact wpAny_pyNext_range_end (I.ok.hd hc) st (by have:n<=i:=hg;lia) λh' eb=>⟨rfl,I.turned (λb o hb e=>eb b o hb e) f0 f1 f3 f4 f5⟩
 self:=λ_ _ _ _ _ st h=>wpAny_pyIter_rangeiter st h
section
variable{X:Cx}{tg:Expr}
def QS(K:Frag)(tl:TE):TI:=λY H R=>tl Y H λx H1=>∃a,x=.ref a/\(∃xs,bH K H1 a xs)/\R (Yg K a) H1
def V5(K:Frag)(tl:TE):TI:=λY H R=>tl Y H λx H1=>∃a,x=.ref a/\(∃xs,fU K H1 a xs)/\R (Yh K a) H1
theorem uL{l:Expr}{tl:TE}(hl:PE X l tl):PI X tg l (QS X.K tl):=by
 intro ah s Y H R I h;refine bG (hl ah s Y H _ I h) ?_;rintro v s1 ⟨x,H1,I1,r1,q1⟩;obtain⟨a,e,⟨xs,hq⟩,q⟩:=q1;subst e;cases r1;obtain⟨aq,rv,p,hz⟩:=I1.list hq;refine wpAny_pyIter_list p.isList ?_;refine⟨s1⁻¹,[s1⁻¹],_,_,H1,rfl,I1.kept λb o e=>a9 _ e,v8 a _,⟨_,d0 _ rfl,rfl,rfl⟩,λb hb=>?_,q⟩
 have e:b=s1⁻¹:=by simpa using hb
 subst e;exact I1.v7 (dC _) (I1.hok.fresh (dC _))
theorem Ks{l:Expr}{tl:TE}(hl:PE X l tl):PI X tg l (V5 X.K tl):=by
 intro ah s Y H R I h;refine bG (hl ah s Y H _ I h) ?_;rintro v s1 ⟨x,H1,I1,r1,q1⟩;obtain⟨a,e,⟨xs,hq⟩,q⟩:=q1;subst e;cases r1;obtain⟨aq,rv,p,hz⟩:=I1.tuple hq;refine wpAny_pyIter_tuple (show s1.heap.IsTuple a aq.toArray from p) ?_
 refine⟨s1⁻¹,[s1⁻¹],_,_,H1,rfl,I1.kept λb o e=>a9 _ e,sG a _,⟨_,d0 _ rfl,rfl,rfl⟩,λb hb=>?_,q⟩
 have e:b=s1⁻¹:=by simpa using hb
 subst e;exact I1.v7 (dC _) (I1.hok.fresh (dC _))
theorem qk{ah: ~~~1}{Y:St}{H:Hp}{s:Shared}{R:It->Hp->Prop}{E:Value->Shared->Prop}{lo hi:Int}{t u v:Tok}{tk:Nat}(I: ~~~7)(h1 : -(2 ^ 62)<=lo)(h2:lo<2 ^ 62)(h3 : -(2 ^ 62)<=hi)(h4:hi<2 ^ 62)
  (q:R (Kr lo (hi - lo).toNat) H):wpAny (~~~2) X.A (pyIter (.ref s⁻¹)) (PIE X ah Y tg R) E { s with heap:=s.heap.push { cls:=.type "range",data:=.fields #[.int lo t,.int hi u,.int 1 v]},toks:=tk}:=by
 refine wpAny_pyIter_range (IsRange.new ..) (small_one h1 h2 h3 h4) ?_;have I1:Inv X ah Y H { s with heap:=s.heap.push { cls:=.type "range",data:=.fields #[.int lo t,.int hi u,.int 1 v]},toks:=tk}:=I.kept λb o e=>a9 _ e
 refine⟨(s.heap.push { cls:=.type "range",data:=.fields #[.int lo t,.int hi u,.int 1 v]}).objs.size,[(s.heap.push { cls:=.type "range",data:=.fields #[.int lo t,.int hi u,.int 1 v]}).objs.size],_,_,H,rfl,
  I1.kept λb o e=>a9 _ e,sH _ lo (hi - lo).toNat,?_,λb hb=>?_,q⟩
 .
  have e1:lo+((0:Nat):Int) * 1=lo:=by simp
  have e2:(((hi - lo).toNat:Nat):Int) - ((0:Nat):Int)=Builtin.Range.rangeSize lo hi 1:=by rw[rangeSize_one];split <;> lia
  rw[e1,e2];exact d0 _ rfl
 .
  have e:b=(s.heap.push { cls:=.type "range",data:=.fields #[.int lo t,.int hi u,.int 1 v]}).objs.size:=by simpa using hb
  subst e;exact I1.v7 (dC _) (I1.hok.fresh (dC _))
def QT(ta:TA):TI:=λY H R=>ta Y H λvs H1=>∃j:Int,vs=[.int j]/\-(2 ^ 62)<=j/\j<2 ^ 62/\R (Kr 0 j.toNat) H1
def QV(ta:TA):TI:=λY H R=>ta Y H λvs H1=>∃i j:Int,vs=[.int i,.int j]/\(-(2 ^ 62)<=i/\i<2 ^ 62/\-(2 ^ 62)<=j/\j<2 ^ 62)/\R (Kr i (j - i).toNat) H1
theorem v9{a:Expr}{ta:TA}{p pos:Pos}(hg:Gl X "range")(hm:X.mg "range"=none)(ha:PA X [a] ta)(hs:starEach [a] X.env=[(false,eval a X.env)]:=by rfl):PI X tg (.Call (.Name "range" p) [a] [] pos) (QT ta):=by
 intro ah s Y H R I h;refine Call_ (fc I hg hm boot_range (nK (bG (ha pos ah s Y H _ I h) ?_) hs rfl));rintro us s1 ⟨vs,H1,I1,r1,q1⟩;obtain⟨j,e,q1,q2,q⟩:=q1;subst e;cases r1 with
 |cons r rr=>cases rr;obtain⟨t,rfl⟩:=r;exact call_range_1 (qk I1 ⋯ ⋯ q1 q2 (by simpa using q))
theorem wc{a b:Expr}{ta:TA}{p pos:Pos}(hg:Gl X "range")(hm:X.mg "range"=none)(ha:PA X [a,b] ta)(hs:starEach [a,b] X.env=[(false,eval a X.env),(false,eval b X.env)]:=by rfl)(hs2:starEach [b] X.env=[(false,eval b X.env)]:=by rfl) :
  PI X tg (.Call (.Name "range" p) [a,b] [] pos) (QV ta):=by
 intro ah s Y H R I h;refine Call_ (fc I hg hm boot_range (nK (bG (ha pos ah s Y H _ I h) λus s1 ⟨vs,H1,I1,r1,q1⟩=>?_) (by rw[hs,hs2]) (by rw[hs2];rfl)))
 obtain⟨i,j,e,⟨q1,q2,q3,q4⟩,q⟩:=q1;subst e;cases r1 with
 |cons r rr=>
  cases rr with
  |cons r' rr=>cases rr;obtain⟨t,rfl⟩:=r;obtain⟨t',rfl⟩:=r';exact call_range_2 (qk I1 q1 q2 q3 q4 q)
noncomputable def V6(wi:TI)(g:TG)(tb:TS):TS:=λD Y H=>wi Y H λJ H1=>∃W:Nat->Nat->St->Hp->Prop,(∃m,W 0 m Y H1)/\∀i m Y H,W i m Y H->
 (J.stop i H/\D.nx Y H)\/(J.go i H/\∃N:St->Hp->Prop,(∀σ' H',N σ' H'->∃m',m'<m/\W (i+1) m' σ' H')/\∀x H',J.UT i H x H'->g x Y H' λσ2 H2=>tb { D with nx:=N,ct:=N,bk:=D.nx} σ2 H2)
noncomputable def kD(fp:List Addr)(h:Heap): ~~~1:=fp.filterMap λb=>(h.get? b).map λo=>(b,o)
theorem eG{fp:List Addr}{h:Heap}{b:Addr}{o:Obj}(hb:b∈fp)(e:h.get? b=some o):(b,o)∈kD fp h:=List.mem_filterMap.mpr ⟨b,hb,by rw[e];rfl⟩
theorem wg(hp:p∈kD fp h):p.1∈fp/\h.get? p.1=some p.2:=by
 obtain⟨b,hb,e⟩:=List.mem_filterMap.mp hp;cases q:h.get? b with
 |none=>rw[q]at e;cases e
 |some o=>rw[q]at e;have e':=i6 e;subst e';exact⟨hb,q⟩
theorem Inv.pinned{ah: ~~~1}{Y:St}{H:Hp}{s:Shared}{fp:List Addr}(I: ~~~7)(hf:∀b∈fp,gZ X ah H b)(ho:∀b∈fp,∃o,s.heap.get? b=some o/\∀v,o.data≠.cell v):Inv X (ah++kD fp s.heap) Y H s:=
 I.uG λp hp=>(gL.mp hp).elim (λz=>I.pin p (fN _ z)) λz=>by
  obtain⟨hb,e⟩:=wg z;obtain⟨f0,f1,f2,_⟩:=hf p.1 hb;obtain⟨o,e',d⟩:=ho p.1 hb;rw[e]at e';cases e';exact⟨e,f0,f1,f2,d⟩
theorem Inv.g5{ah pl: ~~~1}{Y:St}{H:Hp}{s:Shared}(I:Inv X (ah++pl) Y H s):Inv X ah Y H s:=I.uG λp hp=>I.pin p (fN _ (fA _ hp))
theorem yK{iter:Expr}{body:List Stmt}{wi:TI}{g:TG}{tb:TS}{pos:Pos}(hp:PassesOwn (~~~2) X.A X.env X.xe)(hc:X.calm=true)(hi:PI X tg iter wi)(hg:PG X tg g)(hb:n6 X body tb)
  (hs:∀x,foldedSetIterable iter X.env x=pure x:=by intro _;rfl):PS X (.For tg iter body [] pos) (V6 wi g tb):=by
 intro ah s Y H D I h;refine wpAny_For (bG (hi ah s Y H _ I h) λv s1 h1=>bG h1 λitv s2 h2=>?_) hs
 obtain⟨it,fp,tn,J,H2,e,I2,T,aP,f2,W,⟨m0,w0⟩,turn⟩:=h2;subst e;have stat:∀{H':Hp},(∀b∈fp,H' b=none)->∀b∈fp,gZ X ah H' b:=λhn b hb=>⟨hn b hb,(f2 b hb).2⟩
 refine codeAny_forLoop_any (λn s'=>∃i σ' H',Inv X ah σ' H' s'/\tn i s'.heap/\(∀b∈fp,H' b=none)/\W i n σ' H') ?_ m0 ⟨0,Y,H2,I2,aP,λb hb=>(f2 b hb).1,w0⟩
 rintro n s3 ⟨i,σ3,H3,I3,eV,QW,w3⟩;rcases turn i n σ3 H3 w3 with ⟨stop,qn⟩ |⟨go,N,hN,step⟩
 . refine wP hp (bG (T.done X rfl rfl rfl hc i ah s3 σ3 H3 X.xe I3 (stat QW) eV stop) ?_);rintro r s4 ⟨hr,I4⟩;subst hr;exact wpAny_execs_nil ⟨σ3,H3,I4,qn⟩
 .
  refine wP hp (bG (T.item X rfl rfl rfl hc i ah s3 σ3 H3 X.xe I3 (stat QW) eV go) ?_);rintro r s4 ⟨u,hr,h4⟩;subst hr;refine wP hp (bG h4 ?_);rintro _ s5 ⟨x,H5,I5,r5,y5,yL,V7⟩;have V8:=I5.pinned (stat V7) (T.obj _ _ yL);refine wP hp (bG (hg _ s5 σ3 H5 x u _ V8 r5 (step x H5 y5)) ?_);rintro _ s6 ⟨σ6,H6,I6,q6⟩;refine wP hp (bG (hb _ s6 σ6 H6 _ I6 q6) λf s7 q7=>?_)
  have again:∀{σ7:St}{H7:Hp},Inv X (ah++kD fp s5.heap) σ7 H7 s7->N σ7 H7->∃m,m<n/\∃i σ' H',Inv X ah σ' H' s7/\tn i s7.heap/\(∀b∈fp,H' b=none)/\W i m σ' H':=λ{σ7 H7} I7 n7=>by
   obtain⟨m',hm,w7⟩:=hN σ7 H7 n7;refine⟨m',hm,i+1,σ7,H7,I7.g5,T.keep _ _ _ yL λb hb o e=>(I7.pin (b,o) (fN _ (fN _ (eG hb e)))).1,λb hb=>?_,w7⟩
   obtain⟨o,e,d⟩:=T.obj _ _ yL b hb;exact (I7.pin (b,o) (fN _ (fN _ (eG hb e)))).2.1
  cases f with
  |next=>obtain⟨σ7,H7,I7,n7⟩:=q7;exact again I7 n7
  |cont=>obtain⟨σ7,H7,I7,n7⟩:=q7;exact again I7 n7
  |brk=>obtain⟨σ7,H7,I7,q7⟩:=q7;exact⟨σ7,H7,I7.g5,q7⟩
  |ret v=>obtain⟨x7,σ7,H7,I7,r7,q7⟩:=q7;exact⟨x7,σ7,H7,I7.g5,r7,q7⟩
end
abbrev R2:=V->V->Hp->VK->Prop
def g7(X:Cx)(f:Value->Value->Sem Value)(r:R2):Prop:=
 ∀(ah: ~~~1) (s:Shared) (Y:St) (H:Hp) (x y:V) (v u:Value) (Q:VK),Inv X ah Y H s->RelV x v->RelV y u->r x y H Q->
  wpAny (~~~2) X.A (f v u) (EP X ah Y Q) X.xe s
def UW(X:Cx)(f:Value->Sem Value)(r:V->Hp->VK->Prop):Prop:=
 ∀(ah: ~~~1) (s:Shared) (Y:St) (H:Hp) (x:V) (v:Value) (Q:VK),Inv X ah Y H s->RelV x v->r x H Q->
  wpAny (~~~2) X.A (f v) (EP X ah Y Q) X.xe s
def cL(X:Cx)(f:Value)(r:List V->Hp->VK->Prop):Prop:=
 ∀(ah: ~~~1) (s:Shared) (Y:St) (H:Hp) (xs:List V) (us:List Value) (Q:VK),Inv X ah Y H s->Vals xs us->r xs H Q->
  wpAny (~~~2) X.A (call f us) (EP X ah Y Q) X.xe s
def V9(X:Cx)(r:V->Hp->(Bool->Hp->Prop)->Prop):Prop:=
 ∀(ah: ~~~1) (s:Shared) (Y:St) (H:Hp) (x:V) (v:Value) (Q:Bool->Hp->Prop),Inv X ah Y H s->RelV x v->r x H Q->
  wpAny (~~~2) X.A (truthy v) (TP X ah Y Q) X.xe s
noncomputable def U0(r:R2)(ta tb:TE):TE:=λY H Q=>ta Y H λx H1=>tb Y H1 λy H2=>r x y H2 Q
def Zv(r:V->Hp->VK->Prop)(ta:TE):TE:=λY H Q=>ta Y H λx H1=>r x H1 Q
noncomputable def rI(C:Int->Int->Prop)(g:Int->Int->V):R2:=λx y H Q=>∃i j,x=.int i/\y=.int j/\C i j/\Q (g i j) H
noncomputable def Dw(g:Int->Int->V):R2:=λx y H Q=>∃i j,x=.int i/\y=.int j/\Q (g i j) H
def rU(g:Int->V):V->Hp->VK->Prop:=λx H Q=>∃i,x=.int i/\Q (g i) H
section
variable{X:Cx}{a b c:Expr}{ta tb tc:TE}{pos:Pos}
theorem Ku(ha:PE X a ta)(hb:PE X b tb){ah: ~~~1}{s:Shared}{Y:St}{H:Hp}{R:V->V->Hp->Prop}(I: ~~~7)
  (h:ta Y H λx H1=>tb Y H1 λy H2=>R x y H2) {Q:Value->Shared->Prop}{f:Value->Value->Sem Value}
  (hf:∀v u s2 x y H2,Inv X ah Y H2 s2->RelV x v->RelV y u->R x y H2->wpAny (~~~2) X.A (f v u) Q X.xe s2) :
  wpAny (~~~2) X.A (eval a X.env) (λv s₁=>wpAny (~~~2) X.A (eval b X.env) (λu s₂=>wpAny (~~~2) X.A (f v u) Q X.xe s₂) X.xe s₁) X.xe s:=by
 refine bG (ha ah s Y H _ I h) λv s1 ⟨x,H1,I1,r1,q1⟩=>?_
 refine bG (hb ah s1 Y H1 _ I1 q1) λu s2 ⟨y,H2,I2,r2,q2⟩=>?_
 exact hf v u s2 x y H2 I2 r1 r2 q2
theorem QX{op:Operator}{r:R2}(ho:g7 X (binaryOp op) r)(ha:PE X a ta)(hb:PE X b tb):PE X (.BinOp a op b pos) (U0 r ta tb):=by intro ah s Y H Q I h;exact wpAny_BinOp (Ku ha hb I h λv u s2 x y H2 I2 rx ry q=>ho ah s2 Y H2 x y v u Q I2 rx ry q)
theorem yM{op:UnaryOp}{r:V->Hp->VK->Prop}(ho:UW X (unaryOp op) r)(ha:PE X a ta):PE X (.UnaryOp op a pos) (Zv r ta):=by intro ah s Y H Q I h;exact UnaryOp_ (bG (ha ah s Y H _ I h) (by rintro v s1 ⟨x,H1,I1,r1,q1⟩;exact ho ah s1 Y H1 x v Q I1 r1 q1))
theorem U1{f:Value->Value->Sem Value}{C:Int->Int->Prop}{g:Int->Int->Int}
  (rule:∀(i j:Int) (t u:Tok) (s:Shared) (Q:Value->Shared->Prop) (E:Value->Shared->Prop),C i j->Q (.int (g i j) s.toks) { s with toks:=s.toks+1}->wpAny (~~~2) X.A (f (.int i t) (.int j u)) Q E s) :
  g7 X f (rI C λi j=>.int (g i j)):=by
 intro ah s Y H x y v u Q I rx ry h;obtain⟨i,j,rfl,rfl,hc,q⟩:=h;obtain⟨t,rfl⟩:=rx;obtain⟨t',rfl⟩:=ry;exact rule i j t t' s _ _ hc ⟨.int (g i j),H,I.tok _,⟨_,rfl⟩,q⟩
theorem QZ{f:Value->Value->Sem Value}{g:Int->Int->Int}
  (rule:∀(i j:Int) (t u:Tok) (s:Shared) (Q:Value->Shared->Prop) (E:Value->Shared->Prop),Q (.int (g i j) s.toks) { s with toks:=s.toks+1}->wpAny (~~~2) X.A (f (.int i t) (.int j u)) Q E s) :
  g7 X f (Dw λi j=>.int (g i j)):=by
 intro ah s Y H x y v u Q I rx ry h;obtain⟨i,j,rfl,rfl,q⟩:=h;obtain⟨t,rfl⟩:=rx;obtain⟨t',rfl⟩:=ry;exact rule i j t t' s _ _ ⟨.int (g i j),H,I.tok _,⟨_,rfl⟩,q⟩
theorem Em{f:Value->Value->Sem Value}{g:Int->Int->Bool}
  (rule:∀(i j:Int) (t u:Tok) (s:Shared) (Q:Value->Shared->Prop) (E:Value->Shared->Prop),Q (.bool (g i j)) s->wpAny (~~~2) X.A (f (.int i t) (.int j u)) Q E s) :
  g7 X f (Dw λi j=>.bl (g i j)):=by
 intro ah s Y H x y v u Q I rx ry h;obtain⟨i,j,rfl,rfl,q⟩:=h;obtain⟨t,rfl⟩:=rx;obtain⟨t',rfl⟩:=ry;exact rule i j t t' s _ _ ⟨.bl (g i j),H,I,rfl,q⟩
def Wa(i j:Int):Prop:=0<=j/\j<=1000000/\i.natAbs<2 ^ 64
def Kv(i j:Int):Prop:=(-(2 ^ 64)<i/\i<2 ^ 64)\/(-(2 ^ 64)<j/\j<2 ^ 64)
theorem Kv.ok{i j:Int}(h:Kv i j):IntMulOk i j:=by
 rcases h with ⟨h1,h2⟩ |⟨h1,h2⟩
 . exact .of_left (intBits_le_64 h1 h2)
 . exact .of_right (intBits_le_64 h1 h2)
theorem Kw:g7 X (binaryOp .Add) (Dw λi j=>.int (i+j)):=QZ λ_ _ _ _ _ _ _ q=>add_int q
theorem Ky:g7 X (binaryOp .Sub) (Dw λi j=>.int (i - j)):=QZ λ_ _ _ _ _ _ _ q=>sub_int q
theorem Kz:g7 X (binaryOp .Mult) (rI Kv λi j=>.int (i * j)):=U1 λ_ _ _ _ _ _ _ hc q=>mul_int q hc.ok
theorem KC:g7 X (binaryOp .Mod) (rI (λ_ j=>0<j) λi j=>.int (i % j)):=U1 λi j _ _ _ _ _ hc q=>by
 exact mod_int' ⋯ (by rw[Int.fmod_eq_emod_of_nonneg i ⋯];exact q)
theorem oq:g7 X (binaryOp .Pow) (rI Wa λi j=>.int (i ^ j.toNat)):=U1 λ_ _ _ _ _ _ _ hc q=>pow_int_small hc.1 hc.2.1 hc.2.2 q
theorem Zw{f:Value->Sem Value}{g:Int->Int}
  (rule:∀(i:Int) (t:Tok) (s:Shared) (Q:Value->Shared->Prop) (E:Value->Shared->Prop),Q (.int (g i) s.toks) { s with toks:=s.toks+1}->wpAny (~~~2) X.A (f (.int i t)) Q E s) :
  UW X f (rU λi=>.int (g i)):=by
 intro ah s Y H x v Q I rx h;obtain⟨i,rfl,q⟩:=h;obtain⟨t,rfl⟩:=rx;exact rule i t s _ _ ⟨.int (g i),H,I.tok _,⟨_,rfl⟩,q⟩
theorem sI:UW X (unaryOp .USub) (rU λi=>.int (-i)):=Zw λ_ _ _ _ _ q=>neg_int q
end
noncomputable def Wb:V->V->Bool
 |.non,.non=>true |.non,.int _=>true |.int _,.non=>true |.non,.bl _=>true |.bl _,.non=>true |.non,.str _=>true |.str _,.non=>true
 |.int _,.int _=>true |.bl _,.bl _=>true |.str _,.str _=>true |.uE _,.uE _=>true
 |.int _,.str _=>true |.str _,.int _=>true |.bl _,.str _=>true |.str _,.bl _=>true
 |_,_=>false
def Zx:R2:=λx y H Q=>Wb x y=true/\Q (.bl (decide (x=y))) H
theorem En:decide (V.int i=V.int j)=(i==j):=by rw[pE];simp
theorem KD:decide (V.bl i=V.bl j)=(i==j):=by rw[pE];simp
theorem Eo:decide (V.str i=V.str j)=(i==j):=by rw[pE];simp
theorem Ep:decide (V.uE i=V.uE j)=(i.toList==j.toList):=by rw[pE];cases i;cases j;simp
section
variable{X:Cx}{a b c:Expr}{ta tb tc:TE}{pos:Pos}
theorem bB(I: ~~~7)(q:Q (.bl k) H)(e:k=k'):EP X ah Y Q (.bool k') s:=by subst e;exact⟨.bl k,H,I,rfl,q⟩
theorem op_eq:g7 X (compareOp .Eq) Zx:=by
 intro ah s Y H x y v u Q I rx ry h;obtain⟨hs,q⟩:=h;cases x with
 |non=>
  cases rx;cases y with
  |non=>cases ry;exact PySem.EqNone.eq_none_none (bB I q ⋯)
  |bl j=>cases ry;exact PySem.EqNone.eq_none_bool (bB I q ⋯)
  |int j=>obtain⟨t',rfl⟩:=ry;exact PySem.EqNone.eq_none_int (bB I q ⋯)
  |str j=>obtain⟨t',rfl⟩:=ry;exact PySem.EqNone.eq_none_str (bB I q ⋯)
  |_=>exact absurd (show false=true from hs) mP
 |bl i=>
  cases rx;cases y with
  |non=>cases ry;exact PySem.EqNone.eq_bool_none (bB I q ⋯)
  |bl j=>cases ry;exact eq_bool (bB I q KD)
  |str j=>obtain⟨t',rfl⟩:=ry;exact PySem.EqMixed.eq_bool_str (bB I q ⋯)
  |_=>exact absurd (show false=true from hs) mP
 |int i=>
  obtain⟨t,rfl⟩:=rx;cases y with
  |non=>cases ry;exact PySem.EqNone.eq_int_none (bB I q ⋯)
  |int j=>obtain⟨t',rfl⟩:=ry;exact eq_int (bB I q En)
  |str j=>obtain⟨t',rfl⟩:=ry;exact PySem.EqMixed.eq_int_str (bB I q ⋯)
  |_=>exact absurd (show false=true from hs) mP
 |str i=>
  obtain⟨t,rfl⟩:=rx;cases y with
  |non=>cases ry;exact PySem.EqNone.eq_str_none (bB I q ⋯)
  |bl j=>cases ry;exact PySem.EqMixed.eq_str_bool (bB I q ⋯)
  |int j=>obtain⟨t',rfl⟩:=ry;exact PySem.EqMixed.eq_str_int (bB I q ⋯)
  |str j=>obtain⟨t',rfl⟩:=ry;exact eq_str (bB I q Eo)
  |_=>exact absurd (show false=true from hs) mP
 |uE i=>
  obtain⟨t,rfl⟩:=rx;cases y with
  |uE j=>obtain⟨t',rfl⟩:=ry;exact PySem.W.eq_bytes (bB I q Ep)
  |_=>exact absurd (show false=true from hs) mP
 |_=>cases y <;> exact absurd (show false=true from hs) mP
theorem Q5:g7 X (compareOp .Lt) (Dw λi j=>.bl (decide (i<j))):=Em λ_ _ _ _ _ _ _ q=>lt_int q
theorem Q6:g7 X (compareOp .LtE) (Dw λi j=>.bl (decide (i<=j))):=Em λ_ _ _ _ _ _ _ q=>le_int q
theorem Jq:g7 X (compareOp .Gt) (Dw λi j=>.bl (decide (j<i))):=Em λ_ _ _ _ _ _ _ q=>gt_int q
theorem Q7:g7 X (compareOp .GtE) (Dw λi j=>.bl (decide (j<=i))):=Em λ_ _ _ _ _ _ _ q=>ge_int q
theorem KH:g7 X (compareOp .Is) (λx y H Q=>y=.non/\Q (.bl (decide (x=.non))) H):=by
 intro ah s Y H x y v u Q I rx ry h;obtain⟨rfl,q⟩:=h;cases ry;refine is_none_gen (bB I q ?_);cases x <;> first
  | (cases rx;rfl)
  | (obtain⟨t,rfl⟩:=rx;rfl)
theorem Er:g7 X (compareOp .IsNot) (λx y H Q=>y=.non/\Q (.bl (!decide (x=.non))) H):=by
 intro ah s Y H x y v u Q I rx ry h;obtain⟨rfl,q⟩:=h;cases ry;refine isnot_none_gen (bB I q ?_);cases x <;> first
  | (cases rx;rfl)
  | (obtain⟨t,rfl⟩:=rx;rfl)
theorem ou:g7 X (compareOp .NotIn) (λx y H Q=>∃i j,x=.str i/\y=.str j/\Q (.bl (!(!(Builtin.Str.occurrences j i 0 j.length 1).isEmpty))) H):=by intro ah s Y H x y v u Q I rx ry h;obtain⟨i,j,rfl,rfl,q⟩:=h;obtain⟨t,rfl⟩:=rx;obtain⟨t',rfl⟩:=ry;exact notIn_str (bB I q rfl)
theorem ow{op:CmpOp}{r:R2}(ho:g7 X (compareOp op) r)(ha:PE X a ta)(hb:PE X b tb)(hm:behindInMarks op b=false):PE X (.Compare a [op] [b] pos) (U0 r ta tb):=by intro ah s Y H Q I h;exact wpAny_Compare1 (Ku ha hb I h λv u s2 x y H2 I2 rx ry q=>ho ah s2 Y H2 x y v u Q I2 rx ry q) hm
def Q8(t:TE):TT:=λY H Q=>t Y H λx H'=>∃k,x=.bl k/\Q k H'
theorem uM{op:CmpOp}{r:R2}(ho:g7 X (compareOp op) r)(ha:PE X a ta)(hb:PE X b tb)(hm:behindInMarks op b=false):PT X (.Compare a [op] [b] pos) (Q8 (U0 r ta tb)):=by
 intro ah s Y H Q I h;refine wpAny_isTrue_Compare1 (bG (ha ah s Y H _ I h) λv s1 ⟨x,H1,I1,r1,q1⟩=>bG (hb ah s1 Y H1 _ I1 q1) λu s2 ⟨y,H2,I2,r2,q2⟩=>
  bG (ho ah s2 Y H2 x y v u _ I2 r1 r2 q2) λc s3 ⟨z,H3,I3,r3,k,e,q3⟩=>?_) hm
 subst e;cases r3;exact mI ⟨H3,I3,q3⟩
def Q9(K:Frag)(x:V)(H:Hp)(k:Bool):Prop:=
 match x with
 |.non=>k=false
 |.bl b=>k=b
 |.int i=>k=(i != 0)
 |.str y=>y.length<=sizeLine/\k=((y.length:Int) != 0)
 |.uE y=>y.size<=sizeLine/\k=((y.size:Int) != 0)
 |.ref p=>(∃xs,bH K H p xs/\k=!xs.isEmpty)\/(∃xs,fU K H p xs/\k=!xs.isEmpty)\/∃e8,H p=some (.dK e8)/\k=!e8.isEmpty
 |_=>False
theorem sJ{κ:Type}{e8:List (κ×V)}{vs:List (κ×Value)}(r:KV e8 vs):(!vs.isEmpty)=!e8.isEmpty:=by cases r <;> rfl
theorem kF{xs:List V}{aq:List Value}(r:Vals xs aq):(!aq.toArray.isEmpty)=!xs.isEmpty:=by cases r <;> simp
theorem kG:(sizeLine:Nat)<2 ^ 63:=by rw[lS];decide
theorem KJ:V9 X (λx H Q=>∃k,Q9 X.K x H k/\Q k H):=by
 intro ah s Y H x v Q I rx h;obtain⟨k,e,q⟩:=h;have hs:=lS;cases x with
 |non=>cases rx;have e':=e;subst e';exact truthy_none ⟨H,I,q⟩
 |bl b=>cases rx;have e':=e;subst e';exact mI ⟨H,I,q⟩
 |int i=>obtain⟨t,rfl⟩:=rx;have e':=e;subst e';exact PySem.P.truthy_int ⟨H,I,q⟩
 |str y=>obtain⟨t,rfl⟩:=rx;obtain⟨hy,e'⟩:y.length<=sizeLine/\k=((y.length:Int) != 0):=e;subst e';exact PySem.P.truthy_str ⋯ ⟨H,I.tok _,q⟩
 |uE y=>obtain⟨t,rfl⟩:=rx;obtain⟨hy,e'⟩:y.size<=sizeLine/\k=((y.size:Int) != 0):=e;subst e';exact PySem.W.truthy_bytes ⋯ ⟨H,I.tok _,q⟩
 |ref p=>
  cases rx;have e':=e;rcases e' with ⟨xs,hx,e'⟩ |⟨xs,hx,e'⟩ |⟨e8,hx,e'⟩
  . subst e';obtain⟨aq,r,pl,hz⟩:=I.list hx;have aJ:=r.length;exact wpAny_truthy_list pl.isList (by simp only[b0];lia) ⟨H,I.tok _,by rw[kF r];exact q⟩
  . subst e';obtain⟨aq,r,pl,hz⟩:=I.tuple hx;have aJ:=r.length;exact truthy_tuple pl (by simp only[b0];lia) ⟨H,I.tok _,by rw[kF r];exact q⟩
  . subst e';obtain⟨hz,hS,vs,r,m⟩:e8.length<=sizeLine/\(p==sysModules)=false/\∃vs,KV e8 vs/\s.heap.DictOf (eF X.prog X.w) p vs:=I.hok p _ hx;have aJ:=Paired.length r;exact wpAny_truthy_dict hS m ⋯ ⟨H,I.tok _,by rw[sJ r];exact q⟩
 |_=>exact (show False from e).elim
theorem yN(ha:PE X a ta)(he:∀whole,isTrue a X.env whole=(do let v <- whole;standAt a.pos;holding [v] (truthy v))) :
  PT X a (λY H Q=>ta Y H λx H'=>∃k,Q9 X.K x H' k/\Q k H'):=by
 intro ah s Y H Q I h;exact isTrue_plain (bG (ha ah s Y H _ I h) (by rintro v s1 ⟨x,H1,I1,r1,q1⟩;exact KJ ah s1 Y H1 x v Q I1 r1 q1)) (he _)
theorem sL:g7 X (binaryOp .Add) (λx y H Q=>∃i j,x=.str i/\y=.str j/\i.length+j.length<=sizeLine/\Q (.str (i++j)) H):=by intro ah s Y H x y v u Q I rx ry h;obtain⟨i,j,rfl,rfl,hz,q⟩:=h;obtain⟨t,rfl⟩:=rx;obtain⟨t',rfl⟩:=ry;exact add_str (λt' tk=>⟨.str (i++j),H,I.tok _,⟨_,rfl⟩,q⟩) hz
theorem vals1(r:Vals [x] us):∃u,us=[u]/\RelV x u:=by
 cases r with
 |cons r1 r2=>cases r2;exact⟨_,rfl,r1⟩
theorem vals2(r:Vals [x,y] us):∃u w',us=[u,w']/\RelV x u/\RelV y w':=by
 cases r with
 |cons r1 r2=>
  cases r2 with
  |cons r3 r4=>cases r4;exact⟨_,_,rfl,r1,r3⟩
theorem wj(hc:X.calm=true):cL X (.builtin "max") (λxs H Q=>∃i j,xs=[.int i,.int j]/\Q (.int (if j > i then j else i)) H):=by
 intro ah s Y H xs us Q I r h;obtain⟨i,j,rfl,q⟩:=h;obtain⟨u,w',rfl,⟨t,rfl⟩,⟨t',rfl⟩⟩:=vals2 r;refine max_two_ints (I.ok.hd hc) λh' tk k=>⟨_,H,I.kept k,?_,q⟩
 by_cases hj:j > i
 . rw[eR hj,eR hj];exact⟨_,rfl⟩
 . rw[fI hj,fI hj];exact⟨_,rfl⟩
theorem wm(hc:X.calm=true):cL X (.builtin "min") (λxs H Q=>∃i j,xs=[.int i,.int j]/\Q (.int (if j<i then j else i)) H):=by
 intro ah s Y H xs us Q I r h;obtain⟨i,j,rfl,q⟩:=h;obtain⟨u,w',rfl,⟨t,rfl⟩,⟨t',rfl⟩⟩:=vals2 r;refine min_two_ints (I.ok.hd hc) λh' tk k=>⟨_,H,I.kept k,?_,q⟩
 by_cases hj:j<i
 . rw[eR hj,eR hj];exact⟨_,rfl⟩
 . rw[fI hj,fI hj];exact⟨_,rfl⟩
def Wc(K:Frag)(x:V)(H:Hp)(n:Nat):Prop:=
 match x with
 |.str y=>y.length<=sizeLine/\n=y.length
 |.uE y=>y.size<=sizeLine/\n=y.size
 |.ref p=>(∃xs,bH K H p xs/\n=xs.length)\/∃xs,fU K H p xs/\n=xs.length
 |_=>False
theorem g8:cL X (.builtin "len") (λxs H Q=>∃x n,xs=[x]/\Wc X.K x H n/\Q (.int n) H):=by
 intro ah s Y H xs us Q I r h;obtain⟨x,n,rfl,e,q⟩:=h;obtain⟨u,rfl,rx⟩:=vals1 r;have hs:=lS;cases x with
 |str y=>obtain⟨t,rfl⟩:=rx;obtain⟨hy,e'⟩:y.length<=sizeLine/\n=y.length:=e;subst e';exact len_str ⋯ ⟨.int _,H,I.tok _,⟨_,rfl⟩,q⟩
 |uE y=>obtain⟨t,rfl⟩:=rx;obtain⟨hy,e'⟩:y.size<=sizeLine/\n=y.size:=e;subst e';exact PySem.W.len_bytes ⋯ ⟨.int _,H,I.tok _,⟨_,rfl⟩,q⟩
 |ref p=>
  cases rx;have e':=e;rcases e' with ⟨xs,hx,e'⟩ |⟨xs,hx,e'⟩
  . subst e';obtain⟨aq,r',pl,hz⟩:=I.list hx;have aJ:=r'.length;exact Calls.call_len_list pl.isList (by simp only[b0];lia) ⟨.int xs.length,H,I.tok _,⟨_,by simp only[b0];rw[aJ]⟩,q⟩
  . subst e';obtain⟨aq,r',pl,hz⟩:=I.tuple hx;have aJ:=r'.length;exact len_tuple pl (by simp only[b0];lia) ⟨.int xs.length,H,I.tok _,⟨_,by simp only[b0];rw[aJ]⟩,q⟩
 |_=>exact (show False from e).elim
end
structure eW(k:Nat)(A:Around):Prop where
 hd:A.handled=none
 dp:A.depth+3 * k+5<recursionLimit
 un:A.units+16 * k+200<cLine
theorem eW.deeper(r:eW (k+1) A)(env:Env):eW k (A.deeper env):=
 ⟨r.hd,by have:=r.dp;show A.depth+1+3 * k+5<_;lia,by have:=r.un;show A.units+3+16 * k+200<_;lia⟩
theorem eW.depth(r:eW k A):A.depth<recursionLimit:=by have:=r.dp;lia
theorem eW.units(r:eW k A):A.units+64<cLine:=by have:=r.un;lia
def Wd:TA:=λ_ H Q=>Q [] H
noncomputable def Ra(ta:TE)(tr:TA):TA:=λY H Q=>ta Y H λx H1=>tr Y H1 λxs H2=>Q (x::xs) H2
section
variable{X:Cx}{e:Expr}{es:List Expr}{te:TE}{t:TA}{pos:Pos}
theorem bZ:PA X [] Wd:=λ_ _ _ _ H Q I h=>Calls.spliced_nil ⟨[],H,I,.nil,h⟩
theorem bD(ha:PE X e te)(hr:PA X es t)(hs:starEach (e::es) X.env=(false,eval e X.env)::starEach es X.env:=by rfl):PA X (e::es) (Ra te t):=by intro pos ah s Y H Q I h;rw[hs];refine Calls.spliced_cons (bG (ha ah s Y H _ I h) ?_);rintro u s1 ⟨x,H1,I1,r1,q1⟩;exact bG (hr pos ah s1 Y H1 _ I1 q1) (by rintro us s2 ⟨xs,H2,I2,r2,q2⟩;exact⟨x::xs,H2,I2,.cons r1 r2,q2⟩)
def Wf(t:TA):TE:=λY H Q=>t Y H λxs H1=>xs.length<=sizeLine/\∀p,H1 p=none->Q (.ref p) (upd H1 p (.tup xs))
def Wg(t:TA):TE:=λY H Q=>t Y H λxs H1=>xs.length<=sizeLine/\∀p,H1 p=none->Q (.ref p) (upd H1 p (.lst xs))
theorem yO{x1}(h:PA X es t):PE X (.Tuple es x1 pos) (Wf t):=by
 intro ah s Y H Q I hq;refine wpAny_Tuple_spliced (bG (h pos ah s Y H _ I hq) λus s1 ⟨xs,H1,I1,r,z,q⟩=>⟨by rw[<- r.length];exact z,?_⟩)
 have hf:=I1.hok.fresh (dC _);refine⟨.ref s1⁻¹,upd H1 s1⁻¹ (.tup xs),I1.laid (λb u e=>a9 _ e) (dC _) ?_,rfl,q _ hf⟩
 exact⟨z,us,r,⟨_,d0 _ rfl,⟨rfl,_,rfl⟩,rfl⟩⟩
theorem oz(h:PA X es t):PE X (.List es pos) (Wg t):=by
 intro ah s Y H Q I hq;refine wpAny_List_spliced (bG (h pos ah s Y H _ I hq) λus s1 ⟨xs,H1,I1,r,z,q⟩=>⟨by rw[<- r.length];exact z,?_⟩)
 have hf:=I1.hok.fresh (dC _);refine⟨.ref s1⁻¹,upd H1 s1⁻¹ (.lst xs),I1.laid (λb u e=>a9 _ e) (dC _) ?_,rfl,q _ hf⟩
 exact⟨z,us,0,r,d0 _ rfl⟩
end
abbrev Sp:=List V->Hp->VK->XK->Prop
abbrev yP:=List Env->Hp->Shared->XK->Value->Shared->Prop
structure Es(P:Program)(w:World)(K:Frag)(mg:Str->Option Value)(base:Heap)(A:Around)(outer:List Env)(s:Shared)(H:Hp):Prop where
 frames:A.frames=some outer
 mod:Mod K mg base
 bs:∀b o,base.get? b=some o->s.heap.get? b=some o/\H b=none
 Ei:base.objs.size<=s⁻¹
 jH:s.heap.FunFrames base outer
 J7:∀b∈frs outer,H b=none
 hok:kC P w H s.heap
 bare:AllBare s.gens
def CE(outer:List Env)(P:Program)(w:World)(H:Hp)(s:Shared)(Q:VK)(u:Value)(s':Shared):Prop:=
 ∃v H',s'.os=s.os/\AllBare s'.gens/\Un (frs outer) [] H H' s.heap s'.heap/\kC P w H' s'.heap/\RelV v u/\Q v H'
def CR(CX:yP)(outer:List Env)(P:Program)(w:World)(H:Hp)(s:Shared)(Q:VK)(E:XK)(r:Result)(s':Shared):Prop:=
 match r with
 |.ok (.ret u)=>CE outer P w H s Q u s'
 |.ok _=>False
 |.error e=>CX outer H s E e s'
structure lZ(P:Program)(w:World)(K:Frag)(mg:Str->Option Value)(base:Heap)(CX:yP)(k:Nat)(f:Addr)(fd:FuncData)(ps:List Str)(sp:Sp):Prop where
 len:∀vs H Q E,sp vs H Q E->vs.length=ps.length
 run:∀(A:Around) (outer:List Env) (s:Shared) (H:Hp) (args:Args) (us:List Value) (vs:List V) (Q:VK) (E:XK),eW k A->Es P w K mg base A outer s H->BindsTo s fd args (ps.zip us)->Vals vs us->sp vs H Q E->
  codeAny (model P w) A (.call (.ref f) args) (CR CX outer P w H s Q E) s
section
variable{X:Cx}{ah: ~~~1}{Y:St}{H:Hp}{s s':Shared}
theorem Inv.Wh(I: ~~~7):Es X.prog X.w X.K X.mg X.base X.A X.stack s H:=
 ⟨I.ok.frames,I.ok.mod,I.bs,hU I.ok.Ei I.sz,I.stack,I.uF,I.hok,I.bare⟩
theorem Inv.after(I: ~~~7)(h:CE X.stack X.prog X.w H s Q u s'):EP X ah Y Q u s':=by obtain⟨v,H',os,bare,un,hok,r,q⟩:=h;obtain⟨hh,g,d,t,os'⟩:=s';obtain rfl:os'=s.os:=os;exact⟨v,H',I.call un hok bare (λb z=>absurd z ⋯),r,q⟩
end
noncomputable def Rb(sp:Sp)(jI:List V)(E:XK)(t:TA):TE:=λY H Q=>t Y H λvs H1=>sp (vs++jI) H1 Q E
def Binds(K:Frag)(fd:FuncData)(ps:List Str)(ds:List Value):Prop:=
 ∀(s:Shared) (us:List Value),K.In s.heap->(us++ds).length=ps.length->BindsTo s fd ⟨us,[]⟩ (ps.zip (us++ds))
theorem Binds.all{K:Frag}{fd:FuncData}{ps:List Str}(h:∀us:List Value,us.length=ps.length->bindArgs fd ⟨us,[]⟩=pure (ps.zip us)):Binds K fd ps []:=λs us _ hl=>by
 rw[nN]at hl ⊢
 exact .of_eq (h us hl)
def Passes(CX:yP)(X:Cx)(E:XK):Prop:=∀(ah: ~~~1) (Y:St) (H:Hp) (s:Shared) (e:Value) (s':Shared),Inv X ah Y H s->CX X.stack H s E e s'->X.xe e s'
section
variable{X:Cx}{CX:yP}{k:Nat}{f C:Addr}{fd:FuncData}{ps:List Str}{sp:Sp}{jI:List V}{ds:List Value}{E:XK}{x m:Str}{p pos iP:Pos}{e o:Expr}{es:List Expr}{ta:TE}{t:TA}
theorem KN{ah: ~~~1}{Y:St}{H:Hp}{s:Shared}{Q:VK}{us:List Value}{vs:List V}(F:lZ X.prog X.w X.K X.mg X.base CX k f fd ps sp)(hr:eW k X.A)(hb:Binds X.K fd ps ds)(hd:Vals jI ds)(hx:Passes CX X E)
  (I: ~~~7) (r:Vals vs us) (h:sp (vs++jI) H Q E):wpAny (~~~2) X.A (call (.ref f) us) (EP X ah Y Q) X.xe s:=by
 have r2:=r.append hd;have hl:(us++ds).length=ps.length:=by rw[<- r2.length];exact F.len _ _ _ _ h
 refine wpAny_call (codeAny_mono (F.run X.A X.stack s H ⟨us,[]⟩ (us++ds) (vs++jI) Q E hr I.Wh (hb s us I.qe hl) r2 h) λr s' hq=>?_)
 cases r with
 |error e=>exact hx ah Y H s e s' I hq
 |ok fl=>
  cases fl with
  |ret u=>exact I.after hq
  |next=>exact False.elim hq
  |brk=>exact False.elim hq
  |cont=>exact False.elim hq
theorem Et(F:lZ X.prog X.w X.K X.mg X.base CX k f fd ps sp)(hr:eW k X.A)(hg:Gl X x)(hm:X.mg x=some (.ref f))(hk:PySem.W.keepIn X.K (.ref f)=true)(hb:Binds X.K fd ps ds)(hd:Vals jI ds)(hx:Passes CX X E)
  (ha:PA X (e::es) t) (vV:(x==(~~~3))=false:=by decide) (he:starEach (e::es) X.env=(false,eval e X.env)::starEach es X.env:=by rfl) (su:(backTo pos (starEach es X.env)).any (·.1)=false:=by rfl) :
  PE X (.Call (.Name x p) (e::es) [] pos) (Rb sp jI E t):=by
 intro ah s Y H Q I h;refine wpAny_Call_Name_kw (uH I hg hm ?_ vV);refine PySem.W.callWith_K I.ok.mod.Uz hk (bG (ha pos ah s Y H _ I h) λus s1 ⟨vs,H1,I1,r,q⟩=>⟨I1.qe,?_⟩) he su
 exact KN F hr hb hd hx I1 r q
end
structure dg(N P:List Str)(sc:Scope):Prop where
 kind:sc.kind=.function
 co:sc.isCoroutine=false
 gen:sc.isGenerator=false
 nd:N.Nodup
 pre:N.take P.length=P
 par:∀x∈P,sc.names.lookup x=some .local\/sc.names.lookup x=some .cell
 KQ:∀y∈sc.names,y.2≠.free
theorem mK{kindOf:Str->Option NameKind}{x:Str}:∀{binds:List (Str×Value)}{m:Str->Option Value},(∀v,(x,v)∉binds)->bindL kindOf binds m x=m x
 | [],_,_=>rfl
 | (n,v)::r,m,h=>by
  unfold bindL;rw[mK λw hw=>h w (a8 _ hw)]
  split
  .
   have:x≠n:=by rintro rfl;exact h v bP
   simp[this]
  . rfl
theorem mL{kindOf:Str->Option NameKind}{x:Str}:∀{binds:List (Str×Value)}{m:Str->Option Value},(∀v,(x,v)∉binds)->bindC kindOf binds m x=m x
 | [],_,_=>rfl
 | (n,v)::r,m,h=>by
  unfold bindC;rw[mL λw hw=>h w (a8 _ hw)]
  split
  . rfl
  .
   have:x≠n:=by rintro rfl;exact h v bP
   simp[this]
theorem mO{kindOf:Str->Option NameKind}{x:Str}{v:Value}:∀{P:List Str}{vs:List Value}{i:Nat}{m:Str->Option Value},P.Nodup->P[i]?=some x->vs[i]?=some v->kindOf x=some .local->
  bindL kindOf (P.zip vs) m x=some v
 | [],_,_,_,_,h,_,_=>by simp at h
 |_::_,[],_,_,_,_,h,_=>by simp at h
 |p::P,w::vs,0,m,nd,h1,h2,hk=>by
  simp at h1 h2;subst h1;subst h2;show bindL kindOf ((p,w)::P.zip vs) m p=_;unfold bindL;rw[mK λv hv=>(d6.mp nd).1 (List.of_mem_zip hv).1,eR hk]
  simp
 |p::P,w::vs,i+1,m,nd,h1,h2,hk=>by
  unfold bindL;exact mO (d6.mp nd).2 (by simpa using h1) (by simpa using h2) hk
theorem mQ{kindOf:Str->Option NameKind}{x:Str}{v:Value}:∀{P:List Str}{vs:List Value}{i:Nat}{m:Str->Option Value},P.Nodup->P[i]?=some x->vs[i]?=some v->kindOf x≠some .local->
  bindC kindOf (P.zip vs) m x=some v
 | [],_,_,_,_,h,_,_=>by simp at h
 |_::_,[],_,_,_,_,h,_=>by simp at h
 |p::P,w::vs,0,m,nd,h1,h2,hk=>by
  simp at h1 h2;subst h1;subst h2;show bindC kindOf ((p,w)::P.zip vs) m p=_;unfold bindC;rw[mL λv hv=>(d6.mp nd).1 (List.of_mem_zip hv).1,fI hk]
  simp
 |p::P,w::vs,i+1,m,nd,h1,h2,hk=>by
  unfold bindC;exact mQ (d6.mp nd).2 (by simpa using h1) (by simpa using h2) hk
noncomputable def start(N:List Str)(vs:List V):St:=vs.map some++List.replicate (N.length - vs.length) none
noncomputable def ql(CX:yP)(P:Program)(w:World)(K:Frag)(mg:Str->Option Value)(base:Heap)(N:List Str)(qual:Str)(scope:Scope)(f:Addr)(cd:Value)(A:Around)(outer:List Env)(s:Shared)(H:Hp)(E:XK):Cx where
 prog:=P
 w:=w
 K:=K
 mg:=mg
 base:=base
 A:=A.deeper (envOfC qual scope s⁻¹ f cd)
 N:=N
 s₀:=s
 H₀:=H
 env:=envOfC qual scope s⁻¹ f cd
 outer:=outer
 stack:=envOfC qual scope s⁻¹ f cd::outer
 ex:=[]
 calm:=true
 fn:=λ_=>true
 pn:=[]
 xe:=λe s'=>wpAny (model P w) (A.deeper (envOfC qual scope s⁻¹ f cd)) (leaving (envOfC qual scope s⁻¹ f cd) e) (λ_ s''=>CX outer H s E e s'') (λe' s''=>CX outer H s E e' s'') s'
theorem qm{sc:Scope}{n:Nat}{x:Str}(h:sc.names.lookup x=some .cell):∃c,(cellsFrom n sc.names []).lookup x=some c:=by have q:=PySem.W.cellsFrom_some sc.names n [] (.inl h);exact Option.isSome_iff_exists.mp q
theorem wu{CX:yP}{P:Program}{w:World}{K:Frag}{mg:Str->Option Value}{base:Heap}{N ps:List Str}{qual:Str}{scope:Scope}{f:Addr}{cd:Value}{A:Around}{outer:List Env}{s s1:Shared}{H:Hp}{E:XK}{us:List Value}{vs:List V}
  (S:dg N ps scope) (hd:A.handled=none) (e0:Es P w K mg base A outer s H) (hl:vs.length=ps.length) (r:Vals vs us)
  (x:InCallC s s⁻¹ (bindL (envOfC qual scope s⁻¹ f cd).kindOf (ps.zip us) λ_=>none) (cellsFrom (s⁻¹+1) scope.names []) (bindC (envOfC qual scope s⁻¹ f cd).kindOf (ps.zip us) λ_=>none) s1) :
  Inv (ql CX P w K mg base N qual scope f cd A outer s H E) [] (start N vs) H s1:=by
 have su:ps.length<=N.length:=by have:=congrArg List.length S.pre;rw[u4]at this;lia
 obtain⟨h1,tk,rfl,hk⟩:=x.done;have Rc:∀b:Addr,b∉(ql CX P w K mg base N qual scope f cd A outer s H E).ex:=λb z=>absurd (show b∈([]:List Addr)from z) ⋯
 refine⟨⟨e0.mod,S.kind,rfl,rfl,dC _,λy z c h1 h2=>?_,λy hy=>?_,λy c _ h=>?_,λ_=>hd,Around.frames_deeper e0.frames,.inr ⟨rfl,rfl⟩,λb z=>absurd z (Rc b),e0.bs,e0.Ei,λb _ _=>Rc b,λb z=>absurd z (Rc b),e0.jH,e0.J7⟩,
  rfl,e0.bare,Un.kept hk,⟨_,x.toInCall.ns,λi y v h1 h2 h3=>?_⟩,λy c h=>⟨_,x.cell y c h⟩,e0.hok.fresh (dC _),λy c h=>?_,λp hp=>absurd (show p∈([]: ~~~1)from hp) ⋯,e0.hok.kept hk,?_⟩
 . exact name_of_addr x.apart (w9 h1) (w9 h2)
 .
  have hy:=hy;rcases hy with hy |hy
  . exact qm hy
  . exact absurd rfl (S.KQ _ (w9 hy))
 . exact Nat.le_of_lt (x.above y c (w9 h))
 .
  have hi:i<vs.length:=by
   unfold start at h2;by_cases hi:i<vs.length
   . exact hi
   .
    rw[eD (by simpa using hi)]at h2
    rw[List.getElem?_replicate]at h2;split at h2 <;> cases h2
  have ha:vs[i]?=some v:=by
   unfold start at h2;rw[eA (by simpa using hi),sT]at h2
   cases e:vs[i]? with
   |none=>rw[e]at h2;cases h2
   |some a=>rw[e]at h2;cases h2;rfl
  obtain⟨u,hu,rv⟩:=r.get ha;have hp:ps[i]?=some y:=by rw[<- S.pre,wS ⋯];exact h1
  have Yi:ps.Nodup:=by rw[<- S.pre];exact S.nd.sublist (List.take_sublist _ _)
  refine⟨u,rv,?_⟩;rcases S.par y (rV hp)with k |k
  . exact .inl ⟨k,mO Yi hp hu k⟩
  .
   obtain⟨c,e⟩:=qm k;refine .inr ⟨.inl k,c,e,?_⟩;have q:=x.cell y c e;rw[mQ Yi hp hu (by show scope.names.lookup y≠_;rw[k];decide)]at q
   exact q
 . exact e0.hok.fresh (Nat.le_of_lt (x.above y c (w9 h)))
 . unfold start;show _=N.length;rw[hZ,eC,kA];lia
theorem Rf{CX:yP}{P:Program}{w:World}{K:Frag}{mg:Str->Option Value}{base:Heap}{k:Nat}{f:Addr}{name qual:Str}{params:Arguments}{body:List Stmt}{scope:Scope}{dV kV doc pm dz ct oc:Value}{an od:Option Addr}
  {osl:Array (Option Value)}{N ps:List Str}{sp:Sp} (lk:K.lookup f=some ⟨oc,od,.func (PySem.W.fnOf name qual params body scope dV kV doc pm an dz ct),osl⟩) (bY:PySem.W.codeIn K dz qual=true) (S:dg N ps scope)
  (len:∀vs H Q E,sp vs H Q E->vs.length=ps.length)
  (hbody:∀(A:Around) (outer:List Env) (s:Shared) (H:Hp) (vs:List V) (Q:VK) (E:XK),eW k (A.deeper (envOfC qual scope s⁻¹ f dz))->sp vs H Q E->
   ∃t,n6 (ql CX P w K mg base N qual scope f dz A outer s H E) body t/\t { nx:=λ_ H'=>Q .non H',rt:=Q} (start N vs) H) :
  lZ P w K mg base CX (k+1) f (PySem.W.fnOf name qual params body scope dV kV doc pm an dz ct) ps sp:=by
 refine⟨len,λA outer s H args us vs Q E hr e0 hb r P4=>?_⟩
 have hl:=len _ _ _ _ P4;have KX:=e0.mod.Uz.keeps λb o e=>(e0.bs b o e).1
 have lim:=e0.mod.nolimit.keeps λb o e=>(e0.bs b o e).1
 have hkind:∀y∈ps.zip us,scope.names.lookup y.1=some .local\/(scope.names.lookup y.1=some .cell/\((cellsFrom (s⁻¹+1) scope.names []).lookup y.1).isSome=true):=by
  rintro⟨n,v⟩ hy;rcases S.par n (List.of_mem_zip hy).1 with q |q
  . exact .inl q
  . exact .inr ⟨q,PySem.W.cellsFrom_some _ _ _ (.inl q)⟩
 refine codeAny_call_function hr.depth (KX _ _ lk) rfl S.co S.gen rfl (PySem.W.codeRec_of KX bY) (hb _ _ _ _ ?_);refine wpAny_newFunctionEnv_cells S.kind hkind λenv he s1 x=>?_
 subst he;refine⟨lim.keeps x.toInCall.keep,codeAny_func ?_⟩;obtain⟨t,ht,hq⟩:=hbody A outer s H vs Q E (hr.deeper _) P4;have I:Inv (ql CX P w K mg base N qual scope f dz A outer s H E) [] (start N vs) H s1:=wu S hr.hd e0 hl r x;refine oQ (ht [] s1 (start N vs) H _ I hq) (λfl s' hs=>?_) λe s' hs=>hs
 have fin:∀{σ':St}{H':Hp}{v:V}{u:Value},Inv (ql CX P w K mg base N qual scope f dz A outer s H E) [] σ' H' s'->RelV v u->Q v H'->CE outer P w H s Q u s':=
  λ{σ' H' v u} J rv q=>⟨v,H',J.os,J.bare,J.base,J.hok,rv,q⟩
 cases fl with
 |ret u=>obtain⟨v,σ',H',J,rv,q⟩:=hs;exact fin J rv q
 |next=>obtain⟨σ',H',J,q⟩:=hs;exact fin (v:=V.non) J rfl q
 |brk=>obtain⟨_,_,_,q⟩:=hs;exact False.elim q
 |cont=>obtain⟨_,_,_,q⟩:=hs;exact False.elim q
section
variable{X:Cx}{x:Str}{p pos:Pos}{e:Expr}{es:List Expr}{t:TA}{id T:String}{r:List V->Hp->VK->Prop}
noncomputable def Yj(r:List V->Hp->VK->Prop)(t:TA):TE:=λY H Q=>t Y H λvs H1=>r vs H1 Q
theorem dM(hc:cL X (.builtin id) r)(hg:Gl X x)(hm:X.mg x=none)(hv:bootBuiltins x=some (.builtin id))(ha:PA X (e::es) t)(hn:x≠ "__name__" :=by decide)(vV:(x==(~~~3))=false:=by decide)
  (he:starEach (e::es) X.env=(false,eval e X.env)::starEach es X.env:=by rfl) (su:(backTo pos (starEach es X.env)).any (·.1)=false:=by rfl):PE X (.Call (.Name x p) (e::es) [] pos) (Yj r t):=by
 intro ah s Y H Q I h;refine wpAny_Call_Name_kw (fc I hg hm hv ?_ hn vV);exact PyProof.Rows.callWith_builtin1 (bG (ha pos ah s Y H _ I h) (by rintro us s1 ⟨vs,H1,I1,r1,q1⟩;exact hc ah s1 Y H1 vs us Q I1 r1 q1)) he su
theorem wz(hc:cL X (.type T) r)(hg:Gl X x)(hm:X.mg x=none)(hv:bootBuiltins x=some (.type T))(ha:PA X (e::es) t)(hn:x≠ "__name__" :=by decide)(vV:(x==(~~~3))=false:=by decide)
  (he:starEach (e::es) X.env=(false,eval e X.env)::starEach es X.env:=by rfl) (su:(backTo pos (starEach es X.env)).any (·.1)=false:=by rfl):PE X (.Call (.Name x p) (e::es) [] pos) (Yj r t):=by
 intro ah s Y H Q I h;refine wpAny_Call_Name_kw (fc I hg hm hv ?_ hn vV);exact nK (bG (ha pos ah s Y H _ I h) λus s1 ⟨vs,H1,I1,r1,q1⟩=>hc ah s1 Y H1 vs us Q I1 r1 q1) he su
end
end L2
namespace HT
open PySem PyProof.Rows
noncomputable def lexLt: ~~~0->~~~0->Bool
 | [],[]=>false
 | [],_::_=>true
 |_::_,[]=>false
 |x::xs,y::ys=>if x=y then lexLt xs ys else decide (x<y)
theorem cS(x y:Int)(xs ys: ~~~0):lexLt (x::xs) (y::ys)=if x=y then lexLt xs ys else decide (x<y):=rfl
section
open PySem.SeqAt
open PySem.AutoSeq1 (wpAny_loadPart')
open PySem.MeetsSeq PySem.MeetsSeq2 PySem.MeetsSeq3
end
section
variable{prog:Program}{w:World}{A:Around}{E:Value->Shared->Prop}{s:Shared}
theorem Eu(ht:IsTup s.heap t vs.toArray)(hb:IsTup s.heap b ws.toArray)(hv:vs≠[])
  (h1:ws=[]->Q (.ref t) s) (h2:ws≠[]->Q (.ref s⁻¹) { s with heap:=s.heap.push { cls:=.type "tuple",data:=.seq (vs++ws).toArray}})
  (uC:vs.length+ws.length<=sizeLine):wpAny (model prog w) A (binaryOp .Add (.ref t) (.ref b)) Q E s:=by
 obtain⟨⟨cls,dd,data,sl⟩,ho,hc,n,hd⟩:=id ht;obtain⟨⟨Wi,dd2,data2,sl2⟩,ho2,hc2,n2,hd2⟩:=id hb;subst hc hd hc2 hd2;have e:vs.toArray++ws.toArray=(vs++ws).toArray:=by simp
 by_cases hw:ws=[]
 .
  exact concat_meets ⟨_,ho,rfl⟩ ⟨_,ho2,rfl⟩ noFill_tuple_add seq_tuple_add AQ AJ (AG _ _)
   (tuple_addW1 t b vs.toArray ws.toArray n n2 dd dd2 sl sl2 (by simpa using hv) (by simp[hw])) ⟨ho,ho2,h1 hw⟩
 .
  refine concat_meets ⟨_,ho,rfl⟩ ⟨_,ho2,rfl⟩ noFill_tuple_add seq_tuple_add AQ AJ (AG _ _)
   (tuple_addW2 t b vs.toArray ws.toArray n n2 dd dd2 sl sl2 (by simpa using hv) (by simpa using hw) (by rw[b0];exact uC)) ⟨ho,ho2,?_⟩
  rw[e];exact h2 hw
noncomputable def bA(n d:Nat):Option Int->Nat
 |none=>d
 |some v=>if v<0 then (v+(n:Int)).toNat else min v.toNat n
theorem Ew(n d k:Nat):bA n d (some (k:Int))=min k n:=by
 show (if (k:Int)<0 then ((k:Int)+(n:Int)).toNat else min (k:Int).toNat n)=min k n
 rw[fI ⋯,wT]
theorem uN(v:Int)(n d:Nat):(if v<0 then max (v+(n:Int)) 0 else min v (n:Int))=((bA n d (some v):Nat):Int):=by
 show (if v<0 then max (v+(n:Int)) 0 else min v (n:Int))=(((if v<0 then (v+(n:Int)).toNat else min v.toNat n):Nat):Int)
 by_cases hv:v<0
 . simp only[eR hv];lia
 . simp only[fI hv];lia
theorem sM(lo hi:Option Int)(n:Nat):Builtin.Slice.sliceAdjust lo hi 1 (n:Int)=(((bA n 0 lo:Nat):Int),((bA n n hi:Nat):Int)):=by
 have h1 : ¬ ((1:Int)<0):=by lia
 unfold Builtin.Slice.sliceAdjust;refine Prod.ext ?_ ?_
 .
  cases lo with
  |none=>rfl
  |some v=>exact uN v n 0
 .
  cases hi with
  |none=>rfl
  |some v=>exact uN v n n
theorem sN(i j:Nat):Builtin.Slice.slicePlaces (i:Int) (j:Int) 1=j - i:=by
 unfold Builtin.Slice.slicePlaces;have h1:(1:Int) > 0:=by lia
 split <;> lia
theorem gA(p:IsPart v o)(h:Q o s):wpAny (model prog w) A (Builtin.Slice.slicePartIndex v) Q E s:=by
 cases p with
 |none=>exact slicePart_none h
 |int i t=>exact slicePart_int h
theorem dN{sl:Addr}{vl vu:Value}{lo hi:Option Int}{n:Nat}{Q:Int×Int×Nat->Shared->Prop}(hs:s.heap.IsSliceOf sl vl vu .none)(pl:IsPart vl lo)(pu:IsPart vu hi)
  (h:Q (((bA n 0 lo:Nat):Int),1,bA n n hi - bA n 0 lo) s):wpAny (model prog w) A (Builtin.Slice.sliceApplied (.ref sl) (pure (n:Int))) Q E s:=by
 obtain⟨os,hos,hcs,hds⟩:=id hs;refine aS (aS (nS hos hds rfl (aS (nS hos hds rfl (aS (nS hos hds rfl (c8 ?_)))))));refine aS (slicePart_none ?_);refine aS (gA pl (aS (gA pu (aS (c8 ?_)))));show wpAny _ _ (match Builtin.Slice.sliceAdjust lo hi 1 (n:Int)with | (lo,hi)=>pure (lo,(1:Int),Builtin.Slice.slicePlaces lo hi 1)) _ _ s
 rw[sM lo hi n];show wpAny _ _ (pure (((bA n 0 lo:Nat):Int),(1:Int),Builtin.Slice.slicePlaces ((bA n 0 lo:Nat):Int) ((bA n n hi:Nat):Int) 1)) _ _ s;rw[sN];exact c8 h
theorem yQ(xs:Array Value)(i k:Nat):((List.range k).filterMap λ(m:Nat)=>xs[((i:Int)+(m:Int) * 1).toNat]?).toArray=((xs.toList.drop i).take k).toArray:=by
 have e:(λ(m:Nat)=>xs[((i:Int)+(m:Int) * 1).toNat]?)=λm=>xs[i+m]?:=by
  funext m
  have:((i:Int)+(m:Int) * 1).toNat=i+m:=by lia
  rw[this]
 rw[e];have:=pick_run xs i k;rw[List.filterMap_map]at this;have e2:((λx=>xs[x]?) ∘ λx=>i+x)=λm=>xs[i+m]?:=rfl
 rw[e2]at this;rw[this]
theorem g9{t sl:Addr}{items:Array Value}{vl vu:Value}{lo hi:Option Int}{Q:Value->Shared->Prop}(ht:IsTup s.heap t items)(hs:s.heap.IsSliceOf sl vl vu .none)(pl:IsPart vl lo)(pu:IsPart vu hi)
  (hw : ¬ (bA items.size 0 lo=0/\bA items.size items.size hi=items.size))
  (h:Q (.ref s⁻¹) { s with heap:=s.heap.push { cls:=.type "tuple",data:=.seq ((items.toList.drop (bA items.size 0 lo)).take (bA items.size items.size hi - bA items.size 0 lo)).toArray}})
  (uC:items.size<=sizeLine):wpAny (model prog w) A (getItem (.ref t) (.ref sl)) Q E s:=by
 have ie:sizeOk (.seq ((items.toList.drop (bA items.size 0 lo)).take (bA items.size items.size hi - bA items.size 0 lo)).toArray):=by show ((items.toList.drop (bA items.size 0 lo)).take (bA items.size items.size hi - bA items.size 0 lo)).toArray.size<=sizeLine;rw[b0,u4,AD,nE];lia
 obtain⟨os,hos,hcs,hds⟩:=id hs;have Rg:s.TypeIs (.ref sl) "slice" :=⟨os,hos,hcs⟩;unfold getItem
 try with_reducible refine i9 ?_
 first |refine aS (c8 ?_) |skip
 refine aS (wpAny_sequenceKey ht.typeIs ⋯ ?_);refine aS (oC ht.typeIs mB
  (sB mB ht.typeIs entry_tuple_getitem ?_ (args_tuple_getitem _ _)))
 show wpAny _ _ (Builtin.Tuple.tupleItemsOf (.ref t) >>= _) _ _ s;refine aS (tupleItemsOf_ ht ?_);refine aS (BM Rg ?_);refine aS (dN hs pl pu ?_);have hno : ¬ ((((bA items.size 0 lo:Nat):Int)==0&&(1:Int)==1&&(bA items.size items.size hi - bA items.size 0 lo)==items.size)=true):=by intro q;rw[eM,eM]at q;exact hw ⟨by lia,by lia⟩
 show wpAny _ _ (if (((bA items.size 0 lo:Nat):Int)==0&&(1:Int)==1&&(bA items.size items.size hi - bA items.size 0 lo)==items.size)=true then _ else _) _ _ s
 rw[fI hno,yQ]
 first
  |exact aS (lL (c8 ⟨_,rfl,c8 h⟩) ie)
  |exact aS (lL (aS (c8 (c8 ⟨_,rfl,c8 h⟩))) ie)
  |exact aS (aS (lL (c8 (c8 ⟨_,rfl,c8 h⟩)) ie))
  |exact aS (aS (lL (c8 ⟨_,rfl,c8 h⟩) ie))
end
end HT
namespace L2
abbrev TO:=St->Hp->(Option Int->Hp->Prop)->Prop
def PO(X:Cx)(e:Option Expr)(t:TO):Prop:=
 ∀(ah: ~~~1) (s:Shared) (Y:St) (H:Hp) (Q:Option Int->Hp->Prop),Inv X ah Y H s->t Y H Q->
  wpAny (~~~2) X.A (evalPart e X.env) (λu s'=>∃o H',Inv X ah Y H' s'/\IsPart u o/\Q o H') X.xe s
def Ey:TO:=λ_ H Q=>Q none H
def Rh(t:TE):TO:=λY H Q=>t Y H λx H1=>∃i,x=.int i/\Q (some i) H1
theorem intsAre_of:∀{us:List Value},Vals (ns.map V.int) us->IntsAre us ns:=by
 induction ns with
 |nil=>intro us r;rw[List.map_nil]at r;cases r;exact .nil
 |cons n ns ih=>
  intro us r;cases r with
  |cons r1 r2=>obtain⟨t,e⟩:=r1;subst e;exact .cons n t (ih r2)
section
variable{X:Cx}{e:Expr}{te:TE}{lo hi:Option Expr}{tl th:TO}{pos p2:Pos}
theorem Ez:PO X none Ey:=by intro ah s Y H Q I h;exact c8 ⟨none,H,I,.none,h⟩
theorem EY(h:PE X e te):PO X (some e) (Rh te):=by intro ah s Y H Q I hw;refine bG (h ah s Y H _ I hw) ?_;rintro u s1 ⟨x,H1,I1,r1,q1⟩;obtain⟨i,rfl,q⟩:=q1;obtain⟨t,rfl⟩:=r1;exact⟨some i,H1,I1,.int i t,q⟩
def Ri(X:Cx)(r:V->Option Int->Option Int->Hp->VK->Prop):Prop:=
 ∀(ah: ~~~1) (s:Shared) (Y:St) (H:Hp) (x:V) (v vl vu:Value) (lo hi:Option Int) (sl:Addr) (Q:VK),Inv X ah Y H s->RelV x v->s.heap.IsSliceOf sl vl vu .none->IsPart vl lo->IsPart vu hi->r x lo hi H Q->
  ∃T id,typeLookup (.type T) "__getitem__"=pure (some (.builtin id))/\s.TypeIs v T/\wpAny (~~~2) X.A (getItem v (.ref sl)) (EP X ah Y Q) X.xe s
noncomputable def Zy(r:V->Option Int->Option Int->Hp->VK->Prop)(te:TE)(tl th:TO):TE:=λY H Q=>te Y H λx H1=>tl Y H1 λl H2=>th Y H2 λu H3=>r x l u H3 Q
theorem ig{r:V->Option Int->Option Int->Hp->VK->Prop}(hr:Ri X r)(he:PE X e te)(hl:PO X lo tl)(hu:PO X hi th):PE X (.Subscript e (.Slice lo hi none p2) pos) (Zy r te tl th):=by
 intro ah s Y H Q I h;refine Subscript_ (bG (he ah s Y H _ I h) ?_);rintro v s1 ⟨x,H1,I1,r1,q1⟩;refine wpAny_Slice (bG (hl ah s1 Y H1 _ I1 q1) λvl s2 ⟨l,H2,I2,pl,q2⟩=>bG (hu ah s2 Y H2 _ I2 q2) ?_)
 rintro vu s3 ⟨u,H3,I3,pu,q3⟩;refine c8 ?_;have I4:Inv X ah Y H3 { s3 with heap:=s3.heap.push { cls:=.type "slice",data:=.fields #[vl,vu,.none]}}:=I3.kept λb ob q=>a9 _ q
 obtain⟨T,id,hT,ht,hg⟩:=hr ah { s3 with heap:=s3.heap.push { cls:=.type "slice",data:=.fields #[vl,vu,.none]}} Y H3 x v vl vu l u s3⁻¹ Q I4 r1 (Heap.IsSliceOf.new ..) pl pu q3;exact tail_any ht hT hg (by with_unfolding_all rfl)
def sO(xs:List V)(lo hi:Option Int):List V:=(xs.drop (HT.bA xs.length 0 lo)).take (HT.bA xs.length xs.length hi - HT.bA xs.length 0 lo)
theorem jt(xs:List V)(lo hi:Option Int):(sO xs lo hi).length<=xs.length:=by unfold sO;rw[u4,AD];lia
def Wj(K:Frag):V->Option Int->Option Int->Hp->VK->Prop:=λx lo hi H Q=>∃a xs,x=.ref a/\fU K H a xs/\
 ¬ (HT.bA xs.length 0 lo=0/\HT.bA xs.length xs.length hi=xs.length)/\∀p,H p=none->Q (.ref p) (upd H p (.tup (sO xs lo hi)))
theorem KR:Ri X (Wj X.K):=by
 intro ah s Y H x v vl vu lo hi sl Q I rx hs pl pu h;obtain⟨a,xs,rfl,hx,hw,q⟩:=h;cases rx;obtain⟨aq,r,ht,hz⟩:=I.tuple hx;have aJ:aq.toArray.size=xs.length:=by rw[b0];exact r.length.symm
 refine⟨"tuple",_,PyProof.Rows.slot_tuple_getitem.lookup,ht.typeIs,?_⟩;refine HT.g9 ht hs pl pu (by rw[aJ];exact hw) ?_ (by rw[aJ];exact hz)
 rw[aJ];refine⟨.ref s⁻¹,_,I.laid (λb ob q=>a9 _ q) (dC _) ?_,rfl,q _ (I.hok.fresh (dC _))⟩
 exact⟨hU (jt xs lo hi) hz,_,(r.drop (HT.bA xs.length 0 lo)).take (HT.bA xs.length xs.length hi - HT.bA xs.length 0 lo),dB.new _ _⟩
def Rj(K:Frag):R2:=λx y H Q=>∃a b xs ys,x=.ref a/\y=.ref b/\fU K H a xs/\fU K H b ys/\xs≠[]/\xs.length+ys.length<=sizeLine/\
 (ys=[]->Q (.ref a) H)/\(ys≠[]->∀p,H p=none->Q (.ref p) (upd H p (.tup (xs++ys))))
theorem Vals.oE(r:Vals xs us):us=[] ↔ xs=[]:=by
 cases r with
 |nil=>simp
 |cons _ _=>simp
theorem Fb:g7 X (binaryOp .Add) (Rj X.K):=by
 intro ah s Y H x y v u Q I rx ry h;obtain⟨a,b,xs,ys,rfl,rfl,ha,hb,hx,hz,q1,q2⟩:=h;cases rx;cases ry;obtain⟨aq,r1,p1,_⟩:=I.tuple ha;obtain⟨lX,r2,p2,_⟩:=I.tuple hb;refine HT.Eu p1 p2 (λz=>hx (r1.oE.mp z)) (λz=>⟨.ref a,H,I,rfl,q1 (r2.oE.mp z)⟩) (λz=>?_) (by rw[<- r1.length,<- r2.length];exact hz)
 refine⟨.ref s⁻¹,_,I.laid (λb ob q=>a9 _ q) (dC _) ?_,rfl,q2 (λw=>z (r2.oE.mpr w)) _ (I.hok.fresh (dC _))⟩
 exact⟨by rw[hZ];exact hz,_,r1.append r2,dB.new _ _⟩
end
noncomputable def pZ(n:Nat)(i:Int):Option Nat:=if 0<=i then (if i<n then some i.toNat else none)else if -(n:Int)<=i then some (i+n).toNat else none
def dD{α:Type}(xs:List α)(i:Int):Option α:=(pZ xs.length i).bind λj=>xs[j]?
theorem oF(h:pZ n i=some j):seqIndex? i n=some j/\j<n/\-(n:Int)<=i/\i<n:=by
 unfold pZ at h;by_cases h0:0<=i
 .
  rw[eR h0]at h;by_cases h1:i<n
  . rw[eR h1]at h;have e:=i6 h;exact⟨by rw[seqIndex_of h0 h1,e],by lia,by lia,h1⟩
  . rw[fI h1]at h;symm
 .
  rw[fI h0]at h;by_cases h1 : -(n:Int)<=i
  . rw[eR h1]at h;have e:=i6 h;exact⟨by rw[seqIndex_neg ⋯ h1,e],by lia,h1,by lia⟩
  . rw[fI h1]at h;symm
theorem oG{α:Type}{xs:List α}{i:Int}{v:α}(h:dD xs i=some v):∃j,seqIndex? i xs.length=some j/\xs[j]?=some v/\j<xs.length/\-(xs.length:Int)<=i/\i<xs.length:=by
 unfold dD at h;cases e:pZ xs.length i with
 |none=>rw[e]at h;symm
 |some j=>rw[e]at h;obtain⟨h1,h2,h3,h4⟩:=oF e;exact⟨j,h1,h,h2,h3,h4⟩
def oH(b:Expr):Prop:=∀o i,subscripted b false o i=operate [o,i] (getItem o i)
def P5(X:Cx)(r:R2):Prop:=
 ∀(value slice:Expr) (ah: ~~~1) (s:Shared) (Y:St) (H:Hp) (x y:V) (v u:Value) (Q:VK),Inv X ah Y H s->RelV x v->RelV y u->r x y H Q->
  subscripted slice false v u=operate [v,u] (getItem v u)->wpAny (~~~2) X.A (subscriptTail value slice v u) (EP X ah Y Q) X.xe s
def U3(X:Cx)(id:String)(r:V->List V->Hp->VK->Prop):Prop:=
 ∀(ah: ~~~1) (s:Shared) (Y:St) (H:Hp) (x:V) (xs:List V) (v:Value) (us:List Value) (Q:VK),Inv X ah Y H s->RelV x v->Vals xs us->r x xs H Q->
  wpAny (~~~2) X.A (call (.builtin id) (v::us)) (EP X ah Y Q) X.xe s
section
variable{X:Cx}{a b:Expr}{ta tb:TE}{pos:Pos}
theorem yR{r:R2}(hr:P5 X r)(ha:PE X a ta)(hb:PE X b tb)(hs:oH b):PE X (.Subscript a b pos) (U0 r ta tb):=by intro ah s Y H Q I h;exact Subscript_ (Ku ha hb I h λv u s2 x y H2 I2 rx ry q=>hr a b ah s2 Y H2 x y v u Q I2 rx ry q (hs _ _))
def Wk(K:Frag):R2:=λx y H Q=>∃p xs i v,x=.ref p/\y=.int i/\bH K H p xs/\dD xs i=some v/\Q v H
def Wm(K:Frag):R2:=λx y H Q=>∃p xs i v,x=.ref p/\y=.int i/\fU K H p xs/\dD xs i=some v/\Q v H
def Wn:R2:=λx y H Q=>∃z i c,x=.str z/\y=.int i/\z.length<=sizeLine/\dD z.cps.toList i=some c/\Q (.str ⟨#[c]⟩) H
theorem jS:P5 X (Wk X.K):=by
 intro value slice ah s Y H x y v u Q I rx ry h hs;obtain⟨p,xs,i,z,rfl,rfl,hq,he,q⟩:=h;cases rx;obtain⟨t,rfl⟩:=ry;obtain⟨aq,r,pl,hz⟩:=I.list hq;obtain⟨j,h1,h2,h3,h4,h5⟩:=oG he;obtain⟨w,ew,rw'⟩:=r.get h2;have hl:=r.length;have hn:=kG;have fin:EP X ah Y Q w s:=⟨z,H,I,rw',q⟩;by_cases h0:0<=i
 .
  have hj:i.toNat=j:=by rw[seqIndex_of h0 h5]at h1;exact i6 h1
  exact item_listR pl.isList h0 ⋯ (by rw[hj];simpa using ew) fin hs
 .
  have hj:(i+(aq.toArray.size:Int)).toNat=j:=by rw[seqIndex_neg ⋯ h4]at h1;rw[b0,<- hl];exact i6 h1
  exact subscriptTail_builtinR pl.isList.typeIs slot_list_getitem.lookup
   (wpAny_getItem_list_neg pl.isList ⋯ (by rw[b0] <;> lia) ⋯ (by rw[hj];simpa using ew) ⟨rfl,fin⟩) hs
theorem KS:P5 X (Wm X.K):=by
 intro value slice ah s Y H x y v u Q I rx ry h hs;obtain⟨p,xs,i,z,rfl,rfl,hq,he,q⟩:=h;cases rx;obtain⟨t,rfl⟩:=ry;obtain⟨aq,r,pl,hz⟩:=I.tuple hq;obtain⟨j,h1,h2,h3,h4,h5⟩:=oG he;obtain⟨w,ew,rw'⟩:=r.get h2;have hl:=r.length;have hn:=kG;have fin:EP X ah Y Q w s:=⟨z,H,I,rw',q⟩;exact subscriptTail_builtinR pl.typeIs slot_tuple_getitem.lookup
  (getItem_tuple pl ⋯ ⋯ (by rw[b0,<- hl];exact h1) (by simpa using ew) ⟨rfl,fin⟩) hs
theorem KY:P5 X Wn:=by
 intro value slice ah s Y H x y v u Q I rx ry h hs;obtain⟨z,i,c,rfl,rfl,hz,he,q⟩:=h;obtain⟨t,rfl⟩:=rx;obtain⟨t',rfl⟩:=ry;obtain⟨j,h1,h2,h3,h4,h5⟩:=oG he;have hl:z.cps.toList.length=z.length:=by simp[Str.length]
 rw[hl]at h1 h4 h5;have hn:=kG;exact tail_any (typeIs_str s z t) slot_str_getitem.lookup (getItem_str (c:=c) (by
  have e1:decide (i < -(2 ^ 63:Int))=false:=hV ⋯;have e2:decide (i ≥ 2 ^ 63)=false:=hV ⋯;rw[e1,e2,Bool.or_false]) (by rw[h1];simpa using h2) ⟨.str ⟨#[c]⟩,H,I.tok _,⟨_,rfl⟩,q⟩) hs
theorem sP(aq:List Value)(n j:Nat)(u:Value):Obj.mapSeq (·.setIfInBounds j u) { cls:=.type "list",data:=.seq aq.toArray n}={ cls:=.type "list",data:=.seq (aq.set j u).toArray n}:=by simp[Obj.mapSeq]
theorem Inv.lst{ah: ~~~1}{Y:St}{H:Hp}{s:Shared}{p:Addr}{xs:List V}(I: ~~~7)(h:H p=some (.lst xs)) :
  ∃(aq:List Value) (n:Nat),Vals xs aq/\s.heap.get? p=some { cls:=.type "list",data:=.seq aq.toArray n}/\xs.length<=sizeLine:=by
 obtain⟨z,aq,n,r,e⟩:=I.hok p _ h;exact⟨aq,n,r,e,z⟩
theorem Inv.KZ{ah: ~~~1}{Y:St}{H:Hp}{s:Shared}{p:Addr}{xs ys:List V}{aq its':List Value}{n n':Nat}{f:Obj->Obj}(I: ~~~7)(h:H p=some (.lst xs))
  (ho:s.heap.get? p=some { cls:=.type "list",data:=.seq aq.toArray n}) (hf:f { cls:=.type "list",data:=.seq aq.toArray n}={ cls:=.type "list",data:=.seq its'.toArray n'}) (r:Vals ys its') (hz:ys.length<=sizeLine) (t:Nat) :
  Inv X ah Y (upd H p (.lst ys)) { s with heap:=s.heap.update p f,toks:=t}:=by
 have e:(s.heap.update p f).get? p=some { cls:=.type "list",data:=.seq its'.toArray n'}:=by rw[Heap.get?_update_self f ho (by rw[hf] <;> rfl),hf]
 refine I.write (by rw[h];trivial) (.inl rfl) (λb u hb q=>(yA _ _ (oS hb)).trans q) ⟨_,e⟩ ?_
 exact⟨hz,its',n',r,e⟩
def Rk:V->V->V->Hp->(Hp->Prop)->Prop:=λo i v H Q=>∃p xs k j,o=.ref p/\i=.int k/\H p=some (.lst xs)/\pZ xs.length k=some j/\Q (upd H p (.lst (xs.set j v)))
theorem set_list:QL X Rk:=by
 intro ah s Y H o i v ov iv u Q I ro ri rv h;obtain⟨p,xs,k,j,rfl,rfl,hp,hj,q⟩:=h;cases ro;obtain⟨t,rfl⟩:=ri;obtain⟨aq,n,r,ho,hz⟩:=I.lst hp;obtain⟨h1,h2,h3,h4⟩:=oF hj;have hl:=r.length;have hn:=kG;have I':=
  I.KZ hp ho (sP aq n j u) (r.set rv j) (by rw[pV];exact hz) s.toks
 by_cases h0:0<=k
 .
  have hk:k.toNat=j:=by rw[seqIndex_of h0 h4]at h1;exact i6 h1
  exact PySem.W.ki_setAt ho h0 ⋯ (by rw[b0,<- hl];exact h4) (by rw[hk];exact⟨_,I',q⟩)
 .
  have hk:(k+(aq.toArray.size:Int)).toNat=j:=by rw[seqIndex_neg ⋯ h3]at h1;rw[b0,<- hl];exact i6 h1
  exact PySem.W.ki_setBack ho ⋯ (by rw[b0,<- hl];exact h3) ⋯ (by rw[hk];exact⟨_,I',q⟩)
theorem oJ(lo hi:Option Int)(n:Nat):(sliceBounds lo hi none n).1=((HT.bA n 0 lo:Nat):Int)/\(sliceBounds lo hi none n).2.1=((HT.bA n n hi:Nat):Int)/\(sliceBounds lo hi none n).2.2=1:=by
 refine⟨?_,?_,rfl⟩
 .
  cases lo with
  |none=>simp[sliceBounds,HT.bA]
  |some i=>
   simp only[sliceBounds,HT.bA,Option.getD_none];by_cases h:i<0
   . simp only[h] <;> lia
   . simp only[h] <;> lia
 .
  cases hi with
  |none=>simp[sliceBounds,HT.bA]
  |some i=>
   simp only[sliceBounds,HT.bA,Option.getD_none];by_cases h:i<0
   . simp only[h] <;> lia
   . simp only[h] <;> lia
theorem mh(aq:List Value)(lo hi:Option Int):slicePick aq.toArray lo hi none=((aq.drop (HT.bA aq.length 0 lo)).take (HT.bA aq.length aq.length hi - HT.bA aq.length 0 lo)).toArray:=by obtain⟨h1,h2,h3⟩:=oJ lo hi aq.toArray.size;unfold slicePick;rw[h1,h2,h3];simp only[sliceRange_one,pick_run] <;> rfl
def Wo(K:Frag):V->Option Int->Option Int->Hp->VK->Prop:=λx lo hi H Q=>∃a xs,x=.ref a/\bH K H a xs/\∀p,H p=none->Q (.ref p) (upd H p (.lst (sO xs lo hi)))
theorem uO:Ri X (Wo X.K):=by
 intro ah s Y H x v vl vu lo hi sl Q I rx hs pl pu h;obtain⟨a,xs,rfl,hx,q⟩:=h;cases rx;obtain⟨aq,r,ht,hz⟩:=I.list hx;have aJ:=r.length;refine⟨"list",_,slot_list_getitem.lookup,ht.isList.typeIs,?_⟩;refine wpAny_getItem_list_slice ht.isList hs pl pu .none ⋯ ?_ (by rw[b0] <;> lia)
 rw[mh,<- aJ];refine⟨.ref s⁻¹,_,I.laid (λb ob q=>a9 _ q) (dC _) ?_,rfl,q _ (I.hok.fresh (dC _))⟩
 exact⟨hU (jt xs lo hi) hz,_,0,(r.drop (HT.bA xs.length 0 lo)).take (HT.bA xs.length xs.length hi - HT.bA xs.length 0 lo),d0 _ rfl⟩
theorem oK:cL X (.builtin "len") (λxs H Q=>∃z,xs=[.str z]/\z.length<=sizeLine/\Q (.int z.length) H):=by intro ah s Y H xs us Q I r h;obtain⟨z,rfl,hz,q⟩:=h;obtain⟨u,rfl,t,rfl⟩:=vals1 r;have hn:=kG;exact len_str ⋯ ⟨.int z.length,H,I.tok _,⟨_,rfl⟩,q⟩
theorem oM:cL X (.type "list") (λxs H Q=>∃p ys,xs=[.ref p]/\(bH X.K H p ys\/fU X.K H p ys)/\∀l,H l=none->Q (.ref l) (upd H l (.lst ys))):=by
 intro ah s Y H xs us Q I r h;obtain⟨p,ys,rfl,hq,q⟩:=h;obtain⟨u,rfl,rx⟩:=vals1 r;cases rx;have fin:∀(aq:List Value),Vals ys aq->ys.length<=sizeLine->∀(h':Heap) (c':Nat),(∀b o',s.heap.get? b=some o'->h'.get? b=some o')->
   h'.get? s⁻¹=some { cls:=.type "list",dict:=none,data:=.seq aq.toArray c',slots:=#[]}->EP X ah Y Q (.ref s⁻¹) { s with heap:=h'}:=λaq r' hz h' c' kp e=>
  ⟨.ref s⁻¹,_,I.laid kp (dC _) (show cD X.prog X.w _ h' _ (.lst ys)from⟨hz,aq,c',r',e⟩),rfl,q _ (I.hok.fresh (dC _))⟩
 rcases hq with hq |hq
 . obtain⟨aq,r',pl,hz⟩:=I.list hq;have aJ:=r'.length;obtain⟨o,ho,hc,n,hd⟩:=pl.isList;exact call_list_seq p (.inl rfl) ho hc hd (λh' c' kp e=>fin aq r' hz h' c' kp e) (by simp only[b0] <;> lia)
 . obtain⟨aq,r',pl,hz⟩:=I.tuple hq;have aJ:=r'.length;obtain⟨o,ho,hc,n,hd⟩:=pl;exact call_list_seq p (.inr rfl) ho hc hd (λh' c' kp e=>fin aq r' hz h' c' kp e) (by simp only[b0] <;> lia)
theorem mj:cL X (.type "tuple") (λxs H Q=>∃p ys,xs=[.ref p]/\((bH X.K H p ys/\∀l,H l=none->Q (.ref l) (upd H l (.tup ys)))\/(fU X.K H p ys/\Q (.ref p) H))):=by
 intro ah s Y H xs us Q I r h;obtain⟨p,ys,rfl,h⟩:=h;obtain⟨u,rfl,rx⟩:=vals1 r;cases rx;rcases h with ⟨hq,q⟩ |⟨hq,q⟩
 .
  obtain⟨aq,r',pl,hz⟩:=I.list hq;have aJ:=r'.length;refine call_tuple_list pl.isList (λh' kp=>?_) (by simp only[b0] <;> lia)
  have I1:=I.kept (t':=s.toks) kp;have I2:=
   I1.laid (t':=s.toks) (λb o e=>a9 _ e) (dC _) (show cD X.prog X.w _ _ _ (.tup ys)from⟨hz,aq,r',dB.new _ _⟩)
  exact⟨.ref h'.objs.size,_,I2,rfl,q _ (I1.hok.fresh (dC _))⟩
 . obtain⟨aq,r',pl,hz⟩:=I.tuple hq;exact call_tuple_same pl ⟨.ref p,H,I,rfl,q⟩
def Wq(K:Frag)(T:String)(x:V)(H:Hp):Prop:=match x with
 |.str _=>T = "str"
 |.int _=>T = "int"
 |.ref p=>(T = "list" /\∃xs,bH K H p xs)\/(T = "tuple" /\∃o,K.lookup p=some o/\o.cls=.type "tuple" /\o.dict=none)\/
   (T = "dict" /\((∃e8,H p=some (.dK e8))\/∃e8,H p=some (.dT e8)))\/(T = "set" /\∃S n,H p=some (.set S n))
 |_=>False
theorem yS{ah: ~~~1}{Y:St}{H:Hp}{s:Shared}{T:String}{x:V}{v:Value}(I: ~~~7)(r:RelV x v)(ty:Wq X.K T x H) :
  s.TypeIs v T/\∀a,v=.ref a->∃ob,s.heap.get? a=some ob/\ob.dict=none:=by
 cases x with
 |str z=>
  obtain⟨t,rfl⟩:=r;cases (show T = "str" from ty)
  exact⟨typeIs_str s z t,λ_ e=>nomatch e⟩
 |int i=>
  obtain⟨t,rfl⟩:=r;cases (show T = "int" from ty)
  exact⟨typeIs_int s i t,λ_ e=>nomatch e⟩
 |ref p=>
  cases r;rcases ty with ⟨rfl,xs,hq⟩ |⟨rfl,o,hk,hc,hd⟩ |⟨rfl,hk⟩ |⟨rfl,S,n,hk⟩
  .
   obtain⟨aq,_,pl,_⟩:=I.list hq;refine⟨pl.isList.typeIs,λa e=>?_⟩
   cases e;obtain⟨o,n,e,c,hd,_⟩:=pl;exact⟨o,e,hd⟩
  .
   refine⟨⟨o,I.qe p o hk,hc⟩,λa e=>?_⟩
   cases e;exact⟨o,I.qe _ o hk,hd⟩
  .
   have z:∃o,s.heap.get? p=some o/\o.ExactDict:=by
    rcases hk with ⟨e8,hk⟩ |⟨e8,hk⟩
    . obtain⟨_,_,_,_,o,_,_,e,ex,_⟩:=I.hok p _ hk;exact⟨o,e,ex⟩
    . obtain⟨_,_,_,_,o,_,_,e,ex,_⟩:=I.hok p _ hk;exact⟨o,e,ex⟩
   obtain⟨o,e,ex⟩:=z;refine⟨⟨o,e,ex.1⟩,λa e2=>?_⟩
   cases e2;exact⟨o,e,ex.2.1⟩
  .
   obtain⟨o,_,_,_,e,ex,_⟩:=I.hok p _ hk;refine⟨⟨o,e,ex.1⟩,λa e2=>?_⟩
   cases e2;exact⟨o,e,ex.2.1⟩
 |_=>exact False.elim ty
def Wr(K:Frag)(T:String)(r:V->List V->Hp->VK->Prop)(to:TE):TE:=λY H Q=>to Y H λx H1=>Wq K T x H1/\r x [] H1 Q
def Zz(K:Frag)(T:String)(r:V->List V->Hp->VK->Prop)(to:TE)(t:TA):TE:=λY H Q=>to Y H λx H1=>Wq K T x H1/\t Y H1 λxs H2=>r x xs H2 Q
variable{o e:Expr}{es:List Expr}{to:TE}{t:TA}{name:Str}{iP cK:Pos}{T id:String}{r:V->List V->Hp->VK->Prop}
theorem yT(pa:PlainAttrs T)(slot:Slot T name id)(hty:typeOf (.builtin id)=pure (.type "method_descriptor"))(hm:U3 X id r)(ho:PE X o to)
  (hbase:attributeBase o name X.env (eval o X.env)=eval o X.env:=by rfl) (hline:(iP.endLine==cK.line)=true:=by rfl):PE X (.Call (.Attribute o name iP) [] [] cK) (Wr X.K T r to):=by
 intro ah s Y H Q I h;refine wpAny_Call_method0_late hbase hline (bG (ho ah s Y H _ I h) ?_);rintro v s1 ⟨x,H1,I1,r1,ty,q1⟩;obtain⟨h1,h2⟩:=yS I1 r1 ty;exact⟨T,id,pa,slot,hty,h1,h2,Calls.callWith_builtin rfl (PySem.evalArgs_none (hm ah s1 Y H1 x [] v [] Q I1 r1 .nil q1))⟩
theorem mR(pa:PlainAttrs T)(slot:Slot T name id)(hty:typeOf (.builtin id)=pure (.type "method_descriptor"))(hm:U3 X id r)(ho:PE X o to)(ha:PA X (e::es) t)
  (hbase:attributeBase o name X.env (eval o X.env)=eval o X.env:=by rfl)
  (hfew:((backTo cK (starEach (e::es) X.env)).all (λx=>!x.1)&&(backToKw cK (keywordEach [] X.env)).all (λx=>x.1.isSome)
   && decide ((e::es).length+([]:List Keyword).length+(if ([]:List Keyword).isEmpty then 0 else 1)<30))=true:=by rfl)
  (hline:(iP.endLine==cK.line)=true:=by rfl) (hs:starEach (e::es) X.env=(false,eval e X.env)::starEach es X.env:=by rfl) (hplain:(backTo cK (starEach es X.env)).any (·.1)=false:=by rfl) :
  PE X (.Call (.Attribute o name iP) (e::es) [] cK) (Zz X.K T r to t):=by
 intro ah s Y H Q I h;refine wpAny_Call_method_late hbase hfew hline rfl (bG (ho ah s Y H _ I h) ?_);rintro v s1 ⟨x,H1,I1,r1,ty,q1⟩;obtain⟨h1,h2⟩:=yS I1 r1 ty;refine⟨T,id,pa,slot,hty,h1,h2,?_⟩;have hA:=ha cK ah s1 Y H1 _ I1 q1;rw[hs]at hA ⊢
 refine Calls.callWith_builtin (by show (false||(backTo cK (starEach es X.env)).any (·.1))=false;rw[hplain] <;> rfl) (Calls.evalArgs_plain ?_)
 exact bG hA (by rintro us s2 ⟨vs,H2,I2,r2,q2⟩;exact hm ah s2 Y H2 x vs v us Q I2 r1 r2 q2)
/- xs.append(e),list.index on a module's tuple .. are U3 facts of 06m -/
end
def U4(X:Cx)(id:String)(r:V->List V->Hp->VK->Prop):Prop:=
 ∀(ah: ~~~1) (s:Shared) (Y:St) (H:Hp) (x:V) (xs:List V) (v:Value) (us:List Value) (Q:VK),Inv X ah Y H s->RelV x v->Vals xs us->r x xs H Q->
  wpAny (~~~2) X.A (call (.builtin id) (v::us)) (EP X ah Y Q) X.xe s
theorem Vals.one:∀{x:V}{us:List Value},Vals [x] us->∃u,us=[u]/\RelV x u:=by intro x us h;cases h with |cons r t=>cases t;exact⟨_,rfl,r⟩
theorem Vals.zero:∀{us:List Value},Vals [] us->us=[]
 |_,.nil=>rfl
theorem Vals.dropLast(h:Vals xs us):Vals xs.dropLast us.dropLast:=by
 induction h with
 |nil=>exact .nil
 |cons r t ih=>
  cases t with
  |nil=>exact .nil
  |cons q t'=>exact .cons r ih
theorem Vals.eraseIdx:∀{xs:List V}{us:List Value} (i:Nat),Vals xs us->Vals (xs.eraseIdx i) (us.eraseIdx i)
 |_,_,_,.nil=>.nil
 |_,_,0,.cons _ t=>t
 |_,_,i+1,.cons r t=>.cons r (Vals.eraseIdx i t)
theorem Vals.reverse{xs:List V}{us:List Value}(h:Vals xs us):Vals xs.reverse us.reverse:=by
 induction h with
 |nil=>exact .nil
 |cons r t ih=>rw[AT,AT];exact Vals.append ih (.cons r .nil)
theorem Vals.rep(h:Vals xs us):∀k:Nat,Vals (List.replicate k xs).flatten (List.replicate k us).flatten
 | 0=>.nil
 |k+1=>by
  exact Vals.append h (Vals.rep h k)
theorem sQ{α:Type}(l:List α):l.eraseIdx (l.length - 1)=l.dropLast:=by
 induction l with
 |nil=>rfl
 |cons a r ih=>
  cases r with
  |nil=>rfl
  |cons b r=>
   have e:(a::b::r).length - 1=((b::r).length - 1)+1:=by have h1:(a::b::r).length=r.length+2:=rfl;have h2:(b::r).length=r.length+1:=rfl;lia
   rw[e,List.eraseIdx_cons_succ,ih]
   all_goals rfl
theorem mS{α:Type}:∀(l:List α) (i:Nat),(l.eraseIdx i).length<=l.length
 | [],_=>dC _
 |_::_,0=>AE _
 |_::r,i+1=>Nat.succ_le_succ (mS r i)
theorem foldl_rep(aq:List Value):∀(k:Nat) (acc:List Value),
  List.foldl (λx1 x2=>x1++x2) acc.toArray (List.replicate k aq.toArray)=(acc++(List.replicate k aq).flatten).toArray
 | 0,acc=>by simp
 |k+1,acc=>by
  have e:acc.toArray++aq.toArray=(acc++aq).toArray:=by simp
  have e2:(acc++aq)++(List.replicate k aq).flatten=acc++(List.replicate (k+1) aq).flatten:=by rw[t6,An,mM]
  rw[<- e2,<- foldl_rep aq k (acc++aq),<- e,t6,List.foldl_cons]
section
variable{X:Cx}{ah: ~~~1}{Y:St}{H:Hp}{s:Shared}{l b:Addr}{xs ys zs:List V}
theorem Inv.Fc{aq its':List Value}{n:Nat}{f:Array Value->Array Value}{t':Nat}(I: ~~~7)(hH:H l=some (.lst xs))
  (e:s.heap.get? l=some { cls:=.type "list",data:=.seq aq.toArray n}) (hf:f aq.toArray=its'.toArray) (hv:Vals ys its') (hz:ys.length<=sizeLine) :
  Inv X ah Y (upd H l (.lst ys)) { s with heap:=s.heap.update l (Obj.mapSeq f),toks:=t'}:=by
 have q:=PySem.IsL.update e f;rw[hf]at q;refine I.write (by rw[hH];exact trivial) (.inl rfl) (λb' u hb hu=>(yA s.heap (Obj.mapSeq f) (oS hb)).trans hu) ⟨_,q⟩ ?_
 exact⟨hz,its',_,hv,q⟩
theorem Inv.Rl(I: ~~~7)(hv:Vals ys aq)(hz:ys.length<=sizeLine) :
  Inv X ah Y (upd H s⁻¹ (.lst ys)) { s with heap:=s.heap.push { cls:=.type "list",data:=.seq aq.toArray},toks:=t'}:=
 I.laid (λ_ _ q=>a9 _ q) (dC _) ⟨hz,aq,0,hv,d0 _ rfl⟩
theorem Inv.fresh(I: ~~~7):H s⁻¹=none:=I.hok.fresh (dC _)
theorem Inv.qo(I: ~~~7)(hH:H l=some (.lst xs)):xs.length<=sizeLine/\∃(aq:List Value) (n:Nat),Vals xs aq/\xs.length=aq.length/\s.heap.get? l=some { cls:=.type "list",data:=.seq aq.toArray n}:=by obtain⟨z,aq,n,r,e⟩:=I.hok l _ hH;exact⟨z,aq,n,r,r.length,e⟩
theorem qq(h:n<=sizeLine):Builtin.List.listTooLong n=false:=by exact hV ⋯
end
section
variable{X:Cx}
def Fd:V->List V->Hp->VK->Prop:=λx vs H Q=>∃l xs y,x=.ref l/\vs=[y]/\H l=some (.lst xs)/\xs.length<sizeLine/\Q .non (upd H l (.lst (xs++[y])))
theorem fL:U4 X "list.append" Fd:=by
 intro ah s Y H x vs v us Q I rx rv h;obtain⟨l,xs,y,rfl,rfl,hH,hz,q⟩:=h;cases rx;obtain⟨u,rfl,ru⟩:=rv.one;obtain⟨z,aq,n,r,hl,e⟩:=I.qo hH;refine BS F.slot_list_append ⟨_,e,rfl⟩ F.entry_list_append (F.args_list_append_2 _ _) (PySem.list_append l aq.toArray n u (by rw[b0];lia)) ⟨e,?_⟩
 refine⟨.non,_,I.Fc hH e ⋯ (r.append (.cons ru .nil)) ?_,rfl,q⟩;rw[hZ,u8];lia
def Fe:V->List V->Hp->VK->Prop:=λx vs H Q=>∃l b xs zs,x=.ref l/\vs=[.ref b]/\H l=some (.lst xs)/\H b=some (.lst zs)/\xs.length+zs.length<=sizeLine/\Q .non (upd H l (.lst (xs++zs)))
theorem wA:U4 X "list.extend" Fe:=by
 intro ah s Y H x vs v us Q I rx rv h;obtain⟨l,b,xs,zs,rfl,rfl,hH,hB,hz,q⟩:=h;cases rx;obtain⟨u,rfl,ru⟩:=rv.one;cases ru;obtain⟨z,aq,n,r,hl,e⟩:=I.qo hH;obtain⟨z2,lX,n2,r2,hl2,e2⟩:=I.qo hB;have uC:aq.toArray.size+lX.toArray.size<=sizeLine:=by rw[b0,b0];lia
 have yU : ¬ (!aq.toArray.isEmpty&&Builtin.List.listTooLong (aq.toArray.size+lX.toArray.size))=true:=by rw[qq uC,BQ];exact mP
 refine BS F.slot_list_extend ⟨_,e,rfl⟩ F.entry_list_extend (F.args_list_extend_2 _ _)
  (AutoSeq1.list_extend_list_list_0 l aq.toArray n b lX.toArray n2 yU (by rw[b0];lia) ⋯) ⟨e,e2,?_⟩
 refine⟨.non,_,I.Fc hH e ⋯ (r.append r2) ?_,rfl,q⟩;rw[hZ];lia
def Ws:V->List V->Hp->VK->Prop:=λx vs H Q=>∃l xs y,x=.ref l/\vs=[]/\H l=some (.lst xs)/\xs[xs.length - 1]?=some y/\Q y (upd H l (.lst xs.dropLast))
theorem yV:U4 X "list.pop" Ws:=by
 intro ah s Y H x vs v us Q I rx rv h;obtain⟨l,xs,y,rfl,rfl,hH,hy,q⟩:=h;cases rx;have ZC:=rv.zero;subst ZC;obtain⟨z,aq,n,r,hl,e⟩:=I.qo hH;obtain⟨u,hu,ru⟩:=r.get hy;have hy':aq.toArray[aq.toArray.size - 1]?=some u:=by show aq.toArray[aq.length - 1]?=some u;rw[<- AW,<- hl];exact hu
 refine BS F.slot_list_pop ⟨_,e,rfl⟩ F.entry_list_pop (F.args_list_pop_1 _) (MeetsSeq.list_pop_last l aq.toArray n u hy' (by rw[b0];lia)) ⟨e,?_⟩
 refine⟨y,_,I.Fc (its':=aq.dropLast) hH e ?_ r.dropLast ?_,ru,q⟩
 . show aq.toArray.eraseIdxIfInBounds (aq.toArray.size - 1)=aq.dropLast.toArray;rw[b0,List.eraseIdxIfInBounds_toArray,sQ]
 . rw[List.length_dropLast];lia
def K1:V->List V->Hp->VK->Prop:=λx vs H Q=>∃l xs i k y,x=.ref l/\vs=[.int i]/\H l=some (.lst xs)/\-(2 ^ 63)<=i/\i<2 ^ 63/\seqIndex? i xs.length=some k/\xs[k]?=some y/\Q y (upd H l (.lst (xs.eraseIdx k)))
theorem yW:U4 X "list.pop" K1:=by
 intro ah s Y H x vs v us Q I rx rv h;obtain⟨l,xs,i,k,y,rfl,rfl,hH,h1,h2,hk,hy,q⟩:=h;cases rx;obtain⟨u,rfl,ru⟩:=rv.one;obtain⟨t,rfl⟩:=ru;obtain⟨z,aq,n,r,hl,e⟩:=I.qo hH;obtain⟨w,hw,rw'⟩:=r.get hy;refine BS F.slot_list_pop ⟨_,e,rfl⟩ F.entry_list_pop (F.args_list_pop_2 _ _)
  (MeetsSeq.list_pop_at l aq.toArray n i t k w (fitsIndex_both h1 h2) (by rw[b0,<- hl];exact hk) (by rw[<- AW];exact hw) (by rw[b0];lia)) ⟨e,?_⟩
 refine⟨y,_,I.Fc hH e ?_ (r.eraseIdx k) ?_,rw',q⟩
 . show aq.toArray.eraseIdxIfInBounds k=(aq.eraseIdx k).toArray;rw[List.eraseIdxIfInBounds_toArray]
 . have:=mS xs k;lia
def Wt:R2:=λx y H Q=>∃l b xs zs,x=.ref l/\y=.ref b/\H l=some (.lst xs)/\H b=some (.lst zs)/\xs.length+zs.length<=sizeLine/\∀p,H p=none->Q (.ref p) (upd H p (.lst (xs++zs)))
theorem K3:g7 X (binaryOp .Add) Wt:=by
 intro ah s Y H x y v u Q I rx ry h;obtain⟨l,b,xs,zs,rfl,rfl,hH,hB,hz,q⟩:=h;cases rx;cases ry;obtain⟨z,aq,n,r,hl,e⟩:=I.qo hH;obtain⟨z2,lX,n2,r2,hl2,e2⟩:=I.qo hB;refine PySem.P.add_list e e2 ?_ (by rw[b0,b0];lia)
 have ea:aq.toArray++lX.toArray=(aq++lX).toArray:=by simp
 rw[ea];exact⟨.ref _,_,I.Rl (r.append r2) (by rw[hZ];lia),rfl,q _ I.fresh⟩
def Wu:R2:=λx y H Q=>∃l k xs,x=.ref l/\y=.int k/\H l=some (.lst xs)/\-(2 ^ 63)<=k/\k<2 ^ 63/\xs.length * k.toNat<=sizeLine/\
 ∀p,H p=none->Q (.ref p) (upd H p (.lst (List.replicate k.toNat xs).flatten))
theorem len_rep{α:Type}(xs:List α)(k:Nat):(List.replicate k xs).flatten.length=k * xs.length:=by
 induction k with
 |zero=>simp
 |succ k ih=>rw[t6,An,hZ,ih,Nat.succ_mul,Nat.add_comm]
theorem K4:g7 X (binaryOp .Mult) Wu:=by
 intro ah s Y H x y v u Q I rx ry h;obtain⟨l,k,xs,rfl,rfl,hH,h1,h2,hz,q⟩:=h;cases rx;obtain⟨t,rfl⟩:=ry;obtain⟨z,aq,n,r,hl,e⟩:=I.qo hH;have aJ:aq.toArray.size * k.toNat<=sizeLine:=by rw[b0,<- hl];exact hz
 have hcap : ¬ aq.toArray.size * k.toNat > (2 ^ 63 - 1) / 8:=by
  have:(sizeLine:Nat)<=(2 ^ 63 - 1) / 8:=by decide
  lia
 have hfit : ¬ (!Builtin.List.listFitsIndex k)=true:=by rw[fitsIndex_both h1 h2];exact mP
 have yU : ¬ Builtin.List.listTooLong (aq.toArray.size * k.toNat)=true:=by rw[qq aJ];exact mP
 have hnew:List.foldl (λx1 x2=>x1++x2) #[] (List.replicate (if aq.toArray.isEmpty=true then 0 else k.toNat) aq.toArray)=(List.replicate k.toNat aq).flatten.toArray:=by
  have f0:∀m:Nat,List.foldl (λx1 x2=>x1++x2) #[] (List.replicate m aq.toArray)=(List.replicate m aq).flatten.toArray:=λm=>by
   have:=foldl_rep aq m [];exact this
  rw[f0];cases aq with
  |nil=>simp
  |cons a r'=>rw[fI ⋯]
 refine wpAny_binaryOp_repeat_ref ⋯ ⟨_,e,rfl⟩ (λs'=>typeIs_int s' k t) noFill_list_mul F.fills_int_mul F.slot_int_rmul repeat_list F.slot_int_index.lookup
  (BS F.slot_int_rmul (typeIs_int s k t) F.entry_int_rmul (F.args_int_rmul_2 _ _) (int___rmul___int_list k t l aq.toArray n)
   ⟨e,rfl,⟨_,e,rfl⟩,BS F.slot_list_mul ⟨_,e,rfl⟩ F.entry_list_mul (F.args_list_mul_2 _ _) (AutoListH.list___mul___list_int_3 l aq.toArray n k t hfit hcap yU) ⟨e,?_⟩⟩)
 rw[hnew];exact⟨.ref _,_,I.Rl (r.rep k.toNat) (by rw[len_rep,Nat.mul_comm];exact hz),rfl,q _ I.fresh⟩
end
end L2
namespace Yk
open PySem PySem.W PySem.Calls PyProof.Rows
theorem jJ:∀(ns: ~~~0) (vs:List Value),WellAll P h vs (ns.map WData.int)->IntsAre vs ns:=by
 intro ns
 induction ns with
 |nil=>intro vs w;cases w;exact .nil
 |cons n ns ih=>
  intro vs w;cases w with
  |cons a b=>cases a;exact .cons _ _ (ih _ b)
theorem wB{l:OpenLaw}{n:Nat}(hn:l.most=some n){P:Params}{h:Heap}{args:List WData}{vals:List Value}
  (hpre:l.row.toRowW.claim.pre args=true) (hwl:WellAll P h vals args) :
  ∃a vs ns,vals=[Value.ref a]/\args=[WData.list (ns.map WData.int)]/\h.get? a=some { cls:=.type "list",data:=.seq vs.toArray}/\IntsAre vs ns/\ns.length<=n:=by
 have hsh:=(pre_splitW hpre).1;have hc:l.pre.holds [] { args:=args}=true:=(pre_splitW hpre).2;obtain⟨d,r,rfl,h1,h2⟩:=hasAllW_cons hsh;obtain rfl:=hasAllW_nil h2;obtain⟨xs,rfl,h3⟩:=hasW_list h1;obtain⟨ns,rfl⟩:=items_int h3;have aJ:ns.length<=n:=by
  have h4:(WTm.not (.lt (.lit (.int (n:Int))) (.len (.arg 0)))).holds [] { args:=[.list (ns.map .int)]}=true:=by have h4:=(holds_andW hc).1;rw[hn]at h4;exact h4
  have h5:=condW_of h4 (w_not (w_lt w_lit (w_len_list (w_arg rfl))));refine Nat.le_of_not_lt λq=>?_
  first
   | (rw[i4 q']at h5;exact absurd h5 ⋯)
   | (simp at h5;lia)
 cases hwl with
 |cons w1 w2=>
  cases w2;cases w1 with
  |list ho hall=>exact⟨_,_,ns,rfl,rfl,ho,jJ ns _ hall,aJ⟩
theorem wC(l:OpenLaw)(args:List WData):l.row.toRowW.claim.post args (.bool true) args=true:=
 postW_of
  (show WShape.has [] (.bool true) .bool=true by first |rfl |decide |simp[WShape.arms])
  (show (WTm.eq .res (.lit (.bool true))).value [] { args:=args,res:=some (.bool true),after:=args}=some (.bool (true==true))from w_eq_bool (w_res rfl) w_lit) rfl
theorem qu{l:OpenLaw}{n:Nat}{q:Program}{loose:List Str}{XP:(Str->Option Value)->Heap->Prop}{YP:World->Heap->Prop}{d:DefRec}
  (hn:l.most=some n) (lW:d.params.defaults=[])
  (call:∀(w:World) (s₀ s₁:Shared) (mg mb:Str->Option Value) (fa:Addr) (o:Obj) (pm cd doc:Value) (a:Addr) (vs:List Value) (ns: ~~~0),
   Ground q loose [] XP w s₀ mg mb s₁.heap->YP w s₁.heap->
   s₁.heap.get? fa=some o->o.data=.func (docDef d.name d.params d.body d.scope pm cd doc)->s₁.heap.CodeRec cd d.name->mg d.name=some (.ref fa)->
   s₁.heap.get? a=some { cls:=.type "list",data:=.seq vs.toArray}->IntsAre vs ns->ns.length<=n->s₁.gens = #[]->
   codeAny (model l.prog w) callerA (.call (.ref fa) ⟨[.ref a],[]⟩) (λr s'=>r=.ok (.ret (.bool true))/\OldK s₁.heap s'.heap/\s'.os=s₁.os/\AllBare s'.gens) s₁) :
  WalkO q loose XP YP l.row.toRowW d [] (λf vs=>PySem.call f vs):=by
 intro w s₀ s₁ mg mb G qqq fa o pm cd doc dV kV ho hd bY hD hmg hg args vals as hpre hlay hrd hwl hlo;obtain rfl:dV=.none:=Dflts.none hD lW;obtain rfl:kV=.none:=Dflts.noKw hD;obtain⟨a,vs,ns,rfl,rfl,hobj,hints,aJ⟩:=wB hn hpre hwl;refine enter_call (codeAny_mono (call w s₀ s₁ mg mb fa o pm cd doc a vs ns G qqq ho (fd_plain hd) bY hmg hobj hints aJ hg) λr s' hq=>?_)
 obtain⟨rfl,h2,h3,h4⟩:=hq;exact⟨.inl ⟨.bool true,.bool true,[],rfl,λ_=>rfl,.bool true,wC l _,λ_=>⟨List.Pairwise.nil,λ_ hm=>(nomatch hm)⟩⟩,h2,h3,h4⟩
end Yk
namespace L2
theorem mU:∀{vs:List Value}{ns: ~~~0},IntsAre vs ns->Vals (ns.map V.int) vs:=by
 intro vs ns h
 induction h with
 |nil=>exact .nil
 |cons n t h ih=>exact .cons ⟨t,rfl⟩ ih
abbrev KOf{K:Frag}{h:Heap}(_:K.In h):Frag:=K
abbrev Dy:yP:=λ_ _ _ _ _ _=>False
abbrev E0:XK:=λ_ _ _=>False
theorem Rm:Passes Dy X E0:=λ_ _ _ _ _ _ _ h=>h.elim
structure Ro(K:Frag)(x qual:Str)(st:Stmt)(f:Addr)(fd:FuncData):Prop where
 ex:∃(oc:Value) (od:Option Addr) (kV doc pm:Value) (an:Option Addr) (dz ct:Value) (osl:Array (Option Value)),
  fd=PySem.W.fnOf x qual (fK st) (bC st) (aQ st) .none kV doc pm an dz ct/\K.lookup f=some ⟨oc,od,.func fd,osl⟩/\PySem.W.codeIn K dz qual=true
 kp:PySem.W.keepIn K (.ref f)=true
section
variable{P:Program}{w:World}{K:Frag}{mg:Str->Option Value}{base:Heap}
theorem K5{x qual:Str}{st:Stmt}{f:Addr}{oc:Value}{od an:Option Addr}{osl:Array (Option Value)}{kV doc pm dz ct:Value}(l:K.lookup f=some ⟨oc,od,.func (PySem.W.fnOf x qual (fK st) (bC st) (aQ st) .none kV doc pm an dz ct),osl⟩)
  (c:PySem.W.codeIn K dz qual=true) (k:PySem.W.keepIn K (.ref f)=true):Ro K x qual st f (PySem.W.fnOf x qual (fK st) (bC st) (aQ st) .none kV doc pm an dz ct):=⟨⟨oc,od,kV,doc,pm,an,dz,ct,osl,rfl,l,c⟩,k⟩
end
theorem iT{A B:Prop}(h:B):if false=true then A else B:=by exact h
theorem gB{A B:Prop}(h:A):if true=true then A else B:=by exact h
noncomputable def Cx.block(X:Cx)(N:List Str)(scope:Scope)(cl:List (Str×Addr))(C:Addr)(s₀:Shared)(H₀:Hp)(fp:List Addr):Cx:=
 { X with N:=N,s₀:=s₀,H₀:=H₀,env:=compEnvC scope cl C X.env,outer:=X.stack,ex:=fp,fn:=λx=>scope.names.lookup x==some .local,pn:=[],xe:=λ_ _=>False}
structure Bk where
 cl:List (Str×Addr)
 C:Addr
 s₀:Shared
 H₀:Hp
 fp:List Addr
abbrev Cx.blk (X:Cx) (N:List Str) (scope:Scope) (b:Bk):Cx:=X.block N scope b.cl b.C b.s₀ b.H₀ b.fp
structure dj(sc scope:Scope):Prop where
 kind:scope.kind=.function
 yX:∀y∈scope.names,y.2≠.cell
 uniq:∀y∈scope.names,y.2=.local->scope.names.lookup y.1=some .local
 Rp:∀y∈scope.names,y.2=.free->scope.names.lookup y.1=some .free
 free:∀y∈scope.names,y.2=.free->sc.names.lookup y.1=some .cell\/sc.names.lookup y.1=some .free
theorem mem_of_lookup{α:Type}{x:Str}{v:α}:∀{l:List (Str×α)},l.lookup x=some v->(x,v)∈l
 | [],h=>by simp at h
 | (n,k)::r,h=>by
  cases hx:x==n with
  |true=>
   simp only[oI,hx]at h;symm;have e:x=n:=by simpa using hx
   subst e;exact bP
  |false=>simp only[oI,hx]at h;exact a8 _ (mem_of_lookup h)
theorem fy{env:Env}{x:Str}:∀{names:List (Str×NameKind)},
  (names.map λ(n,k)=>if (k==NameKind.free&&env.scope.kind==.function&&env.kindOf n==some .cell)then (n,NameKind.cell)else (n,k)).lookup x
   = (names.lookup x).map λk=>if (k==NameKind.free&&env.scope.kind==.function&&env.kindOf x==some .cell)then NameKind.cell else k
 | []=>rfl
 | (n,k)::r=>by
  have ih:=@fy env x r;show List.lookup x ((if (k==NameKind.free&&env.scope.kind==.function&&env.kindOf n==some .cell)=true then (n,NameKind.cell)else (n,k))::_)=_
  cases hx:x==n with
  |true=>
   have e:x=n:=by simpa using hx
   subst e;by_cases hc:(k==NameKind.free&&env.scope.kind==.function&&env.kindOf x==some .cell)=true
   . rw[eR hc];simp only[oI,hx,BD,eR hc]
   . rw[fI hc];simp only[oI,hx,BD,fI hc]
  |false=>
   by_cases hc:(k==NameKind.free&&env.scope.kind==.function&&env.kindOf n==some .cell)=true
   . rw[eR hc];simp only[oI,hx];exact ih
   . rw[fI hc];simp only[oI,hx];exact ih
theorem sS(h:∀y∈scope.names,y.2=.free->∃c,env.cells.lookup y.1=some c) :
  ∃cl,closureFor scope env=pure cl/\(∀x c,cl.lookup x=some c->env.cells.lookup x=some c/\(x,NameKind.free)∈scope.names)/\∀y∈scope.names,y.2=.free->∃c,cl.lookup y.1=some c:=by
 have key:∀(names:List (Str×NameKind)) (acc:List (Str×Addr)),(∀y∈names,y.2=.free->∃c,env.cells.lookup y.1=some c)->
   ∃cl,(forIn names acc λx (cs:List (Str×Addr))=>(match x with | (name,kind)=>if (kind==.free)=true then (do let c <- cellOf env name;pure (ForInStep.yield ((name,c)::cs)))else pure (ForInStep.yield cs):Sem (ForInStep (List (Str×Addr)))))=pure cl/\
    (∀x c,cl.lookup x=some c->acc.lookup x=some c\/(env.cells.lookup x=some c/\(x,NameKind.free)∈names))/\(∀y∈names,y.2=.free->∃c,cl.lookup y.1=some c)/\∀x c,acc.lookup x=some c->∃c',cl.lookup x=some c':=by
  intro names
  induction names with
  |nil=>intro acc _;exact⟨acc,rfl,λx c e=>.inl e,(λy hy=>nomatch hy),λx c e=>⟨c,e⟩⟩
  |cons y r ih=>
   intro acc hf;obtain⟨n,k⟩:=y;rw[List.forIn_cons];by_cases hk:(k==NameKind.free)=true
   .
    obtain⟨c,hc⟩:=hf (n,k) bP (by simpa using hk)
    have hc':=hc;obtain⟨cl,e,h1,h2,h3⟩:=ih ((n,c)::acc) λy hy=>hf y (a8 _ hy)
    refine⟨cl,?_,λx c' q=>?_,λy hy U5=>?_,λx c' q=>?_⟩
    .
     have ec:cellOf env n=pure c:=by unfold cellOf;rw[hc']
     show ((if (k==NameKind.free)=true then (do let c <- cellOf env n;pure (ForInStep.yield ((n,c)::acc)))else pure (ForInStep.yield acc)) >>= _)=_
     rw[eR hk,ec];exact e
    .
     rcases h1 x c' q with z |⟨z1,z2⟩
     .
      cases hx:x==n with
      |true=>
       simp only[oI,hx]at z;cases z;have e:x=n:=by simpa using hx
       subst e;have ek:k=NameKind.free:=by simpa using hk
       subst ek;exact .inr ⟨hc',bP⟩
      |false=>simp only[oI,hx]at z;exact .inl z
     . exact .inr ⟨z1,a8 _ z2⟩
    .
     rcases c6.mp hy with rfl |hy
     . exact h3 n c ⋯
     . exact h2 y hy U5
    .
     cases hx:x==n with
     |true=>
      have e:x=n:=by simpa using hx
      subst e;exact h3 x c ⋯
     |false=>exact h3 x c' (by simp only[oI,hx];exact q)
   .
    obtain⟨cl,e,h1,h2,h3⟩:=ih acc λy hy=>hf y (a8 _ hy)
    refine⟨cl,?_,λx c' q=>?_,λy hy U5=>?_,h3⟩
    .
     show ((if (k==NameKind.free)=true then (do let c <- cellOf env n;pure (ForInStep.yield ((n,c)::acc)))else pure (ForInStep.yield acc)) >>= _)=_
     rw[fI hk];exact e
    .
     rcases h1 x c' q with z |⟨z1,z2⟩
     . exact .inl z
     . exact .inr ⟨z1,a8 _ z2⟩
    .
     rcases c6.mp hy with rfl |hy
     . exact absurd U5 (by simpa using hk)
     . exact h2 y hy U5
 obtain⟨cl,e,h1,h2,_⟩:=key scope.names [] h;refine⟨cl,?_,λx c q=>?_,h2⟩
 . exact (congrArg (λm=>m >>= λcs=>pure cs) e:_)
 .
  rcases h1 x c q with z |z
  . simp at z
  . exact z
def qw(X:Cx)(ifs:List Expr)(t:TT):Prop:=
 ∀(ah: ~~~1) (s:Shared) (Y:St) (H:Hp) (Q:Bool->Hp->Prop),Inv X ah Y H s->t Y H Q->
  wpAny (~~~2) X.A (forIn ifs true λc r=>if r=true then do let ok <- isTrue c X.env (eval c X.env);pure (ForInStep.yield ok)else pure (ForInStep.yield r)) (TP X ah Y Q) X.xe s
def Rq:TT:=λ_ H Q=>Q true H
theorem yZ:qw X [] Rq:=λ_ _ _ H _ I h=>wpAny_tests_nil ⟨H,I,h⟩
theorem y9(h:PT X c t):qw X [c] t:=λah s Y H Q I hw=>wpAny_tests_one (h ah s Y H Q I hw)
noncomputable def sU(e target iter:Expr)(ifs:List Expr)(d:Nat)(it acc:Value)(env:Env)(em:Sem Unit):Sem Fin:=do
 standAt iter.pos
 match <- pyNext it with
 |none=>pure (.done .next)
 |some v=>
  letOwnedTupleGo target it v
  assign target env v
  let mut ok:=true
  for c in ifs do
   if ok then ok <- isTrue c env (eval c env)
  if ok then em
  again (.compLoop e d it acc env)
def Cu(ce:Expr):Prop:=∀(prog:Program) (w:World) (A:Around) (d:Nat) (it acc:Value) (env:Env),A.under (.compLoop ce d it acc env)=A/\(model prog w).den (.compLoop ce d it acc env)=(compTurn ce d it acc env).onRaise (λx=>do noteFrame x env;theTreesLotGoes x)
theorem oN(hu:Cu ce)(ht:compTurn ce d it acc env=sU ce target iter ifs d it acc env em)(I:Nat->Shared->Prop)
  (turn:∀n s,I n s->wpAny (model prog w) A (pyNext it) (λr s₁=>match r with
   |none=>R (.ok .next) s₁
   |some v=>wpAny (model prog w) A (letOwnedTupleGo target it v) (λ_ s₁'=>wpAny (model prog w) A (assign target env v) (λ_ s₂=>
     wpAny (model prog w) A (forIn ifs true λc r=>if r=true then do let ok <- isTrue c env (eval c env);pure (ForInStep.yield ok)else pure (ForInStep.yield r)) (λok s₃=>
      if ok=true then wpAny (model prog w) A em (λ_ s₅=>∃m,m<n/\I m s₅) (λ_ _=>False) s₃
      else ∃m,m<n/\I m s₃) (λ_ _=>False) s₂) (λ_ _=>False) s₁') (λ_ _=>False) s₁) (λ_ _=>False) s)
  (n:Nat) (h:I n s) :
  codeAny (model prog w) A (.compLoop ce d it acc env) R s:=by
 refine codeAny_loop rfl I (λn s hI=>?_) n h
 rw[(hu prog w A d it acc env).1,(hu prog w A d it acc env).2];refine wpAny_noted ?_;rw[ht];refine aS (A8 (aS (oQ (turn n s hI) (λr s₁ h₁=>?_) λ_ _ h'=>h'.elim)))
 cases r with
 |none=>exact c8 h₁
 |some v=>
  refine aS (oQ h₁ (λ_ s₁' h₁'=>?_) λ_ _ h'=>h'.elim)
  refine aS (oQ h₁' (λ_ s₂ h₂=>aS (oQ h₂ (λok s₃ h₃=>?_) λ_ _ h'=>h'.elim)) λ_ _ h'=>h'.elim)
  cases ok with
  |false=>exact c8 ⟨rfl,h₃⟩
  |true=>exact aS (oQ h₃ (λ_ s₅ h₅=>c8 ⟨rfl,h₅⟩) λ_ _ h'=>h'.elim)
abbrev TU:=St->Hp->(St->Hp->Prop)->Prop
def PU(X:Cx)(m:Sem Unit)(t:TU):Prop:=
 ∀(ah: ~~~1) (s:Shared) (Y:St) (H:Hp) (Q:St->Hp->Prop),Inv X ah Y H s->t Y H Q->wpAny (~~~2) X.A m (λ_ s'=>∃σ' H',Inv X ah σ' H' s'/\Q σ' H') (λ_ _=>False) s
def Ff(D:Addr)(te:TE):TU:=λY H Q=>te Y H λv H5=>∃ys,H5 D=some (.lst ys)/\ys.length<sizeLine/\Q Y (upd H5 D (.lst (ys++[v])))
theorem za(he:PE X jQ te)(hx:X.xe=λ_ _=>False):PU X (do let _ <- call (.builtin "list.append") [.ref D,<- eval jQ X.env]) (Ff D te):=by
 intro ah s Y H Q I h;have he:=he ah s Y H _ I h;rw[hx]at he;refine aS (oQ he (?_) λ_ _ z=>z)
 rintro y s8 ⟨v,H8,I8,r8,ys,ZD,ZF,q8⟩;have ma:=fL ah s8 Y H8 (.ref D) [v] (.ref D) [y] (λ_ H9=>Q Y H9) I8 rfl (.cons r8 .nil) ⟨_,ys,v,rfl,rfl,ZD,ZF,q8⟩
 rw[hx]at ma;exact aS (oQ ma (by rintro _ s9 ⟨_,H9,I9,_,q9⟩;exact c8 ⟨Y,H9,I9,q9⟩) λ_ _ z=>z)
noncomputable def σC(k:Nat)(D:Addr)(Y:St):St:=Y++(List.replicate k none++[some (.ref D)])
def Wv(X:Cx)(Y:St)(b:Bk):Prop:=∃ah,Inv X ah Y b.H₀ b.s₀/\∀a∈b.fp,gZ X ah b.H₀ a
def Fg(u0:HO)(X:Cx)(k:Nat)(g:Bk->TG)(tt:Bk->TT)(te:Addr->Bk->TU)(J:It)(D:Addr)(Y:St)(H1:Hp)(Q:VK):Prop:=
 ∃W:Nat->Nat->St->Hp->Prop,(∃m,W 0 m (σC k D Y) (upd H1 D u0))/\∀i m σ' H',W i m σ' H'->
  (J.stop i H'/\Q (.ref D) H')\/(J.go i H'/\∃Nn:St->Hp->Prop,(∀P6 P7,Nn P6 P7->∃m',m'<m/\W (i+1) m' P6 P7)/\∀x H2,J.UT i H' x H2->∀bk:Bk,Wv X Y bk->g bk x σ' H2 λσ2 H3=>tt bk σ2 H3 λb H4=>
   if b=true then te D bk σ2 H4 Nn else Nn σ2 H4)
noncomputable def zb(u0:HO)(X:Cx)(k:Nat)(wi:TI)(g:Bk->TG)(tt:Bk->TT)(te:Addr->Bk->TU):TE:=λY H Q=>wi Y H λJ H1=>∀D,H1 D=none->Fg u0 X k g tt te J D Y H1 Q
abbrev zc:=zb (.lst [])
structure Ck(X:Cx)(ce tg iter:Expr)(ifs:List Expr)(aE:List Comprehension)(new:Sem Value)(u0:HO)(em:Value->Env->Sem Unit):Prop where
 cls:clausesOf ce=⟨tg,iter,ifs,0⟩::aE
 Yl:Cu ce
 turn:∀it D env,compTurn ce 0 it (.ref D) env=sU ce tg iter ifs 0 it (.ref D) env (em (.ref D) env)
 new:∃o0:Obj,o0.isFreed=false/\(∀{A:Around}{E Q:Value->Shared->Prop}{s:Shared},Q (.ref s⁻¹) { s with heap:=s.heap.push o0}->wpAny (~~~2) A new Q E s)/\
  ∀(H:Hp) (h:Heap) (a:Addr),h.get? a=some o0->(a==sysModules)=false->cD X.prog X.w H h a u0
 start:∀{A:Around}{R:Result->Shared->Prop}{s:Shared}{it acc:Value}{env:Env},codeAny (~~~2) A (.compLoop ce 0 it acc env) R s->
  wpAny (~~~2) A (pyIter it) (λit' s'=>codeAny (~~~2) A (.compLoop ce 0 it' acc env) R s') (notedBy (~~~2) A env λx s'=>R (.error x) s') s->codeAny (~~~2) A (.compStart ce 0 it acc env) R s
theorem uP{X:Cx}{jQ tg iter:Expr}{ifs:List Expr}{aE:List Comprehension}{scope:Scope}{pos:Pos}{em:Value->Env->Sem Unit}(h:∀it acc env,compTurn (.ListComp jQ (⟨tg,iter,ifs,0⟩::aE) scope pos) 0 it acc env=sU (.ListComp jQ (⟨tg,iter,ifs,0⟩::aE) scope pos) tg iter ifs 0 it acc env (em acc env)) :
  Ck X (.ListComp jQ (⟨tg,iter,ifs,0⟩::aE) scope pos) tg iter ifs aE (newList []) (.lst []) em where
 cls:=rfl
 Yl:=λ_ _ _ _ _ _ _=>⟨rfl,rfl⟩
 turn:=λit D env=>h it (.ref D) env
 new:=⟨_,rfl,λh=>lL h,λ_ _ _ e _=>⟨t7 _,[],_,.nil,e⟩⟩
 start:=codeAny_compStart_list
structure Names(N N':List Str)(scope:Scope)(k:Nat):Prop where
 len:N'.length=N.length+(k+1)
 last:∀x,N'[N.length+k]?=some x->scope.names.lookup x=none
 old:∀i x,N'[i]?=some x->i<N.length->scope.names.lookup x=none\/(N[i]?=some x/\scope.names.lookup x≠some .local)
theorem cI:(relabel scope env).names.lookup x=(scope.names.lookup x).map λk=>if (k==NameKind.free&&env.scope.kind==.function&&env.kindOf x==some .cell)then NameKind.cell else k:=fy
section
variable{X:Cx}
theorem kH(B:dj X.env.scope scope)(h:(compEnvC scope cl C X.env).kindOf x=some .cell\/(compEnvC scope cl C X.env).kindOf x=some .free) :
  (x,NameKind.free)∈scope.names:=by
 have e:(compEnvC scope cl C X.env).kindOf x=(scope.names.lookup x).map λk=>if (k==NameKind.free&&X.env.scope.kind==.function&&X.env.kindOf x==some .cell)then NameKind.cell else k:=cI
 rw[e]at h;cases q:scope.names.lookup x with
 |none=>rw[q]at h;rcases h with h |h <;> symm
 |some k=>
  have hm:=mem_of_lookup q;cases k with
  |free=>exact hm
  |cell=>exact absurd rfl (B.yX _ hm)
  |_=>rw[q]at h;rcases h with h |h <;> (simp at h)
theorem zf(B:dj X.env.scope scope)(I: ~~~7)(hC:s⁻¹<=C)
  (hf:∀b∈fp,gZ X ah H b) (hfs:∀b∈fp,b<s⁻¹)
  (hcl:∀x c,cl.lookup x=some c->X.env.cells.lookup x=some c/\(x,NameKind.free)∈scope.names) (Fj:∀y∈scope.names,y.2=.free->∃c,cl.lookup y.1=some c):(X.block N' scope cl C s H fp).Ok where
 mod:=I.ok.mod
 kind:=B.kind
 glob:=I.ok.glob
 blt:=I.ok.blt
 above:=hC
 inj:=λx y c h1 h2=>I.ok.inj x y c (hcl x c h1).1 (hcl y c h2).1
 has:=λx h=>Fj _ (kH B h) rfl
 PX:=λx c h1 h2=>by
  have e:scope.names.lookup x=some .local:=by have:(scope.names.lookup x==some NameKind.local)=true:=h1;simpa using this
  have h3:=(hcl x c h2).2;have q:=B.Rp _ h3 rfl;rw[e]at q;cases q
 hd:=I.ok.hd
 frames:=I.ok.frames
 stk:=.inl rfl
 Qx:=λb hb=>⟨i8 (eP (hfs b hb) hC),λx c e=>(hf b hb).2.2.2.2.1 x c (hcl x c e).1⟩
 bs:=I.bs
 Ei:=hU I.ok.Ei I.sz
 sC:=λb o e hb=>by
  obtain⟨_,_,_,h3,_⟩:=hf b hb;rcases h3 with h3 |h3
  . exact I.ok.sC b o e h3
  . exact absurd (eP (eJ e) (hU I.ok.Ei h3)) (oT _)
 v5:=λb hb hm=>by
  rcases c6.mp (I.sD b hm)with e |e
  . exact (hf b hb).2.1 e
  . exact (hf b hb).2.2.1 e
 jH:=I.stack
 J7:=I.uF
theorem mV{ah: ~~~1}{Y:St}{H:Hp}{s:Shared}{N':List Str}{k:Nat}{wi:TI}{g:Bk->TG}{tt:Bk->TT}{tu:Addr->Bk->TU}{ce:Expr}{aE:List Comprehension}{new:Sem Value}{u0:HO}{cp:Pos}{em:Value->Env->Sem Unit}{use:Option (Value->Sem Unit)}{Q:Value->Shared->Prop}{Q0:VK}
  (B:dj X.env.scope scope) (hc:X.calm=true) (hN:Names X.N N' scope k) (hi:PI X tg iter wi) (ck:Ck X ce tg iter ifs aE new u0 em)
  (hin:∀(b:Bk) (D:Addr),PG (X.blk N' scope b) tg (g b)/\qw (X.blk N' scope b) ifs (tt b)/\PU (X.blk N' scope b) (em (.ref D) (X.blk N' scope b).env) (tu D b))
  (hs:∀x,foldedSetIterable iter X.env x=pure x) (I: ~~~7) (h:zb u0 X k wi g tt tu Y H Q0)
  (fin:∀s' H' D C m,Inv X ah Y H' s'->gZ X ah H' C->s'.heap.Ns C m->Q0 (.ref D) H'->compPost (~~~2) X.A X.xe use Q (.ref D) C (.ok .next) s') :
  wpAny (~~~2) X.A (comprehension ce scope X.env cp new false (eval iter X.env) use) Q X.xe s:=by
 obtain⟨cl,hclos,hcl,Fj⟩:=sS λy hy hf=>I.ok.has y.1 (B.free y hy hf)
 refine wpAny_comprehension_free ck.cls hs hclos B.kind B.uniq (bG (hi ah s Y H _ I h) λxv s₁ h₁=>bG h₁ λitv s₂ h₂=>?_)
 obtain⟨it,fp,tn,J,H2,rfl,I2,T,aP,f2,hW⟩:=h₂;obtain⟨o0,ZG,Ww,ZJ⟩:=ck.new;refine Ww (wpAny_newFunctionEnv B.yX (by intro y hy;simp at hy) (λh₁ Rr K6=>?_) B.kind)
 generalize Wx:s₂.heap.push o0=P2 at Rr K6 ⊢
 have hC:P2.objs.size=s₂⁻¹+1:=by rw[<- Wx,x5]
 have hDC:s₂⁻¹≠P2.objs.size:=by rw[hC];exact i8 (u7 _)
 have K7:s₂⁻¹<=P2.objs.size:=by rw[hC];exact AE _
 have old:∀b o,s₂.heap.get? b=some o->h₁.get? b=some o:=λb o e=>K6.extBut b o (i8 (by rw[hC];exact Nat.lt_succ_of_lt (eJ e))) (a9 _ (Wx▸a9 _ e))
 have Ym:=I2.hok.fresh (dC _);have ZK:=I2.hok.fresh K7;have Wy:(s₂⁻¹==sysModules)=false:=by
  have h1:=(I2.ok.mod.glob.keeps I2.bk).lt;refine Bool.eq_false_iff.mpr λq=>?_
  have q:=eq_of_beq q;rw[q]at h1;exact absurd h1 ⋯
 have Yn:∀b∈fp,b<s₂⁻¹:=λb hb=>by
  obtain⟨o,e,_⟩:=T.obj _ _ aP b hb;exact eJ e
 have ok':=zf (N':=N') B I2 K7 f2 Yn hcl Fj;obtain⟨W,⟨m0,w0⟩,turn⟩:=hW s₂⁻¹ Ym;have Wz:∀b∈fp,b∉frs X.stack:=λb hb=>ok'.v5 b hb
 obtain⟨hg,ht,he⟩:=hin ⟨cl,P2.objs.size,s₂,H2,fp⟩ s₂⁻¹;have I0:Inv (X.block N' scope cl P2.objs.size s₂ H2 fp) [] (σC k s₂⁻¹ Y) (upd H2 s₂⁻¹ u0) { s₂ with heap:=h₁,toks:=s₂.toks+([]:List (Str×Value)).length}:=by
  refine⟨ok',rfl,I2.bare,Un.laid old (dC _) Ym,⟨_,Rr,λi x v e1 e2 e3=>?_⟩,λx c e=>?_,?_,λx c e=>?_,λp hp=>?_,I2.hok.laid old (dC _) ?_,?_⟩
  .
   have Rt:(compEnvC scope cl P2.objs.size X.env).kindOf x=some .local\/(compEnvC scope cl P2.objs.size X.env).kindOf x=some .cell\/(compEnvC scope cl P2.objs.size X.env).kindOf x=some .free:=e3;have ek:(compEnvC scope cl P2.objs.size X.env).kindOf x=(scope.names.lookup x).map λk=>if (k==NameKind.free&&X.env.scope.kind==.function&&X.env.kindOf x==some .cell)then NameKind.cell else k:=cI
   have QB:i<Y.length:=by
    rcases vS i Y.length with z |z
    . exact z
    .
     exfalso;unfold σC at e2;rw[eD z]at e2;rcases vS (i - Y.length) k with z2 |z2
     .
      rw[eA (by rw[kA];exact z2)]at e2
      have:=rV e2;rw[yY]at this;exact absurd this.2 ⋯
     .
      rw[eD (by rw[kA];exact z2),kA]at e2
      have z3:i - Y.length - k=0:=by
       rcases Nat.eq_zero_or_pos (i - Y.length - k)with q |q
       . exact q
       . rw[y0 (Nat.succ_le_of_lt q)]at e2;cases e2
      have z4:i=X.N.length+k:=by rw[<- I2.len];lia
      have hn:=hN.last x (by rw[<- z4];exact e1)
      rw[ek,hn]at Rt;rcases Rt with q |q |q <;> cases q
   have U6:Y[i]?=some (some v):=by unfold σC at e2;rw[eA QB]at e2;exact e2
   have ZL:i<X.N.length:=by rw[<- I2.len];exact QB
   rcases hN.old i x e1 ZL with z |⟨z,z2⟩
   . rw[ek,z]at Rt;rcases Rt with q |q |q <;> cases q
   .
    have hfree:(compEnvC scope cl P2.objs.size X.env).kindOf x=some .cell\/(compEnvC scope cl P2.objs.size X.env).kindOf x=some .free:=by
     rcases Rt with q |q
     .
      exfalso;rw[ek]at q;cases hq:scope.names.lookup x with
      |none=>rw[hq]at q;cases q
      |some kk=>
       rw[hq]at q;cases kk with
       | «local»=>exact z2 hq
       |free=>simp only[BD]at q;split at q <;> cases q
       |_=>simp at q
     . exact q
    have hm:=kH B hfree;obtain⟨c,hc1⟩:=Fj _ hm rfl;have Ru:=hc1;have hc2:=(hcl x c Ru).1;obtain⟨m2,hn2,hl2⟩:=I2.loc;have WD:ym X.env.scope x:=(B.free _ hm rfl).elim (λa=>.inr (.inl a)) λa=>.inr (.inr a)
    obtain⟨u,ru,lk⟩:=hl2 i x v z U6 WD;refine⟨u,ru,.inr ⟨hfree,c,Ru,?_⟩⟩;rcases lk with ⟨q1,_⟩ |⟨_,c',q1,q2⟩
    .
     exfalso;have zg:X.env.scope.names.lookup x=some .local:=q1;rcases B.free _ hm rfl with y |y
     . have y':=y;rw[zg]at y';cases y'
     . have y':=y;rw[zg]at y';cases y'
    . rw[hc2]at q1;cases q1;obtain⟨o,ho,hd⟩:=q2;exact⟨o,old _ _ ho,hd⟩
  . obtain⟨v,o,ho,hd⟩:=I2.cell x c (hcl x c e).1;exact⟨v,o,old _ _ ho,hd⟩
  . show upd H2 s₂⁻¹ u0 P2.objs.size=none;rw[az (oS hDC)];exact ZK
  . have q:=I2.gg x c (hcl x c e).1;obtain⟨v,z⟩:=I2.cell x c (hcl x c e).1;rw[az (i8 z.lt)];exact q
  . exact absurd (show p∈([]: ~~~1)from hp) ⋯
  . exact ZJ _ _ _ (K6.extBut _ _ hDC (a9 _ (Wx▸d0 _ ZG))) Wy
  . show (σC k s₂⁻¹ Y).length=N'.length;unfold σC;rw[hZ,hZ,kA,hN.len,I2.len];rfl
 have stat:∀{H':Hp},(∀b∈fp,H' b=none)->∀b∈fp,gZ (X.block N' scope cl P2.objs.size s₂ H2 fp) [] H' b:=λhn b hb=>
  ⟨hn b hb,(ok'.Qx b hb).1,Wz b hb,.inl hb,λx c e=>(ok'.Qx b hb).2 x c e,λp hp=>absurd (show p∈([]: ~~~1)from hp) ⋯⟩
 have loop:∀s₃:Shared,s₃={ s₂ with heap:=h₁,toks:=s₂.toks+([]:List (Str×Value)).length}->
   codeAny (~~~2) X.A (.compLoop ce 0 (.ref it) (.ref s₂⁻¹) (compEnvC scope cl P2.objs.size X.env))
    (compPost (~~~2) X.A X.xe use Q (.ref s₂⁻¹) P2.objs.size) s₃:=by
  rintro s₃ rfl;refine oN ck.Yl (ck.turn _ _ _) (λn s'=>∃i σ' H',Inv (X.block N' scope cl P2.objs.size s₂ H2 fp) [] σ' H' s'/\tn i s'.heap/\(∀b∈fp,H' b=none)/\W i n σ' H') ?_ m0
   ⟨0,_,_,I0,T.keep _ _ _ aP λb hb o e=>old b o e,λb hb=>?_,w0⟩
  .
   rintro n s3 ⟨i,σ3,H3,I3,eV,QW,w3⟩;rcases turn i n σ3 H3 w3 with ⟨stop,qn⟩ |⟨go,Nn,ZM,step⟩
   .
    refine bG (T.done (X.block N' scope cl P2.objs.size s₂ H2 fp) rfl rfl rfl hc i [] s3 σ3 H3 (λ_ _=>False) I3 (stat QW) eV stop) λr s4 ⟨hr,I4⟩=>?_
    subst hr;obtain⟨m,hm,_⟩:=id I4.loc;have I5:=I2.call' I4.os I4.base I4.hok I4.bare λb hb=>⟨(f2 b hb).2.2.2.1,(f2 b hb).2.1,(f2 b hb).2.2.2.2.1,(f2 b hb).2.2.2.2.2⟩
    exact fin s4 H3 _ _ m I5 (I2.v7 K7 I4.free) hm qn
   .
    refine bG (T.item (X.block N' scope cl P2.objs.size s₂ H2 fp) rfl rfl rfl hc i [] s3 σ3 H3 (λ_ _=>False) I3 (stat QW) eV go) λr s4 ⟨u,hr,h4⟩=>?_
    subst hr;refine bG h4 ?_;rintro _ s5 ⟨x,H5,I5,r5,y5,yL,V7⟩;have V8:=I5.pinned (stat V7) (T.obj _ _ yL);have again:∀{σ7:St}{H7:Hp}{s7:Shared},Inv (X.block N' scope cl P2.objs.size s₂ H2 fp) ([]++kD fp s5.heap) σ7 H7 s7->Nn σ7 H7->∃m,m<n/\∃i σ' H',Inv (X.block N' scope cl P2.objs.size s₂ H2 fp) [] σ' H' s7/\tn i s7.heap/\(∀b∈fp,H' b=none)/\W i m σ' H':=λ{σ7 H7 s7} I7 n7=>by
     obtain⟨m',hm,w7⟩:=ZM σ7 H7 n7;refine⟨m',hm,i+1,σ7,H7,I7.g5,T.keep _ _ _ yL λb hb o e=>(I7.pin (b,o) (fN _ (fN _ (eG hb e)))).1,λb hb=>?_,w7⟩
     obtain⟨o,e,d⟩:=T.obj _ _ yL b hb;exact (I7.pin (b,o) (fN _ (fN _ (eG hb e)))).2.1
    refine bG (hg _ s5 σ3 H5 x u _ V8 r5 (step x H5 y5 ⟨cl,P2.objs.size,s₂,H2,fp⟩ ⟨ah,I2,f2⟩)) ?_;rintro _ s6 ⟨σ6,H6,I6,q6⟩;refine bG (ht _ s6 σ6 H6 _ I6 q6) ?_;rintro b s7 ⟨H7,I7,q7⟩;cases b with
    |false=>exact again I7 q7
    |true=>exact oQ (he _ s7 σ6 H7 _ I7 q7) (by rintro _ s9 ⟨σ9,H9,I9,q9⟩;exact again I9 q9) λ_ _ z=>z
  . show upd H2 s₂⁻¹ u0 b=none;rw[az (i8 (Yn b hb))];exact (f2 b hb).1
 refine ck.start (loop _ rfl) (T.self _ 0 _ _ _ ?_ (loop _ rfl));exact T.keep _ _ _ aP λb hb o e=>old b o e
theorem Fo{N':List Str}{k:Nat}{wi:TI}{g:Bk->TG}{tt:Bk->TT}{te:Bk->TE}(B:dj X.env.scope scope)(hc:X.calm=true)(hN:Names X.N N' scope k)(hi:PI X tg iter wi)
  (hin:∀b:Bk,PG (X.blk N' scope b) tg (g b)/\qw (X.blk N' scope b) ifs (tt b)/\PE (X.blk N' scope b) jQ (te b))
  (hs:∀x,foldedSetIterable iter X.env x=pure x:=by intro _;rfl):PE X (.ListComp jQ [⟨tg,iter,ifs,0⟩] scope pos) (zc X k wi g tt λD b=>Ff D (te b)):=by
 intro ah s Y H Q I h;refine mV B hc hN hi (uP λ_ _ _=>rfl) (λb D=>⟨(hin b).1,(hin b).2.1,za (hin b).2.2 rfl⟩) hs I h λs' H' D C m I' f' hn q=>?_
 refine⟨m,hn,λh' sb=>⟨.ref D,H',?_,rfl,q⟩⟩
 obtain⟨f0,f1,f2,f3,f4,f5⟩:=f';exact I'.turned (λb o hb e=>(sb.2 b hb).trans e) f0 f1 f3 f4 f5
theorem Fp{N':List Str}{k:Nat}{wi:TI}{g:Bk->TG}{tt:Bk->TT}{te:Bk->TE}{i:Nat}{y:Str}{py gf:Pos}(B:dj X.env.scope scope)(hc:X.calm=true)(hN:Names X.N N' scope k)(hi:PI X tg iter wi)
  (hin:∀b:Bk,PG (X.blk N' scope b) tg (g b)/\qw (X.blk N' scope b) ifs (tt b)/\PE (X.blk N' scope b) jQ (te b))
  (WK:X.N.Nodup) (hy:X.N[i]?=some y) (hl:X.env.scope.names.lookup y=some .local)
  (hsw:swapsWith (.ListComp jQ [⟨tg,iter,ifs,0⟩] scope pos) (some (.Name y py)) gf.line X.env=pure true)
  (hs:∀x,foldedSetIterable iter X.env x=pure x:=by intro _;rfl):PS X (.Assign [.Name y py] (.ListComp jQ [⟨tg,iter,ifs,0⟩] scope pos) gf) (Kl (zc X k wi g tt λD b=>Ff D (te b)) (yH i)):=by
 intro ah s Y H D0 I h;rw[exec_Assign_Name_used _ _ _ _ hsw];refine aS (A8 (aS ?_));refine aS (oQ (mV B hc hN hi (uP λ_ _ _=>rfl) (λb D=>⟨(hin b).1,(hin b).2.1,za (hin b).2.2 rfl⟩) hs I h λs' H' D C m I' f' hn q=>?_) (λ_ s' hq=>c8 (c8 hq)) λ_ _ e=>e)
 refine wpAny_assign_Name (mH I' WK hy (.inl hl) (v:=.ref D) rfl (λs2 I2 hsb=>?_) (.inr hl))
 obtain⟨f0,f1,f2,f3,f4,f5⟩:=f';obtain⟨a,sb,ha⟩:=hsb;have nC:C≠a:=by
  rcases ha with e |e
  . rw[e];exact f1
  . exact oS (f4 _ _ e)
 refine⟨m,hn.sameBut sb nC,λh' sb'=>⟨_,H',?_,q⟩⟩
 exact I2.turned (λb o hb e=>(sb'.2 b hb).trans e) f0 f1 f3 f4 f5
end
section
variable{X:Cx}{ah: ~~~1}{Y:St}{H:Hp}{s:Shared}
abbrev WL (X:Cx):=tupleKind (eF X.prog X.w)
theorem wD:∀{ks:List Key}{aq:List Value},Vals (ks.map kV) aq->PySem.ItemsAre (eF X.prog X.w) ks aq:=by
 intro ks
 induction ks with
 |nil=>intro aq h;symm;exact .nil
 |cons k ks ih=>
  intro aq h;cases h with
  |cons h r=>
   cases k with
   |inl i=>obtain⟨t,rfl⟩:=h;exact .cons (qa _ _ _ _) (ih r)
   |inr x=>obtain⟨t,rfl⟩:=h;exact .cons (qc _ _ _ _) (ih r)
theorem Inv.zh(I: ~~~7)(h:fU X.K H a (ks.map kV)):(WL X).is s.heap ks a:=by obtain⟨aq,r,⟨o,e,c,n,d⟩,_⟩:=I.tuple h;exact⟨o,aq.toArray,n,e,c,d,by simpa using wD r⟩
theorem sV{α β:Type}{F:α->β->Prop}:∀{l:List α}{m:List β},Paired F l m->∀b∈m,∃a∈l,F a b:=by
 intro l m hp b hb
 induction hp with
 |nil=>cases hb
 |cons h r ih=>
  rcases c6.mp hb with rfl |e
  . exact⟨_,bP,h⟩
  . obtain⟨a,h1,h2⟩:=ih e;exact⟨a,a8 _ h1,h2⟩
noncomputable def atK{α:Type}(l:List (List Key×α))(ks:List Key):Option α:=(l.find? λp=>decide (p.1=ks)).map (·.2)
theorem qz{F:List Key×V->List Key×Addr×Value->Prop}(hF:∀p q,F p q->p.1=q.1/\RelV p.2 q.2.2){ks:List Key}{v:V}:∀{l:List (List Key×V)}{m:List (List Key×Addr×Value)},Paired F l m->atK l ks=some v->∃p,atKey m ks=some p/\RelV v p.2:=by
 intro l m hp e
 induction hp with
 |nil=>cases e
 |@cons p q l m h r ih=>
  obtain⟨k,x⟩:=p;obtain⟨k',a,u⟩:=q;obtain⟨e1,e2⟩:=hF _ _ h;subst e1;unfold atK at e;unfold atKey;rw[List.find?_cons]at e ⊢
  by_cases hk:k=ks
  .
   rw[show decide (k=ks)=true from i4 hk]at e ⊢
   cases e;exact⟨(a,u),rfl,e2⟩
  .
   rw[show decide (k=ks)=false from hV hk]at e ⊢
   exact ih e
theorem Inv.Rv{d:Addr}{e8:List (List Key×V)}(I: ~~~7)(h:H d=some (.dT e8)):∃xs,s.heap.DictOfH (WL X) d xs/\Paired (λ(p:List Key×V) (q:List Key×Addr×Value)=>p.1=q.1/\H q.2.1=some (.tup (p.1.map kV))/\RelV p.2 q.2.2) e8 xs/\e8.length<=sizeLine/\(d==sysModules)=false:=by
 obtain⟨hz,hs,xs,pr,o,es,ep,e1,e2,e3,e4,e5⟩:=(show cD X.prog X.w H s.heap d (.dT e8)from I.hok d _ h);refine⟨xs,⟨o,es,ep,e1,e2,e3,e4,λx hx=>?_,e5⟩,pr,hz,hs⟩
 obtain⟨p,_,q1,q2,_⟩:=sV pr x hx;rw[<- q1];exact I.zh (.inl (.inl q2))
def WM(K:Frag):R2:=λx y H Q=>∃p a e8 ks v,x=.ref p/\y=.ref a/\H p=some (.dT e8)/\fU K H a (ks.map kV)/\atK e8 ks=some v/\Q v H
theorem Fq(hu:X.A.units+1<cLine):P5 X (WM X.K):=by
 intro value slice ah s Y H x y v u Q I rx ry h hs;obtain⟨p,a,e8,ks,z,rfl,rfl,hp,ha,he,q⟩:=h;cases rx;cases ry;obtain⟨xs,dh,pr,hz,hy⟩:=I.Rv hp;obtain⟨w,w1,w2⟩:=qz (λ_ _ h=>⟨h.1,h.2.2⟩) pr he
 have fin:EP X ah Y Q w.2 { s with toks:=s.toks+(WL X).draws ks}:=⟨z,H,I.tok _,w2,q⟩;exact subscriptTail_builtinR dh.typeIs slot_dict_getitem.lookup (wpAny_getItem_heap (tupleKind_room_in1 hu) (I.zh ha) dh w1 ⟨rfl,fin⟩) hs
end
end L2
namespace Ev
open L2
inductive D where
 |non |bl (b:Bool) |int (i:Int) |str (x:Str) |tup (l:List D) |lst (l:List D) |fix (l:List D) |emp |uQ (C:Addr) |uR (ks: ~~~5) (ds:List D)
 deriving Inhabited
inductive Slot where
 |no |dat (d:D) |own (l:List D)
 deriving Inhabited
inductive R where
 |dat (d:D) |new (l:List D) |var (i:Nat)
 deriving Inhabited
abbrev G:=List Slot
abbrev Sg:=L2.St
abbrev K0:Hp:=λ_=>none
def LstAt(M:List Addr)(H:Hp)(a:Addr)(xs:List V):Prop:=a∉M/\H a=some (.lst xs)
def kI(K:Frag)(M:List Addr)(H:Hp)(a:Addr)(xs:List V):Prop:=(a∉M/\∃o,H a=some (.jG o (.lst xs)))\/bH K K0 a xs
def TupAt(K:Frag)(M:List Addr)(H:Hp)(a:Addr)(xs:List V):Prop:=(a∉M/\Rd H a (.tup xs))\/(fU K K0 a xs/\∃o,K.lookup a=some o/\o.dict=none)
theorem Yo(h:Rd K0 a u):False:=by rcases h with h |⟨o,h⟩ <;> symm
theorem kI.sq{K:Frag}{M:List Addr}{H:Hp}{a:Addr}{xs:List V}(h:kI K M H a xs):bH K H a xs:=by
 rcases h with ⟨_,o,h⟩ |h |h
 . exact .inl (.inr ⟨o,h⟩)
 . exact (Yo h).elim
 . exact .inr h
theorem TupAt.sq{K:Frag}{M:List Addr}{H:Hp}{a:Addr}{xs:List V}(h:TupAt K M H a xs):fU K H a xs:=by
 rcases h with ⟨_,h⟩ |⟨h |h,_⟩
 . exact .inl h
 . exact (Yo h).elim
 . exact .inr h
noncomputable abbrev WN(C a:Addr):HO:=.ext λh=>∃o,h.get? a=some o/\o.cls=.ref C/\PySem.W.notCls o=true/\o.dict=none
structure Rw(K:Frag)(C:Addr):Prop where
 ZN:PySem.W.findIn K (.ref C) "__getattribute__"=some (some (.builtin "BaseException.__getattribute__"))
 ZP:PySem.W.findIn K (.ref C) "__getattr__"=some none
 ZQ:PySem.W.mroIn K C (.type "BaseException")=some true
 dct:PySem.W.hasDictIn K C=true
 cls:PySem.W.findIn K (.ref C) "__class__"=some (some (.builtin "object.__class__"))
 ZR:PySem.W.specialIn K (.builtin "object.__class__") "__get__"=some (some (.builtin "getset_descriptor.__get__"))
 tks:PySem.W.takesIn K (.builtin "object.__class__")=some true
 mro:PySem.W.mroIn K C (.type "object")=some true
 kit:∀n∈["int", "bool", "str", "tuple", "list", "dict"],PySem.W.kitOne K (.ref C) (.type n)=some false
noncomputable abbrev WQ(ks: ~~~5)(vs:List V):HO:=.dT ((ks.map (List.map Sum.inl)).zip vs)
def Rx:HO->Prop
 |.lst _ |.dT _=>True
 |_=>False
mutual
inductive Rep(K:Frag)(M:List Addr)(H:Hp):D->V->Prop
 |non:Rep K M H .non .non
 |bl (b:Bool):Rep K M H (.bl b) (.bl b)
 |int (i:Int):Rep K M H (.int i) (.int i)
 |str (x:Str):Rep K M H (.str x) (.str x)
 |tup {l:List D}{a:Addr}{xs:List V}:TupAt K M H a xs->aG K M H l xs->Rep K M H (.tup l) (.ref a)
 |lst {l:List D}{a:Addr}{xs:List V}:LstAt M H a xs->aG K M H l xs->Rep K M H (.lst l) (.ref a)
 |fix {l:List D}{a:Addr}{xs:List V}:kI K M H a xs->aG K M H l xs->Rep K M H (.fix l) (.ref a)
 |emp:a∉M->H a=some (.dK [])->Rep K M H .emp (.ref a)
 |uQ:Rw K C->a∉M->H a=some (WN C a)->Rep K M H (.uQ C) (.ref a)
 |uR:a∉M->H a=some (WQ ks vs)->ks.length=vs.length->aG K M H ds vs->Rep K M H (.uR ks ds) (.ref a)
inductive aG(K:Frag)(M:List Addr)(H:Hp):List D->List V->Prop
 |nil:aG K M H [] []
 |cons {d:D}{ds:List D}{x:V}{xs:List V}:Rep K M H d x->aG K M H ds xs->aG K M H (d::ds) (x::xs)
end
def ak(M:List Addr)(H:Hp)(M':List Addr)(H':Hp):Prop:=∀b o,H b=some o->b∉M->H' b=some o/\b∉M'
theorem ak.rd(h:ak M H M' H')(n:a∉M)(r:Rd H a u):a∉M'/\Rd H' a u:=by
 rcases r with r |⟨o,r⟩
 . exact⟨(h _ _ r n).2,.inl (h _ _ r n).1⟩
 . exact⟨(h _ _ r n).2,.inr ⟨o,(h _ _ r n).1⟩⟩
theorem Rep.stay{K:Frag}{M M':List Addr}{H H':Hp}(h:ak M H M' H'){d:D}{v:V}(r:Rep K M H d v):Rep K M' H' d v:=by
 refine Rep.rec .non .bl .int .str (λt _ q=>?_) (λt _ q=>?_) (λt _ q=>?_) (λn r=>.emp (h _ _ r n).2 (h _ _ r n).1) (λx n r=>.uQ x (h _ _ r n).2 (h _ _ r n).1) (λn r l _ q=>.uR (h _ _ r n).2 (h _ _ r n).1 l q) .nil (λ_ _ a b=>.cons a b) r
 .
  rcases t with t |t
  . exact .tup (.inl (h.rd t.1 t.2)) q
  . exact .tup (.inr t) q
 . exact .lst ⟨(h _ _ t.2 t.1).2,(h _ _ t.2 t.1).1⟩ q
 .
  rcases t with ⟨n,o,r⟩ |t
  . exact .fix (.inl ⟨(h _ _ r n).2,o,(h _ _ r n).1⟩) q
  . exact .fix (.inr t) q
theorem aG.stay{K:Frag}{M M':List Addr}{H H':Hp}(h:ak M H M' H'):∀{ds:List D}{vs:List V},aG K M H ds vs->aG K M' H' ds vs:=by
 intro ds
 induction ds with
 |nil=>intro vs q;cases q;exact .nil
 |cons d ds ih=>intro vs q;cases q with |cons a b=>exact .cons (a.stay h) (ih b)
theorem ak.refl(M:List Addr)(H:Hp):ak M H M H:=λ_ _ e n=>⟨e,n⟩
theorem ak.trans(a:ak M H M1 H1)(b:ak M1 H1 M2 H2):ak M H M2 H2:=λc o e n=>b c o (a c o e n).1 (a c o e n).2
theorem ak.less(h:∀m∈M',m∈M):ak M H M' H:=λ_ _ e n=>⟨e,λz=>n (h _ z)⟩
theorem ak.laid(hp:H p=none):ak M H M (upd H p o):=λb u e n=>⟨by rw[az (aK e hp)];exact e,n⟩
theorem ak.aL(hp:H p=none):ak M H (p::M) (upd H p o):=λb u e n=>
 ⟨by rw[az (aK e hp)];exact e,λz=>(c6.mp z).elim (λq=>aK e hp q) n⟩
theorem ak.write(hp:p∈M):ak M H M (upd H p o):=λb u e n=>⟨by rw[az (λq=>n (by rw[q];exact hp))];exact e,n⟩
theorem aG.length{K:Frag}{M:List Addr}{H:Hp}{ds:List D}{vs:List V}(r:aG K M H ds vs):ds.length=vs.length:=by
 induction ds generalizing vs with
 |nil=>cases r;rfl
 |cons d ds ih=>cases r with |cons a b=>exact congrArg (· + 1) (ih b)
theorem aG.append{K:Frag}{M:List Addr}{H:Hp}{ds es:List D}{vs ws:List V}(r:aG K M H ds vs)(s:aG K M H es ws):aG K M H (ds++es) (vs++ws):=by
 induction ds generalizing vs with
 |nil=>cases r;exact s
 |cons d ds ih=>cases r with |cons a b=>exact .cons a (ih b)
theorem aG.get{K:Frag}{M:List Addr}{H:Hp}{ds:List D}{vs:List V}{i:Nat}{d:D}(r:aG K M H ds vs)(e:ds[i]?=some d):∃v,vs[i]?=some v/\Rep K M H d v:=by
 induction ds generalizing vs i with
 |nil=>exact nomatch (show none=some d from e)
 |cons d' ds ih=>cases r with |cons a b=>cases i with
  |zero=>cases (show some d'=some d from e);exact⟨_,rfl,a⟩
  |succ i=>obtain⟨v,h⟩:=ih b e;exact⟨v,h⟩
theorem aG.set{K:Frag}{M:List Addr}{H:Hp}{d:D}{v:V}(r:Rep K M H d v){ds:List D}{vs:List V}(i:Nat)(q:aG K M H ds vs):aG K M H (ds.set i d) (vs.set i v):=by
 induction ds generalizing vs i with
 |nil=>cases q;exact .nil
 |cons d' ds ih=>cases q with |cons a b=>cases i with
  |zero=>exact .cons r b
  |succ i=>exact .cons a (ih i b)
theorem aG.take{K:Frag}{M:List Addr}{H:Hp}{ds:List D}{vs:List V}(n:Nat)(q:aG K M H ds vs):aG K M H (ds.take n) (vs.take n):=by
 induction ds generalizing vs n with
 |nil=>cases q;rw[List.take_nil,List.take_nil];exact .nil
 |cons d' ds ih=>cases q with |cons a b=>cases n with
  |zero=>exact .nil
  |succ n=>exact .cons a (ih n b)
theorem aG.drop{K:Frag}{M:List Addr}{H:Hp}{ds:List D}{vs:List V}(n:Nat)(q:aG K M H ds vs):aG K M H (ds.drop n) (vs.drop n):=by
 induction ds generalizing vs n with
 |nil=>cases q;rw[List.drop_nil,List.drop_nil];exact .nil
 |cons d' ds ih=>cases q with |cons a b=>cases n with
  |zero=>exact .cons a b
  |succ n=>exact ih n b
theorem aG.reverse{K:Frag}{M:List Addr}{H:Hp}{ds:List D}{vs:List V}(q:aG K M H ds vs):aG K M H ds.reverse vs.reverse:=by
 induction ds generalizing vs with
 |nil=>cases q;exact .nil
 |cons d ds ih=>cases q with |cons a b=>rw[AT,AT];exact (ih b).append (.cons a .nil)
inductive Slots(K:Frag)(M:List Addr)(H:Hp):G->Sg->List Addr->Prop
 |nil:Slots K M H [] [] []
 |no:Slots K M H g Y L->Slots K M H (.no::g) (v::Y) L
 |dat {g:G}{Y:Sg}{L:List Addr}{v:V}{d:D}:Rep K M H d v->Slots K M H g Y L->Slots K M H (.dat d::g) (some v::Y) L
 |own {g:G}{Y:Sg}{L:List Addr}{a:Addr}{xs:List V}{ds:List D}:H a=some (.lst xs)->aG K M H ds xs->Slots K M H g Y L->Slots K M H (.own ds::g) (some (.ref a)::Y) (a::L)
theorem Slots.stay{K:Frag}{M M':List Addr}{H H':Hp}(h:ak M H M' H'){g:G}{Y:Sg}{L:List Addr}(k:∀a∈L,∀o,H a=some o->H' a=some o)(q:Slots K M H g Y L):Slots K M' H' g Y L:=by
 induction q with
 |nil=>exact .nil
 |no q ih=>exact .no (ih k)
 |dat r q ih=>exact .dat (r.stay h) (ih k)
 |own e r q ih=>exact .own (k _ bP _ e) (r.stay h) (ih λa ha=>k a (a8 _ ha))
def qA:List Str:=["law"]
def zj(n:Str):Str:=n ++ ".<locals>." ++ "<lambda>"
noncomputable def cT(K:Frag):List (Addr×Str):=K.filterMap λp=>match p.2.data with
 |.fields vs=>(match vs.toList with
  |_::.str n _::_=>if qA.contains n=true then (match vs.toList[11]? with
   |some (Value.ref q)=>if (K.lookup q).isNone=true then some (q,zj n)else none
   |_=>none)else none
  |_=>none)
 |_=>none
structure Z where
 K:Frag
 H0:Hp
 M0:List Addr
 lent:List (Nat×Addr)
 T:List (Addr×Str)
abbrev Ry(q:Str)(c:Addr):HO:=.ext λh=>h.CodeRec (.ref c) q
def TabOk(H:Hp)(p:Addr×Str):Prop:=∃ps:Array Value,H p.1=some (.yj ps)/\TriplesOk ps.toList/\∀pos cv,codeAmong pos ps.toList=some cv->∃c,cv=.ref c/\H c=some (Ry p.2 c)
noncomputable abbrev Z.TA(z:Z):List Addr:=z.T.map (·.1)
theorem TabOk.keep(t:TabOk H p)(k:∀b o,H b=some o->¬ Rx o->H' b=some o):TabOk H' p:=by obtain⟨ps,h1,h2,h3⟩:=t;exact⟨ps,k _ _ h1 id,h2,λpos cv e=>let ⟨c,e1,e2⟩:=h3 pos cv e;⟨c,e1,k _ _ e2 id⟩⟩
noncomputable abbrev Z.B(z:Z):List Addr:=z.lent.map (·.2)
noncomputable abbrev Z.bor(z:Z):List Nat:=z.lent.map (·.1)
structure S(z:Z)(g:G)(Y:Sg)(L M:List Addr)(H:Hp):Prop where
 sl:Slots z.K M H g Y L
 nd:L.Nodup
 sub:∀a∈L,a∈M
 own:∀(i:Nat) (a:Addr) (l:List D),g[i]?=some (.own l)->Y[i]?=some (some (.ref a))->(i∈z.bor/\a∈z.B)\/z.H0 a=none
 live:∀m∈M,(∃o,H m=some o/\Rx o)\/m∈z.TA
 keep:∀b o,z.H0 b=some o->b∉z.B->b∉z.TA->H b=some o
 ju:∀m∈z.M0,m∈M
 m0:∀m∈z.M0,z.H0 m≠none
 bm:∀b∈z.B,b∈z.M0
 jv:∀p∈z.lent,Y[p.1]?=some (some (.ref p.2))/\∃l,g[p.1]?=some (.own l)
 tab:∀p∈z.T,TabOk H p
 tm:∀p∈z.T,p.1∈z.M0
 tt:z.T=cT z.K
section
variable{g:G}
theorem S.fresh(s:S z g Y L M H)(hp:H p=none):p∉M:=λhm=>by
 rcases s.live p hm with ⟨o,e,_⟩ |e
 . rw[hp]at e;cases e
 . obtain⟨q,hq,rfl⟩:=gN.mp e;obtain⟨ps,h1,_⟩:=s.tab q hq;rw[hp]at h1;cases h1
theorem S.Rz(s:S z g Y L M H)(hp:H p=some (.lst xs)):p∉z.TA:=λe=>by
 obtain⟨q,hq,rfl⟩:=gN.mp e;obtain⟨ps,h1,_⟩:=s.tab q hq;rw[hp]at h1;cases h1
theorem S.bE(s:S z g Y L M H)(hp:H p=none):z.H0 p=none:=by
 cases e:z.H0 p with
 |none=>rfl
 |some o=>
  by_cases hb:p∈z.B
  . exact absurd (s.ju _ (s.bm _ hb)) (s.fresh hp)
  .
   by_cases ht:p∈z.TA
   . obtain⟨q,hq,rfl⟩:=gN.mp ht;exact absurd (s.ju _ (s.tm q hq)) (s.fresh hp)
   . rw[s.keep p o e hb ht]at hp;cases hp
theorem S.laid(s:S z g Y L M H){p:Addr}{o:HO}(hp:H p=none):S z g Y L M (upd H p o) where
 sl:=s.sl.stay (ak.laid hp) λa _ u e=>by rw[az (aK e hp)];exact e
 nd:=s.nd
 sub:=s.sub
 own:=s.own
 live:=λm hm=>by
  rcases s.live m hm with ⟨o,e,gr⟩ |e
  . exact .inl ⟨o,by rw[az (aK e hp)];exact e,gr⟩
  . exact .inr e
 keep:=λb u e hb ht=>by rw[az (aK (s.keep b u e hb ht) hp)];exact s.keep b u e hb ht
 ju:=s.ju
 m0:=s.m0
 bm:=s.bm
 jv:=s.jv
 tab:=λp h=>(s.tab p h).keep λb u e _=>by rw[az (aK e hp)];exact e
 tm:=s.tm
 tt:=s.tt
theorem S.RB(s:S z g Y L M H){p:Addr}{u0:HO}(gu:Rx u0)(hp:H p=none):S z g Y L (p::M) (upd H p u0) where
 sl:=s.sl.stay (ak.aL hp) λa _ u e=>by rw[az (aK e hp)];exact e
 nd:=s.nd
 sub:=λa ha=>a8 _ (s.sub a ha)
 own:=s.own
 live:=λm hm=>by
  rcases c6.mp hm with rfl |hm
  . exact .inl ⟨_,aA,gu⟩
  .
   rcases s.live m hm with ⟨o,e,gr⟩ |e
   . exact .inl ⟨o,by rw[az (aK e hp)];exact e,gr⟩
   . exact .inr e
 keep:=λb u e hb ht=>by rw[az (aK (s.keep b u e hb ht) hp)];exact s.keep b u e hb ht
 ju:=λm hm=>a8 _ (s.ju m hm)
 m0:=s.m0
 bm:=s.bm
 jv:=s.jv
 tab:=λp h=>(s.tab p h).keep λb u e _=>by rw[az (aK e hp)];exact e
 tm:=s.tm
 tt:=s.tt
theorem S.aL(s:S z g Y L M H)(hp:H p=none):S z g Y L (p::M) (upd H p (.lst xs)):=s.RB trivial hp
theorem S.K8(s:S z g Y L M H){a:Addr}{u0 u1:HO}(hm:a∈M)(hA:a∉L)(h0:z.H0 a=none)(h:H a=some u0)(g0:Rx u0)(g1:Rx u1):S z g Y L M (upd H a u1) where
 sl:=s.sl.stay (ak.write hm) λb hb u e=>by rw[az (show b≠a from λq=>hA (by rw[<- q];exact hb))];exact e
 nd:=s.nd
 sub:=s.sub
 own:=s.own
 live:=λm hm=>by
  by_cases e:m=a
  . subst e;exact .inl ⟨_,aA,g1⟩
  .
   rcases s.live m hm with ⟨o,q,gr⟩ |q
   . exact .inl ⟨o,by rw[az e];exact q,gr⟩
   . exact .inr q
 keep:=λb o e hb ht=>by rw[az (λq=>by rw[q,h0]at e;cases e)];exact s.keep b o e hb ht
 ju:=s.ju
 m0:=s.m0
 bm:=s.bm
 jv:=s.jv
 tab:=λp hp=>(s.tab p hp).keep λb o e n=>by rw[az (λq=>by rw[q,h]at e;cases e;exact n g0)];exact e
 tm:=s.tm
 tt:=s.tt
theorem S.drop(s:S z g Y L M H)(h0:z.H0 p=none)(hA:p∉L):S z g Y L (M.filter λm=>decide (m≠p)) H where
 sl:=s.sl.stay (ak.less λm hm=>(eQ.mp hm).1) λ_ _ _ e=>e
 nd:=s.nd
 sub:=λa ha=>eQ.mpr ⟨s.sub a ha,by have:a≠p:=λe=>hA (e▸ha);simpa using this⟩
 own:=s.own
 live:=λm hm=>s.live m (eQ.mp hm).1
 keep:=s.keep
 ju:=λm hm=>eQ.mpr ⟨s.ju m hm,by have:m≠p:=λe=>s.m0 m hm (e▸h0);simpa using this⟩
 m0:=s.m0
 bm:=s.bm
 jv:=s.jv
 tab:=s.tab
 tm:=s.tm
 tt:=s.tt
end
def dO(z:Z)(g:G)(Y:Sg)(L M:List Addr)(H:Hp):R->V->Prop
 |.dat d,v=>Rep z.K M H d v
 |.new l,v=>∃a xs,v=.ref a/\a∈M/\a∉L/\z.H0 a=none/\H a=some (.lst xs)/\aG z.K M H l xs
 |.var i,v=>∃l,g[i]?=some (.own l)/\Y[i]?=some (some v)
inductive Pk(K:Frag)(M:List Addr)(H:Hp):D->V->Prop
 |of:Rep K M H d v->Pk K M H d v
 |lst {l:List D}{a:Addr}{xs:List V}:H a=some (.lst xs)->aG K M H l xs->Pk K M H (.lst l) (.ref a)
theorem Pk.list{K:Frag}{M:List Addr}{H:Hp}{l:List D}{v:V}(h:Pk K M H (.lst l) v):∃a xs,v=.ref a/\H a=some (.lst xs)/\aG K M H l xs:=by
 cases h with
 |of r=>cases r with |lst h1 h2=>exact⟨_,_,rfl,h1.2,h2⟩
 |lst h1 h2=>exact⟨_,_,rfl,h1,h2⟩
theorem Slots.at{K:Frag}{M:List Addr}{H:Hp}{g:G}{Y:Sg}{L:List Addr}{i:Nat}{l:List D}(q:Slots K M H g Y L)(e:g[i]?=some (.own l)):∃a xs,Y[i]?=some (some (.ref a))/\a∈L/\H a=some (.lst xs)/\aG K M H l xs:=by
 induction q generalizing i with
 |nil=>exact nomatch (show none=some (Slot.own l)from e)
 |no q ih=>cases i with
  |zero=>exact nomatch (show some Slot.no=some (Slot.own l)from e)
  |succ i=>exact ih e
 |dat r q ih=>cases i with
  |zero=>exact nomatch (show some (Slot.dat _)=some (Slot.own l)from e)
  |succ i=>exact ih e
 |own h r q ih=>cases i with
  |zero=>cases (show some (Slot.own _)=some (Slot.own l)from e);exact⟨_,_,rfl,bP,h,r⟩
  |succ i=>obtain⟨a,xs,h1,h2,h3⟩:=ih e;exact⟨a,xs,h1,a8 _ h2,h3⟩
theorem Slots.qB{K:Frag}{M:List Addr}{H:Hp}{g:G}{Y:Sg}{L:List Addr}{i:Nat}{d:D}(q:Slots K M H g Y L)(e:g[i]?=some (.dat d)):∃v,Y[i]?=some (some v)/\Rep K M H d v:=by
 induction q generalizing i with
 |nil=>exact nomatch (show none=some (Slot.dat d)from e)
 |no q ih=>cases i with
  |zero=>exact nomatch (show some Slot.no=some (Slot.dat d)from e)
  |succ i=>exact ih e
 |dat r q ih=>cases i with
  |zero=>cases (show some (Slot.dat _)=some (Slot.dat d)from e);exact⟨_,rfl,r⟩
  |succ i=>exact ih e
 |own h r q ih=>cases i with
  |zero=>exact nomatch (show some (Slot.own _)=some (Slot.dat d)from e)
  |succ i=>exact ih e
theorem Slots.length{K:Frag}{M:List Addr}{H:Hp}{g:G}{Y:Sg}{L:List Addr}(q:Slots K M H g Y L):g.length=Y.length:=by
 induction q with
 |nil=>rfl
 |no q ih=>exact congrArg (· + 1) ih
 |dat r q ih=>exact congrArg (· + 1) ih
 |own h r q ih=>exact congrArg (· + 1) ih
theorem Slots.eH{K:Frag}{M:List Addr}{H:Hp}{d:D}{v:V}(r:Rep K M H d v){g:G}{Y:Sg}{L:List Addr}(i:Nat)(q:Slots K M H g Y L):∃aC,Slots K M H (g.set i (.dat d)) (Y.set i (some v)) aC/\aC.Sublist L:=by
 induction q generalizing i with
 |nil=>exact⟨[],.nil,.slnil⟩
 |no q ih=>cases i with
  |zero=>exact⟨_,.dat r q,List.Sublist.refl _⟩
  |succ i=>obtain⟨aC,h1,h2⟩:=ih i;exact⟨aC,.no h1,h2⟩
 |dat r' q ih=>cases i with
  |zero=>exact⟨_,.dat r q,List.Sublist.refl _⟩
  |succ i=>obtain⟨aC,h1,h2⟩:=ih i;exact⟨aC,.dat r' h1,h2⟩
 |own e r' q ih=>cases i with
  |zero=>exact⟨_,.dat r q,List.sublist_cons_self _ _⟩
  |succ i=>obtain⟨aC,h1,h2⟩:=ih i;exact⟨_::aC,.own e r' h1,h2.cons₂ _⟩
theorem Slots.freeze{K:Frag}{M M':List Addr}{H:Hp}(hM:∀m∈M',m∈M){g:G}{Y:Sg}{L:List Addr}{i:Nat}{l:List D}{a:Addr}(q:Slots K M H g Y L)(e:g[i]?=some (.own l))(e2:Y[i]?=some (some (.ref a)))(na:a∉M')(nd:L.Nodup) :
  ∃aC,Slots K M' H (g.set i (.dat (.lst l))) Y aC/\aC.Sublist L/\a∉aC:=by
 induction q generalizing i with
 |nil=>exact nomatch (show none=some (Slot.own l)from e)
 |no q ih=>cases i with
  |zero=>exact nomatch (show some Slot.no=some (Slot.own l)from e)
  |succ i=>obtain⟨aC,h1,h2,h3⟩:=ih e e2 nd;exact⟨aC,.no h1,h2,h3⟩
 |dat r q ih=>cases i with
  |zero=>exact nomatch (show some (Slot.dat _)=some (Slot.own l)from e)
  |succ i=>obtain⟨aC,h1,h2,h3⟩:=ih e e2 nd;exact⟨aC,.dat (r.stay (ak.less hM)) h1,h2,h3⟩
 |@own g Y L b xs ds h r q ih=>cases i with
  |zero=>
   cases (show some (Slot.own _)=some (Slot.own l)from e)
   cases (show some (some (V.ref b))=some (some (V.ref a))from e2)
   exact⟨_,.dat (.lst ⟨na,h⟩ (r.stay (ak.less hM))) (q.stay (ak.less hM) λ_ _ _ e=>e),List.sublist_cons_self _ _,(d6.mp nd).1⟩
  |succ i=>
   obtain⟨aC,h1,h2,h3⟩:=ih e e2 (d6.mp nd).2;refine⟨b::aC,.own h (r.stay (ak.less hM)) h1,h2.cons₂ _,λhm=>?_⟩
   rcases c6.mp hm with z |z
   .
    obtain⟨c,xs,z1,z2,_⟩:=q.at e;cases (show some (some (V.ref c))=some (some (V.ref a))from z1.symm.trans e2)
    exact (d6.mp nd).1 (by rw[<- z];exact z2)
   . exact h3 z
theorem Slots.change{K:Frag}{M:List Addr}{H H':Hp}{l':List D}{a:Addr}{xs':List V}(st:ak M H M H')(ha:H' a=some (.lst xs'))(r':aG K M H' l' xs'){g:G}{Y:Sg}{L:List Addr}{i:Nat}{l:List D}(q:Slots K M H g Y L)(e:g[i]?=some (.own l))(e2:Y[i]?=some (some (.ref a)))(nd:L.Nodup)
  (k:∀b∈L,b≠a->∀o,H b=some o->H' b=some o):Slots K M H' (g.set i (.own l')) Y L:=by
 induction q generalizing i with
 |nil=>exact nomatch (show none=some (Slot.own l)from e)
 |no q ih=>cases i with
  |zero=>exact nomatch (show some Slot.no=some (Slot.own l)from e)
  |succ i=>exact .no (ih e e2 nd k)
 |dat r q ih=>cases i with
  |zero=>exact nomatch (show some (Slot.dat _)=some (Slot.own l)from e)
  |succ i=>exact .dat (r.stay st) (ih e e2 nd k)
 |@own g Y L b xs ds h r q ih=>cases i with
  |zero=>
   cases (show some (some (V.ref b))=some (some (V.ref a))from e2)
   exact .own ha r' (q.stay st λc hc o e=>k c (a8 _ hc) (λz=>(d6.mp nd).1 (by rw[<- z];exact hc)) o e)
  |succ i=>
   refine .own (k b bP (λz=>?_) _ h) (r.stay st) (ih e e2 (d6.mp nd).2 λc hc=>k c (a8 _ hc))
   obtain⟨c,xs,z1,z2,_⟩:=q.at e;cases (show some (some (V.ref c))=some (some (V.ref a))from z1.symm.trans e2)
   exact (d6.mp nd).1 (by rw[z];exact z2)
section
variable{g:G}
theorem dP(h:(g.set i (.dat d))[j]?=some (.own l)):g[j]?=some (.own l)/\j≠i:=by
 by_cases e:i=j
 .
  subst e;by_cases hi:i<g.length
  . rw[fR hi]at h;symm
  . rw[v6.mpr (by rw[pV];lia)]at h;symm
 . rw[dL e]at h;exact⟨h,oS e⟩
theorem S.freeze(s:S z g Y L M H){i:Nat}{l:List D}(hg:g[i]?=some (.own l))(hb:i∉z.bor):∃aC M',S z (g.set i (.dat (.lst l))) Y aC M' H/\ak M H M' H:=by
 obtain⟨a,xs,e1,e2,e3,e4⟩:=s.sl.at hg;have h0:=(s.own i a l hg e1).elim (λq=>absurd q.1 hb) id
 have hM:∀m∈(M.filter λm=>decide (m≠a)),m∈M:=λm hm=>(eQ.mp hm).1
 have na:a∉(M.filter λm=>decide (m≠a)):=λhm=>by
  have:=(eQ.mp hm).2;simp at this
 obtain⟨aC,q1,q2,q3⟩:=s.sl.freeze hM hg e1 na s.nd;refine⟨aC,_,⟨q1,s.nd.sublist q2,λb hb=>eQ.mpr ⟨s.sub b (q2.subset hb),?_⟩,λj b l' h1 h2=>s.own j b l' (dP h1).1 h2,λm hm=>s.live m (hM m hm),s.keep,λm hm=>eQ.mpr ⟨s.ju m hm,?_⟩,s.m0,s.bm,λp hp=>⟨(s.jv p hp).1,?_⟩,s.tab,s.tm,s.tt⟩,ak.less hM⟩
 rotate_left 2
 .
  have:i≠p.1:=λe=>hb (by rw[e];exact oP hp)
  rw[dL this];exact (s.jv p hp).2
 .
  have:b≠a:=λe=>q3 (e▸hb)
  simpa using this
 .
  have:m≠a:=λe=>s.m0 m hm (e▸h0)
  simpa using this
theorem S.write(s:S z g Y L M H){i:Nat}{l l':List D}{a:Addr}{xs':List V}(hg:g[i]?=some (.own l))(e1:Y[i]?=some (some (.ref a)))(r:aG z.K M H l' xs'):S z (g.set i (.own l')) Y L M (upd H a (.lst xs'))/\ak M H M (upd H a (.lst xs')):=by
 obtain⟨b,xs,e2,e3,e4,e5⟩:=s.sl.at hg;rw[e1]at e2;injection e2 with e2;injection e2 with e2;injection e2 with e2;subst e2;have st:ak M H M (upd H a (.lst xs')):=ak.write (s.sub a e3);refine⟨⟨s.sl.change st aA (r.stay st) hg e1 s.nd (λb _ ne o e=>by rw[az ne];exact e),s.nd,s.sub,λj b l2 h1 h2=>?_,λm hm=>?_,λb o e hb ht=>?_,s.ju,s.m0,s.bm,λp hp=>⟨(s.jv p hp).1,?_⟩,λp h=>(s.tab p h).keep λb u e nl=>?_,s.tm,s.tt⟩,st⟩
 rotate_left 3
 .
  by_cases hj:i=p.1
  . rw[<- hj];exact⟨l',fR (dA.mp hg).1⟩
  . rw[dL hj];exact (s.jv p hp).2
 .
  have:b≠a:=λz2=>by subst z2;rw[e4]at e;cases e;exact nl trivial
  rw[az this];exact e
 .
  by_cases hj:i=j
  . subst hj;exact s.own i b l hg h2
  . rw[dL hj]at h1;exact s.own j b l2 h1 h2
 .
  by_cases hm2:m=a
  . subst hm2;exact .inl ⟨_,aA,trivial⟩
  .
   rcases s.live m hm with ⟨o,e,gr⟩ |e
   . exact .inl ⟨o,by rw[az hm2];exact e,gr⟩
   . exact .inr e
 .
  have q:=s.keep b o e hb ht;have:b≠a:=λz2=>by
   subst z2;rcases s.own i b l hg e1 with w |w
   . exact hb w.2
   . rw[w]at e;cases e
  rw[az this];exact q
theorem S.eH(s:S z g Y L M H)(hb:i∉z.bor)(r:Rep z.K M H d v):∃aC,S z (g.set i (.dat d)) (Y.set i (some v)) aC M H:=by
 obtain⟨aC,h1,h2⟩:=s.sl.eH r i;refine⟨aC,h1,s.nd.sublist h2,λa ha=>s.sub a (h2.subset ha),λj b l h3 h4=>?_,s.live,s.keep,s.ju,s.m0,s.bm,λp hp=>?_,s.tab,s.tm,s.tt⟩
 rotate_left
 .
  have:i≠p.1:=λe=>hb (by rw[e];exact oP hp)
  rw[dL this,dL this];exact s.jv p hp
 obtain⟨h5,h6⟩:=dP h3;rw[dL (oS h6)]at h4;exact s.own j b l h5 h4
theorem Slots.oO{K:Frag}{a:Addr}{xs:List V}{l:List D}(h:H a=some (.lst xs))(r:aG K M H l xs){g:G}{Y:Sg}{L:List Addr}(i:Nat)(q:Slots K M H g Y L)(hi:i<g.length):∃aC,Slots K M H (g.set i (.own l)) (Y.set i (some (.ref a))) aC/\(∀b∈aC,b=a\/b∈L)/\(L.Nodup->a∉L->aC.Nodup):=by
 induction q generalizing i with
 |nil=>exact absurd hi (y6 _)
 |no q ih=>cases i with
  |zero=>exact⟨_,.own h r q,λb hb=>c6.mp hb,λnd na=>d6.mpr ⟨na,nd⟩⟩
  |succ i=>obtain⟨aC,h1,h2,h3⟩:=ih i (yB hi);exact⟨aC,.no h1,h2,h3⟩
 |dat r' q ih=>cases i with
  |zero=>exact⟨_,.own h r q,λb hb=>c6.mp hb,λnd na=>d6.mpr ⟨na,nd⟩⟩
  |succ i=>obtain⟨aC,h1,h2,h3⟩:=ih i (yB hi);exact⟨aC,.dat r' h1,h2,h3⟩
 |@own g Y L c ys ds e r' q ih=>cases i with
  |zero=>exact⟨_,.own h r q,λb hb=>(c6.mp hb).imp id (a8 _),λnd na=>d6.mpr ⟨λz=>na (a8 _ z),(d6.mp nd).2⟩⟩
  |succ i=>obtain⟨aC,h1,h2,h3⟩:=ih i (yB hi);exact⟨c::aC,.own e r' h1,λb hb=>(c6.mp hb).elim (λz=>.inr (z▸bP)) λz=>(h2 b z).imp id (a8 _),λnd na=>d6.mpr ⟨λz=>(h2 c z).elim (λw=>na (w▸bP)) (d6.mp nd).1,h3 (d6.mp nd).2 λw=>na (a8 _ w)⟩⟩
theorem S.oO(s:S z g Y L M H){i:Nat}{l:List D}{a:Addr}{xs:List V}(hb:i∉z.bor)(hi:i<g.length)(hm:a∈M)(hA:a∉L)(h0:z.H0 a=none)(h:H a=some (.lst xs))(r:aG z.K M H l xs):∃aC,S z (g.set i (.own l)) (Y.set i (some (.ref a))) aC M H:=by
 obtain⟨aC,h1,h2,h3⟩:=s.sl.oO h r i hi;refine⟨aC,h1,h3 s.nd hA,λb hb=>(h2 b hb).elim (λe=>e▸hm) (s.sub b),λj b l2 h4 h5=>?_,s.live,s.keep,s.ju,s.m0,s.bm,λp hp=>?_,s.tab,s.tm,s.tt⟩
 rotate_left
 .
  have:i≠p.1:=λe=>hb (by rw[e];exact oP hp)
  rw[dL this,dL this];exact s.jv p hp
 by_cases hj:i=j
 .
  subst hj;rw[fR (by rw[<- s.sl.length];exact hi)]at h5
  injection h5 with h5;injection h5 with h5;injection h5 with h5;subst h5;exact .inr h0
 . rw[dL hj]at h4 h5;exact s.own j b l2 h4 h5
end
abbrev Kn (z:Z) (g':G) (Y:Sg) (M:List Addr) (H:Hp) (r:R) (Q:VK):Prop:=
 ∀v H' aC M',S z g' Y aC M' H'->ak M H M' H'->dO z g' Y aC M' H' r v->Q v H'
def au(X:Cx)(z:Z)(e:Expr)(g:G)(r:R)(g':G):Prop:=
 ∃t,PE X e t/\∀Y L M H Q,S z g Y L M H->Kn z g' Y M H r Q->t Y H Q
def bx(X:Cx)(z:Z)(e:Expr)(g:G)(b:Bool)(g':G):Prop:=
 ∃t,PT X e t/\∀Y L M H (Q:Bool->Hp->Prop),S z g Y L M H->(∀H' aC M',S z g' Y aC M' H'->ak M H M' H'->Q b H')->t Y H Q
def gD(X:Cx)(z:Z)(f:Value->Value->Sem Value)(d1 d2:D)(res:R):Prop:=
 ∃r:R2,g7 X f r/\∀g Y L M H v1 v2 Q,S z g Y L M H->Pk z.K M H d1 v1->Pk z.K M H d2 v2->Kn z g Y M H res Q->r v1 v2 H Q
def K9(X:Cx)(z:Z)(d1 d2:D)(res:R):Prop:=
 ∃r:R2,P5 X r/\∀g Y L M H v1 v2 Q,S z g Y L M H->Pk z.K M H d1 v1->Pk z.K M H d2 v2->Kn z g Y M H res Q->r v1 v2 H Q
def Yp(X:Cx)(z:Z)(f:Value->Sem Value)(d:D)(res:R):Prop:=
 ∃r:V->Hp->VK->Prop,UW X f r/\∀g Y L M H v Q,S z g Y L M H->Pk z.K M H d v->Kn z g Y M H res Q->r v H Q
noncomputable def pk:R->G->Option D
 |.dat d,_=>some d
 |.new _,_=>none
 |.var i,g=>match g[i]? with |some (.own l)=>some (.lst l) |some (.dat (.lst l))=>some (.lst l) |_=>none
section
theorem S.pk(s:S z g2 Y L M2 H2)(st:ak M1 H1 M2 H2)(q:dO z g1 Y aR M1 H1 r v)(h:pk r g2=some d):Pk z.K M2 H2 d v:=by
 cases r with
 |dat d'=>have e:d'=d:=i6 h;subst e;exact .of (Rep.stay st q)
 |new l=>symm
 |var i=>
  obtain⟨l,h1,h2⟩:=q;unfold Ev.pk at h;dsimp only at h;split at h
  . rename_i l' hg;have e:=i6 h;subst e;obtain⟨a,xs,e1,e2,e3,e4⟩:=s.sl.at hg;rw[h2]at e1;injection e1 with e1;injection e1 with e1;subst e1;exact .lst e3 e4
  . rename_i l' hg;have e:=i6 h;subst e;obtain⟨w,e1,e2⟩:=s.sl.qB hg;rw[h2]at e1;injection e1 with e1;injection e1 with e1;exact .of (e1▸e2)
  . symm
theorem La{i j}:au X z (.Constant (.int i) j pos) g ‹i› g:=⟨_,gw,λY L M H Q s k=>k _ _ _ _ s (ak.refl _ _) (.int i)⟩
theorem RC{i j}:au X z (.Constant (.bool i) j pos) g (.dat (.bl i)) g:=⟨_,Jo,λY L M H Q s k=>k _ _ _ _ s (ak.refl _ _) (.bl i)⟩
theorem Lb{j}:au X z (.Constant .none j pos) g (.dat .non) g:=⟨_,J9,λY L M H Q s k=>k _ _ _ _ s (ak.refl _ _) .non⟩
theorem Lc{x j}:au X z (.Constant (.str x) j pos) g (.dat (.str x)) g:=⟨_,yF,λY L M H Q s k=>k _ _ _ _ s (ak.refl _ _) (.str x)⟩
theorem Ld{i:Nat}{x:Str}(hN:X.N[i]?=some x)(hv:ym X.env.scope x)(hd:(x==(~~~3))=false)(bY:(x==("__classdict__":Str))=false)(hg:g[i]?=some (.dat d)):au X z (.Name x pos) g (.dat d) g:=
 ⟨_,e9 hN hv hd bY,λY L M H Q s k=>let ⟨v,e,r⟩:=s.sl.qB hg;⟨v,e,k v H L M s (ak.refl _ _) r⟩⟩
theorem Ft(hN:X.N[i]?=some x)(hv:ym X.env.scope x)(hd:(x==(~~~3))=false)(bY:(x==("__classdict__":Str))=false)(hg:g[i]?=some (.own l)):au X z (.Name x pos) g (.var i) g:=
 ⟨_,e9 hN hv hd bY,λY L M H Q s k=>let ⟨a,xs,e,r⟩:=s.sl.at hg;⟨_,e,k _ H L M s (ak.refl _ _) ⟨l,hg,e⟩⟩⟩
theorem Fv(hg:Gl X x)(hm:X.mg x=some u)(r:RelV v u)(hr:∀M H,Rep z.K M H d v)(hd:(x==(~~~3))=false):au X z (.Name x pos) g (.dat d) g:=
 ⟨_,Ek hg hm r hd,λY L M H Q s k=>k _ H L M s (ak.refl _ _) (hr M H)⟩
theorem kJ(h:au X z e g (.new l) g'):au X z e g (.dat (.lst l)) g':=by
 obtain⟨t,p,q⟩:=h;refine⟨t,p,λY L M H Q s k=>q Y L M H Q s λv H' aC M' s' st r=>?_⟩
 obtain⟨a,xs,rfl,hm,hA,h0,ha,rr⟩:=r;have hM:∀m∈(M'.filter λm=>decide (m≠a)),m∈M':=λm hm=>(eQ.mp hm).1
 have na:a∉(M'.filter λm=>decide (m≠a)):=λhm=>by
  have:=(eQ.mp hm).2;simp at this
 exact k _ H' aC _ (s'.drop h0 hA) (st.trans (ak.less hM)) (.lst ⟨na,ha⟩ (rr.stay (ak.less hM)))
theorem wF(h:au X z e g (.var i) g1)(hg:g1[i]?=some (.own l))(hb:i∉z.bor):au X z e g (.dat (.lst l)) (g1.set i (.dat (.lst l))):=by
 obtain⟨t,p,q⟩:=h;refine⟨t,p,λY L M H Q s k=>q Y L M H Q s λv H' aC M' s' st r=>?_⟩
 obtain⟨l',h1,h2⟩:=r;obtain⟨bq,M2,s2,aP⟩:=s'.freeze hg hb;have hi:=(dA.mp hg).1;obtain⟨v',e1,e2⟩:=s2.sl.qB (by rw[fR hi])
 rw[h2]at e1;injection e1 with e1;injection e1 with e1;subst e1;exact k _ H' bq M2 s2 (st.trans aP) e2
theorem Le(h1:au X z a g r1 g1)(h2:au X z b g1 r2 g2)(p1:pk r1 g2=some d1)(p2:pk r2 g2=some d2)(ho:gD X z (binaryOp op) d1 d2 r):au X z (.BinOp a op b pos) g r g2:=by
 obtain⟨t1,q1,k1⟩:=h1;obtain⟨t2,q2,k2⟩:=h2;obtain⟨rr,o,ko⟩:=ho;exact⟨_,QX o q1 q2,λY L M H Q s k=>k1 Y L M H _ s λv1 H1 aR M1 s1 bN R1=>k2 Y aR M1 H1 _ s1 λv2 H2 bq M2 s2 aP R2=>
  ko g2 Y bq M2 H2 v1 v2 Q s2 (s2.pk aP R1 p1) (s2.pk (ak.refl _ _) R2 p2) λv H' aC M' s' st' R'=>k v H' aC M' s' (bN.trans (aP.trans st')) R'⟩
theorem Lf(h1:au X z a g r1 g1)(h2:au X z b g1 r2 g2)(p1:pk r1 g2=some d1)(p2:pk r2 g2=some d2)(ho:gD X z (compareOp op) d1 d2 r)(hm:behindInMarks op b=false):au X z (.Compare a [op] [b] pos) g r g2:=by
 obtain⟨t1,q1,k1⟩:=h1;obtain⟨t2,q2,k2⟩:=h2;obtain⟨rr,o,ko⟩:=ho;exact⟨_,ow o q1 q2 hm,λY L M H Q s k=>k1 Y L M H _ s λv1 H1 aR M1 s1 bN R1=>k2 Y aR M1 H1 _ s1 λv2 H2 bq M2 s2 aP R2=>
  ko g2 Y bq M2 H2 v1 v2 Q s2 (s2.pk aP R1 p1) (s2.pk (ak.refl _ _) R2 p2) λv H' aC M' s' st' R'=>k v H' aC M' s' (bN.trans (aP.trans st')) R'⟩
theorem RD(h1:au X z a g r1 g1)(h2:au X z b g1 r2 g2)(p1:pk r1 g2=some d1)(p2:pk r2 g2=some d2)(ho:K9 X z d1 d2 r)(hs:oH b):au X z (.Subscript a b pos) g r g2:=by
 obtain⟨t1,q1,k1⟩:=h1;obtain⟨t2,q2,k2⟩:=h2;obtain⟨rr,o,ko⟩:=ho;exact⟨_,yR o q1 q2 hs,λY L M H Q s k=>k1 Y L M H _ s λv1 H1 aR M1 s1 bN R1=>k2 Y aR M1 H1 _ s1 λv2 H2 bq M2 s2 aP R2=>
  ko g2 Y bq M2 H2 v1 v2 Q s2 (s2.pk aP R1 p1) (s2.pk (ak.refl _ _) R2 p2) λv H' aC M' s' st' R'=>k v H' aC M' s' (bN.trans (aP.trans st')) R'⟩
theorem RJ(h1:au X z a g r1 g1)(p1:pk r1 g1=some d1)(ho:Yp X z (unaryOp op) d1 r):au X z (.UnaryOp op a pos) g r g1:=by obtain⟨t1,q1,k1⟩:=h1;obtain⟨rr,o,ko⟩:=ho;exact⟨_,yM o q1,λY L M H Q s k=>k1 Y L M H _ s λv1 H1 aR M1 s1 bN R1=>ko g1 Y aR M1 H1 v1 Q s1 (s1.pk (ak.refl _ _) R1 p1) λv H' aC M' s' st' R'=>k v H' aC M' s' (bN.trans st') R'⟩
theorem dQ(q:dO z g Y L M H (.dat (.bl c)) v):v=.bl c:=by have q':=q;cases q';rfl
theorem Lg(h1:au X z a g r1 g1)(h2:au X z b g1 r2 g2)(p1:pk r1 g2=some d1)(p2:pk r2 g2=some d2)(ho:gD X z (compareOp op) d1 d2 (.dat (.bl c)))(hm:behindInMarks op b=false):bx X z (.Compare a [op] [b] pos) g c g2:=by
 obtain⟨t1,q1,k1⟩:=h1;obtain⟨t2,q2,k2⟩:=h2;obtain⟨rr,o,ko⟩:=ho;exact⟨_,uM o q1 q2 hm,λY L M H Q s k=>k1 Y L M H _ s λv1 H1 aR M1 s1 bN R1=>k2 Y aR M1 H1 _ s1 λv2 H2 bq M2 s2 aP R2=>
  ko g2 Y bq M2 H2 v1 v2 _ s2 (s2.pk aP R1 p1) (s2.pk (ak.refl _ _) R2 p2) λv H' aC M' s' st' R'=>⟨c,dQ R',k H' aC M' s' (bN.trans (aP.trans st'))⟩⟩
theorem Lh(h:bx X z a g c g'):bx X z (.UnaryOp .Not a pos) g (!c) g':=by obtain⟨t,q,k⟩:=h;exact⟨_,Ka q,λY L M H Q s kk=>k Y L M H _ s λH' aC M' s' st=>kk H' aC M' s' st⟩
def jK(X:Cx)(z:Z)(e:Expr)(g:G)(b:Bool)(g':G):Prop:=
 ∃t,PW X e t/\∀Y L M H (Q:Bool->Hp->Prop),S z g Y L M H->(∀H' aC M',S z g' Y aC M' H'->ak M H M' H'->Q b H')->t Y H Q
theorem jK.tr(h:jK X z e g c g'):bx X z e g c g':=let ⟨t,q,k⟩:=h;⟨t,q.pt,k⟩
theorem Fw(h:bx X z a g c g'):jK X z (.BoolOp .And [a] pos) g c g':=let ⟨t,q,k⟩:=h;⟨t,pw_and1 q,k⟩
theorem Li(h:bx X z a g c g'):jK X z (.BoolOp .Or [a] pos) g c g':=let ⟨t,q,k⟩:=h;⟨t,pw_or1 q,k⟩
def ZS:TT:=λ_ _ _=>False
theorem pw_never:PW X e ZS:=λ_ _ _ _ _ _ _ h=>h.elim
theorem iu:PE X e (λ_ _ _=>False):=λ_ _ _ _ _ _ h=>h.elim
theorem Fy{aE:List Expr}(h:bx X z a g false g1):jK X z (.BoolOp .And (a::b::aE) pos) g false g1:=by obtain⟨t,q,k⟩:=h;exact⟨_,pw_and q pw_never,λY L M H Q s kk=>k Y L M H _ s λH' aC M' s' st=>iT (kk H' aC M' s' st)⟩
theorem Fz{aE:List Expr}{c:Bool}(h:bx X z a g true g1)(h2:jK X z (.BoolOp .And (b::aE) pos) g1 c g2):jK X z (.BoolOp .And (a::b::aE) pos) g c g2:=by obtain⟨t,q,k⟩:=h;obtain⟨t2,q2,k2⟩:=h2;exact⟨_,pw_and q q2,λY L M H Q s kk=>k Y L M H _ s λH' aC M' s' st=>gB (k2 Y aC M' H' Q s' λH2 bq M2 s2 aP=>kk H2 bq M2 s2 (st.trans aP))⟩
theorem Lj{aE:List Expr}(h:bx X z a g true g1):jK X z (.BoolOp .Or (a::b::aE) pos) g true g1:=by obtain⟨t,q,k⟩:=h;exact⟨_,pw_or q pw_never,λY L M H Q s kk=>k Y L M H _ s λH' aC M' s' st=>gB (kk H' aC M' s' st)⟩
theorem Lk{aE:List Expr}{c:Bool}(h:bx X z a g false g1)(h2:jK X z (.BoolOp .Or (b::aE) pos) g1 c g2):jK X z (.BoolOp .Or (a::b::aE) pos) g c g2:=by obtain⟨t,q,k⟩:=h;obtain⟨t2,q2,k2⟩:=h2;exact⟨_,pw_or q q2,λY L M H Q s kk=>k Y L M H _ s λH' aC M' s' st=>iT (k2 Y aC M' H' Q s' λH2 bq M2 s2 aP=>kk H2 bq M2 s2 (st.trans aP))⟩
theorem zl(h:au X z a g r g'):au X z (.BoolOp op [a] pos) g r g':=let ⟨t,q,k⟩:=h;⟨t,yG q,k⟩
theorem FG{aE:List Expr}(h:au X z a g (.dat (.bl false)) g1):au X z (.BoolOp .And (a::b::aE) pos) g (.dat (.bl false)) g1:=by obtain⟨t,q,k⟩:=h;exact⟨_,sE q iu,λY L M H Q s kk=>k Y L M H _ s λv H' aC M' s' st R=>⟨false,dQ R,iT (kk _ H' aC M' s' st (.bl false))⟩⟩
theorem FH{aE:List Expr}(h:au X z a g (.dat (.bl true)) g1)(h2:au X z (.BoolOp .And (b::aE) pos) g1 r g2):au X z (.BoolOp .And (a::b::aE) pos) g r g2:=by obtain⟨t,q,k⟩:=h;obtain⟨t2,q2,k2⟩:=h2;exact⟨_,sE q q2,λY L M H Q s kk=>k Y L M H _ s λv H' aC M' s' st R=>⟨true,dQ R,gB (k2 Y aC M' H' Q s' λv2 H2 bq M2 s2 aP=>kk v2 H2 bq M2 s2 (st.trans aP))⟩⟩
theorem Ln{aE:List Expr}(h:au X z a g (.dat (.bl true)) g1):au X z (.BoolOp .Or (a::b::aE) pos) g (.dat (.bl true)) g1:=by obtain⟨t,q,k⟩:=h;exact⟨_,Jp q iu,λY L M H Q s kk=>k Y L M H _ s λv H' aC M' s' st R=>⟨true,dQ R,gB (kk _ H' aC M' s' st (.bl true))⟩⟩
theorem Lp{aE:List Expr}(h:au X z a g (.dat (.bl false)) g1)(h2:au X z (.BoolOp .Or (b::aE) pos) g1 r g2):au X z (.BoolOp .Or (a::b::aE) pos) g r g2:=by obtain⟨t,q,k⟩:=h;obtain⟨t2,q2,k2⟩:=h2;exact⟨_,Jp q q2,λY L M H Q s kk=>k Y L M H _ s λv H' aC M' s' st R=>⟨false,dQ R,iT (k2 Y aC M' H' Q s' λv2 H2 bq M2 s2 aP=>kk v2 H2 bq M2 s2 (st.trans aP))⟩⟩
theorem Lq(h:au X z a g (.dat (.bl c)) g1):au X z (.UnaryOp .Not a pos) g (.dat (.bl (!c))) g1:=by obtain⟨t,q,k⟩:=h;exact⟨_,Kc q,λY L M H Q s kk=>k Y L M H _ s λv H' aC M' s' st R=>⟨c,dQ R,kk _ H' aC M' s' st (.bl _)⟩⟩
theorem Lr(h:bx X z c g true g1)(h2:au X z a g1 r g2):au X z (.IfExp c a b pos) g r g2:=by obtain⟨t,q,k⟩:=h;obtain⟨t2,q2,k2⟩:=h2;exact⟨_,qh q q2 iu,λY L M H Q s kk=>k Y L M H _ s λH' aC M' s' st=>gB (k2 Y aC M' H' Q s' λv2 H2 bq M2 s2 aP=>kk v2 H2 bq M2 s2 (st.trans aP))⟩
theorem Ls(h:bx X z c g false g1)(h2:au X z b g1 r g2):au X z (.IfExp c a b pos) g r g2:=by obtain⟨t,q,k⟩:=h;obtain⟨t2,q2,k2⟩:=h2;exact⟨_,qh q iu q2,λY L M H Q s kk=>k Y L M H _ s λH' aC M' s' st=>iT (k2 Y aC M' H' Q s' λv2 H2 bq M2 s2 aP=>kk v2 H2 bq M2 s2 (st.trans aP))⟩
inductive gF(z:Z)(Y:Sg)(M:List Addr)(H:Hp):List R->List V->Prop
 |nil:gF z Y M H [] []
 |dat {d:D}{v:V}{rs:List R}{vs:List V}:Rep z.K M H d v->gF z Y M H rs vs->gF z Y M H (.dat d::rs) (v::vs)
 |var {i:Nat}{v:V}{rs:List R}{vs:List V}:Y[i]?=some (some v)->gF z Y M H rs vs->gF z Y M H (.var i::rs) (v::vs)
def cJ(X:Cx)(z:Z)(es:List Expr)(g:G)(rs:List R)(g':G):Prop:=
 ∃t,PA X es t/\∀Y L M H (Q:List V->Hp->Prop),S z g Y L M H->(∀vs H' aC M',S z g' Y aC M' H'->ak M H M' H'->gF z Y M' H' rs vs->Q vs H')->t Y H Q
theorem fz:cJ X z [] g [] g:=⟨_,bZ,λY L M H Q s k=>k [] H L M s (ak.refl _ _) .nil⟩
theorem dF(h:au X z e g (.dat d) g1)(h2:cJ X z es g1 rs g2)(hs:starEach (e::es) X.env=(false,eval e X.env)::starEach es X.env):cJ X z (e::es) g (.dat d::rs) g2:=by obtain⟨t,q,k⟩:=h;obtain⟨t2,q2,k2⟩:=h2;exact⟨_,bD q q2 hs,λY L M H Q s kk=>k Y L M H _ s λv H' aC M' s' st R=>k2 Y aC M' H' _ s' λvs H2 bq M2 s2 aP R2=>kk _ H2 bq M2 s2 (st.trans aP) (.dat (Rep.stay aP R) R2)⟩
theorem Lv(h:au X z e g (.var i) g1)(h2:cJ X z es g1 rs g2)(hs:starEach (e::es) X.env=(false,eval e X.env)::starEach es X.env):cJ X z (e::es) g (.var i::rs) g2:=by obtain⟨t,q,k⟩:=h;obtain⟨t2,q2,k2⟩:=h2;exact⟨_,bD q q2 hs,λY L M H Q s kk=>k Y L M H _ s (by rintro v H' aC M' s' st ⟨_,_,R⟩;exact k2 Y aC M' H' _ s' λvs H2 bq M2 s2 aP R2=>kk _ H2 bq M2 s2 (st.trans aP) (.var R R2))⟩
inductive FJ(K:Frag)(M:List Addr)(H:Hp):List D->List V->Prop
 |nil:FJ K M H [] []
 |cons {d:D}{v:V}{ds:List D}{vs:List V}:Pk K M H d v->FJ K M H ds vs->FJ K M H (d::ds) (v::vs)
def wG:List R->G->Option (List D)
 | [],_=>some []
 |r::rs,g=>match pk r g,wG rs g with
  |some d,some ds=>some (d::ds)
  |_,_=>none
theorem S.wG(s:S z g Y L M H)(q:gF z Y M H rs vs)(e:wG rs g=some ds):FJ z.K M H ds vs:=by
 induction q generalizing ds with
 |nil=>cases e;exact .nil
 |@dat d v rs vs r q ih=>
  unfold Ev.wG at e;cases e2:Ev.wG rs g with
  |none=>rw[e2]at e;cases e
  |some ds=>rw[e2]at e;cases e;exact .cons (.of r) (ih e2)
 |@var i v rs vs r q ih=>
  unfold Ev.wG at e;cases e1:Ev.pk (.var i) g with
  |none=>rw[e1]at e;cases e
  |some d=>
   cases e2:Ev.wG rs g with
   |none=>rw[e1,e2]at e;cases e
   |some ds=>
    rw[e1,e2]at e;cases e;unfold Ev.pk at e1;dsimp only at e1;split at e1
    . rename_i l hg;cases e1;obtain⟨a,xs,h1,h2,h3,h4⟩:=s.sl.at hg;rw[r]at h1;injection h1 with h1;injection h1 with h1;subst h1;exact .cons (.lst h3 h4) (ih e2)
    . rename_i l hg;cases e1;obtain⟨w,h1,h2⟩:=s.sl.qB hg;rw[r]at h1;injection h1 with h1;injection h1 with h1;exact .cons (.of (h1▸h2)) (ih e2)
    . cases e1
noncomputable def qC:List R->Option (List D)
 | []=>some []
 |.dat d::rs=>match qC rs with |some ds=>some (d::ds) |none=>none
 |_::_=>none
theorem uS(q:gF z Y M H rs vs)(e:qC rs=some ds):aG z.K M H ds vs:=by
 induction q generalizing ds with
 |nil=>cases e;exact .nil
 |@dat d v rs vs r q ih=>
  unfold qC at e;cases e2:qC rs with
  |none=>rw[e2]at e;cases e
  |some ds=>rw[e2]at e;cases e;exact .cons r (ih e2)
 |var _ _ _=>cases e
theorem kK(h:n<=16777216):n<=sizeLine:=by rw[lS];exact h
theorem Lw{x1}(h:cJ X z es g rs g')(hd:qC rs=some ds)(hl:ds.length<=16777216):au X z (.Tuple es x1 pos) g (.dat (.tup ds)) g':=by
 obtain⟨t,q,k⟩:=h;refine⟨_,yO q,λY L M H Q s kk=>k Y L M H _ s λvs H' aC M' s' st R=>?_⟩
 have rr:=uS R hd;refine⟨by rw[<- rr.length];exact kK hl,λp hp=>kk _ _ aC M' (s'.laid hp) (st.trans (ak.laid hp)) (.tup (.inl ⟨s'.fresh hp,.inl aA⟩) (rr.stay (ak.laid hp)))⟩
theorem Lx(h:cJ X z es g rs g')(hd:qC rs=some ds)(hl:ds.length<=16777216):au X z (.List es pos) g (.new ds) g':=by
 obtain⟨t,q,k⟩:=h;refine⟨_,oz q,λY L M H Q s kk=>k Y L M H _ s λvs H' aC M' s' st R=>?_⟩
 have rr:=uS R hd;refine⟨by rw[<- rr.length];exact kK hl,λp hp=>kk _ _ aC (p::M') (s'.aL hp) (st.trans (ak.aL hp)) ⟨p,vs,rfl,bP,λhA=>s'.fresh hp (s'.sub p hA),s'.bE hp,aA,rr.stay (ak.aL hp)⟩⟩
def CallD(X:Cx)(z:Z)(f:Value)(ds:List D)(res:R):Prop:=
 ∃r,cL X f r/\∀g Y L M H vs Q,S z g Y L M H->FJ z.K M H ds vs->Kn z g Y M H res Q->r vs H Q
theorem zm{x:Str}{id:String}{p:Pos}{es:List Expr}{rs:List R}{ds:List D}(h:cJ X z (e::es) g rs g')(hp:wG rs g'=some ds)(hc:CallD X z (.builtin id) ds r)(hg:Gl X x)(hm:X.mg x=none)(hv:bootBuiltins x=some (.builtin id))(hn:x≠ "__name__")(vV:(x==(~~~3))=false)
  (he:starEach (e::es) X.env=(false,eval e X.env)::starEach es X.env) (su:(backTo pos (starEach es X.env)).any (·.1)=false):au X z (.Call (.Name x p) (e::es) [] pos) g r g':=by
 obtain⟨t,q,k⟩:=h;obtain⟨rr,c,kc⟩:=hc;exact⟨_,dM c hg hm hv q hn vV he su,λY L M H Q s kk=>k Y L M H _ s λvs H' aC M' s' st R=>kc g' Y aC M' H' vs Q s' (s'.wG R hp) λv H2 bq M2 s2 aP R2=>kk v H2 bq M2 s2 (st.trans aP) R2⟩
theorem wH(h:cJ X z (e::es) g rs g')(hp:wG rs g'=some ds)(hc:CallD X z (.type T) ds r)(hg:Gl X x)(hm:X.mg x=none)(hv:bootBuiltins x=some (.type T))(hn:x≠ "__name__")(vV:(x==(~~~3))=false)
  (he:starEach (e::es) X.env=(false,eval e X.env)::starEach es X.env) (su:(backTo pos (starEach es X.env)).any (·.1)=false):au X z (.Call (.Name x p) (e::es) [] pos) g r g':=by
 obtain⟨t,q,k⟩:=h;obtain⟨rr,c,kc⟩:=hc;exact⟨_,wz c hg hm hv q hn vV he su,λY L M H Q s kk=>k Y L M H _ s λvs H' aC M' s' st R=>kc g' Y aC M' H' vs Q s' (s'.wG R hp) λv H2 bq M2 s2 aP R2=>kk v H2 bq M2 s2 (st.trans aP) R2⟩
end
mutual
noncomputable def bL:D->D->Bool
 |.non,.non=>true
 |.bl a,.bl b=>a==b
 |.bl a,.int j=>(if a then 1 else 0)==j
 |.int i,.bl b=>i==(if b then 1 else 0)
 |.int i,.int j=>i==j
 |.str x,.str y=>x==y
 |.tup l,.tup m=>cg l m
 |.lst l,.lst m=>cg l m
 |.lst l,.fix m=>cg l m
 |.fix l,.lst m=>cg l m
 |.fix l,.fix m=>cg l m
 |_,_=>false
noncomputable def cg:List D->List D->Bool
 | [],[]=>true
 |a::l,b::m=>bL a b&&cg l m
 |_,_=>false
end
mutual
noncomputable def dep:D->Nat
 |.tup l=>deps l+1
 |.lst l=>deps l+1
 |.fix l=>deps l+1
 |_=>0
noncomputable def deps:List D->Nat
 | []=>0
 |d::l=>max (dep d) (deps l)
end
mutual
noncomputable def iQ:D->Bool
 |.tup l=>gG l
 |.lst l=>gG l
 |.fix l=>gG l
 |.emp=>false
 |.uQ _=>false
 |.uR ..=>false
 |_=>true
noncomputable def gG:List D->Bool
 | []=>true
 |d::l=>iQ d&&gG l
end
mutual
inductive Dv(h:Heap):D->Value->Prop
 |non:Dv h .non .none
 |bl (b:Bool):Dv h (.bl b) (.bool b)
 |int (i:Int) (t:Tok):Dv h (.int i) (.int i t)
 |str (x:Str) (t:Tok):Dv h (.str x) (.str x t)
 |tup {l:List D}{a:Addr}{us:List Value}:IsTup h a us.toArray->jT h l us->Dv h (.tup l) (.ref a)
 |lst {l:List D}{a:Addr}{us:List Value}:h.IsList a us.toArray->jT h l us->Dv h (.lst l) (.ref a)
 |fix {l:List D}{a:Addr}{us:List Value}:h.IsList a us.toArray->jT h l us->Dv h (.fix l) (.ref a)
inductive jT(h:Heap):List D->List Value->Prop
 |nil:jT h [] []
 |cons {d:D}{ds:List D}{u:Value}{us:List Value}:Dv h d u->jT h ds us->jT h (d::ds) (u::us)
end
section
theorem Rep.ZT(I: ~~~7)(q:Rep X.K M H d v):∀u,RelV v u->iQ d=true->Dv s.heap d u:=by
 refine Rep.rec (motive_2:=λds vs _=>∀us,Vals vs us->gG ds=true->jT s.heap ds us) ?_ ?_ ?_ ?_ ?_ ?_ ?_ ?_ ?_ ?_ ?_ ?_ q
 . intro u r _;cases r;exact .non
 . intro b u r _;cases r;exact .bl b
 . intro i u r _;obtain⟨t,rfl⟩:=r;exact .int i t
 . intro x u r _;obtain⟨t,rfl⟩:=r;exact .str x t
 . intro l a xs h _ ih u r p;cases r;obtain⟨aq,rv,ht,hz⟩:=I.tuple h.sq;exact .tup ht (ih _ rv p)
 . intro l a xs h _ ih u r p;cases r;obtain⟨aq,rv,ht,hz⟩:=I.list (bH.of h.2);exact .lst ht.isList (ih _ rv p)
 . intro l a xs h _ ih u r p;cases r;obtain⟨aq,rv,ht,hz⟩:=I.list h.sq;exact .fix ht.isList (ih _ rv p)
 . intro a _ _ u _ p;exact Bool.noConfusion (show false=true from p)
 . intro C a _ _ _ u _ p;exact Bool.noConfusion (show false=true from p)
 . intro ks ds a vs _ _ _ _ _ u _ p;exact Bool.noConfusion (show false=true from p)
 . intro us r _;cases r;exact .nil
 .
  intro d ds x xs _ _ i1 i2 us r p;cases r with
  |cons r1 r2=>have p:(iQ d&&gG ds)=true:=p;rw[eM]at p;exact .cons (i1 _ r1 p.1) (i2 _ r2 p.2)
theorem Rep.dv(I: ~~~7)(q:Rep X.K M H d v)(r:RelV v u)(p:iQ d=true):Dv s.heap d u:=q.ZT I u r p
theorem aG.dv(I: ~~~7)(q:aG X.K M H ds vs)(r:Vals vs us)(p:gG ds=true):jT s.heap ds us:=by
 induction ds generalizing vs us with
 |nil=>cases q;cases r;exact .nil
 |cons d ds ih=>cases q with |cons q1 q2=>cases r with |cons r1 r2=>have p:(iQ d&&gG ds)=true:=p;rw[eM]at p;exact .cons (q1.dv I r1 p.1) (ih q2 r2 p.2)
theorem Pk.dv(I: ~~~7)(h:Pk X.K M H d v)(r:RelV v u)(p:iQ d=true):Dv s.heap d u:=by
 cases h with
 |of q=>exact q.dv I r p
 |lst h q=>cases r;obtain⟨aq,rv,ht,hz⟩:=I.list (bH.of h);exact .lst ht.isList (aG.dv I q rv (by simpa [iQ]using p))
end
theorem jT.length(q:jT h l us):l.length=us.length:=by
 induction l generalizing us with
 |nil=>cases q;rfl
 |cons d l ih=>cases q with |cons a b=>exact congrArg (· + 1) (ih b)
theorem mW{h:Heap}{a:Addr}{us ws:List Value}(x:IsTup h a us.toArray)(y:IsTup h a ws.toArray):us=ws:=by obtain⟨o,e,_,n,d⟩:=x;obtain⟨o',e',_,n',d'⟩:=y;rw[e]at e';cases e';rw[d]at d';injection d' with d1 _;simpa using congrArg Array.toList d1
theorem bF{h:Heap}{a:Addr}{us ws:List Value}(x:h.IsList a us.toArray)(y:h.IsList a ws.toArray):us=ws:=by obtain⟨o,e,_,n,d⟩:=x;obtain⟨o',e',_,n',d'⟩:=y;rw[e]at e';cases e';rw[d]at d';injection d' with d1 _;simpa using congrArg Array.toList d1
theorem cE(x:IsTup h a us)(y:h.IsList a ws):False:=by obtain⟨o,e,c,_⟩:=x;obtain⟨o',e',c',_⟩:=y;rw[e]at e';cases e';rw[c]at c';exact absurd c' ⋯
theorem zo{h:Heap}{d1:D}{u:Value}(q:Dv h d1 u):∀d2,Dv h d2 u->bL d1 d2=true:=by
 refine Dv.rec (motive_2:=λl us _=>∀m,jT h m us->cg l m=true) ?_ ?_ ?_ ?_ ?_ ?_ ?_ ?_ ?_ q
 . intro d2 q;cases q;rfl
 . intro b d2 q;cases q;exact beq_self_eq_true b
 . intro i t d2 q;cases q;exact beq_self_eq_true i
 . intro x t d2 q;cases q;exact beq_self_eq_true x
 .
  intro l a us x _ ih d2 q;cases q with
  |tup y q'=>cases mW x y;exact ih _ q'
  |lst y _=>exact (cE x y).elim
  |fix y _=>exact (cE x y).elim
 .
  intro l a us x _ ih d2 q;cases q with
  |tup y _=>exact (cE y x).elim
  |lst y q'=>cases bF x y;exact ih _ q'
  |fix y q'=>cases bF x y;exact ih _ q'
 .
  intro l a us x _ ih d2 q;cases q with
  |tup y _=>exact (cE y x).elim
  |lst y q'=>cases bF x y;exact ih _ q'
  |fix y q'=>cases bF x y;exact ih _ q'
 . intro m q;cases q;rfl
 .
  intro d ds u us _ _ i1 i2 m q;cases q with
  |@cons d' m _ _ b q'=>show (bL d d'&&cg ds m)=true;rw[i1 _ b,i2 _ q'];rfl
theorem FN(q:Dv h d1 u)(q':Dv h d2 u):bL d1 d2=true:=zo q d2 q'
def Jr(l m:List D)(j:Nat):Bool:=match l[j]?,m[j]? with |some a,some b=>bL a b |_,_=>false
theorem kL(l m:List D)(h:l.length=m.length):(List.range l.length).all (Jr l m)=cg l m:=by
 induction l generalizing m with
 |nil=>cases m with
  |nil=>rfl
  |cons _ _=>symm
 |cons a l ih=>cases m with
  |nil=>symm
  |cons b m=>rw[i3,List.range_succ_eq_map,List.all_cons,List.all_map];have e:(Jr (a::l) (b::m) ∘ Nat.succ)=Jr l m:=rfl;rw[e,ih m (AX h)];rfl
theorem kM(l m:List D)(h:l.length≠m.length):cg l m=false:=by
 induction l generalizing m with
 |nil=>cases m with
  |nil=>exact absurd rfl h
  |cons _ _=>rfl
 |cons a l ih=>cases m with
  |nil=>rfl
  |cons b m=>show (bL a b&&cg l m)=false;rw[ih m (λe=>h (congrArg (· + 1) e)),BQ]
theorem qD(l m:List D):((List.range (min l.length m.length)).all (Jr l m)&&l.length==m.length)=cg l m:=by
 by_cases h:l.length=m.length
 . rw[h,Nat.min_self,<- h,kL l m h];simp
 .
  rw[kM l m h];have:(l.length==m.length)=false:=by simpa using h
  rw[this,BQ]
theorem kN{l:List D}{j:Nat}{d:D}(e:l[j]?=some d):dep d<=deps l:=by
 induction l generalizing j with
 |nil=>exact nomatch (show none=some d from e)
 |cons d' l ih=>cases j with
  |zero=>cases (show some d'=some d from e);exact Nat.le_max_left _ _
  |succ j=>exact hU (ih (show l[j]?=some d from e)) (Nat.le_max_right _ _)
theorem jT.get{h:Heap}{l:List D}{us:List Value}{j:Nat}{u:Value}(q:jT h l us)(e:us[j]?=some u):∃d,l[j]?=some d/\Dv h d u:=by
 induction l generalizing us j with
 |nil=>cases q;exact nomatch (show none=some u from e)
 |cons d' l ih=>cases q with |@cons _ _ u' us a b=>cases j with
  |zero=>cases (show some u'=some u from e);exact⟨_,rfl,a⟩
  |succ j=>obtain⟨d,h⟩:=ih b e;exact⟨d,h⟩
theorem in1_units(A:Around):A.in1.units=A.units+1:=rfl
section
theorem iz(hl:s.heap.IsList l us.toArray)(hb:s.heap.IsList b ws.toArray)(q:jT s.heap ls us)(q':jT s.heap ms ws)(hu:A.units<cLine)
  (he:∀(j:Nat) d1 d2 u1 u2,ls[j]?=some d1->Dv s.heap d1 u1->Dv s.heap d2 u2->SeqAt.EqAt A.in1 s u1 u2 (bL d1 d2)):SeqAt.RcAt A s (.ref l) (.ref b) (cg ls ms):=by
 have h1:=q.length;have h2:=q'.length;by_cases h:ls.length=ms.length
 .
  rw[<- kL ls ms h];have e:us.toArray.size=ls.length:=by rw[b0,h1]
  rw[<- e];refine SeqAt.RcAt.lists hl hb (by rw[b0,b0];lia) hu λj g1 g2=>?_
  obtain⟨d1,e1,v1⟩:=q.get (j:=j) (u:=us[j]) (by simp[g1])
  obtain⟨d2,e2,v2⟩:=q'.get (j:=j) (u:=ws[j]) (by simp[g2])
  have:=he j d1 d2 us[j] ws[j] e1 v1 v2;simpa [Jr,e1,e2]using this
 . rw[kM ls ms h];refine SeqAt.RcAt.lists_lengths hl hb ?_ hu;rw[b0,b0];lia
theorem wI(hl:IsTup s.heap l us.toArray)(hb:IsTup s.heap b ws.toArray)(q:jT s.heap ls us)(q':jT s.heap ms ws)(hu:A.units<cLine)
  (he:∀(j:Nat) d1 d2 u1 u2,ls[j]?=some d1->Dv s.heap d1 u1->Dv s.heap d2 u2->SeqAt.EqAt A.in1 s u1 u2 (bL d1 d2)):SeqAt.RcAt A s (.ref l) (.ref b) (cg ls ms):=by
 have h1:=q.length;have h2:=q'.length;have e:us.toArray.size=ls.length:=by rw[b0,h1]
 have e':ws.toArray.size=ms.length:=by rw[b0,h2]
 rw[<- qD,<- e,<- e'];refine SeqAt.RcAt.tuples hl hb hu λj g1 g2=>?_
 obtain⟨d1,e1,v1⟩:=q.get (j:=j) (u:=us[j]) (by simp[g1])
 obtain⟨d2,e2,v2⟩:=q'.get (j:=j) (u:=ws[j]) (by simp[g2])
 have:=he j d1 d2 us[j] ws[j] e1 v1 v2;simpa [Jr,e1,e2]using this
theorem fB(x:Dv s.heap d1 (.ref l))(y:Dv s.heap d2 (.ref b))(h:SeqAt.RcAt A s (.ref l) (.ref b) (bL d1 d2)):SeqAt.EqAt A s (.ref l) (.ref b) (bL d1 d2):=by
 by_cases e:l=b
 . subst e;rw[FN x y];exact .same _
 . exact .of_refs e h
end
theorem zp{s:Shared}:∀(n:Nat) {d1 d2:D}{u1 u2:Value}{A:Around},dep d1<=n->Dv s.heap d1 u1->Dv s.heap d2 u2->A.units+n<cLine->SeqAt.EqAt A s u1 u2 (bL d1 d2)/\SeqAt.RcAt A s u1 u2 (bL d1 d2):=by
 intro n
 induction n with
 |zero=>
  intro d1 d2 u1 u2 A hn x y hu;have aN:A.units<cLine:=by lia
  cases x with
  |tup h q=>exact absurd hn (AA _)
  |lst h q=>exact absurd hn (AA _)
  |fix h q=>exact absurd hn (AA _)
  |non=>
   cases y with
   |non=>exact⟨.same _,.none_none⟩
   |bl c'=>exact⟨.none_bool c',.none_bool c'⟩
   |int c' t'=>exact⟨.none_int c' t',.none_int c' t'⟩
   |str c' t'=>exact⟨.none_str c' t',.none_str c' t'⟩
   |tup h' q'=>exact⟨.none_tuple h' aN,.none_tuple h' aN⟩
   |lst h' q'=>exact⟨.none_list h' aN,.none_list h' aN⟩
   |fix h' q'=>exact⟨.none_list h' aN,.none_list h' aN⟩
  |bl c=>
   cases y with
   |non=>exact⟨.bool_none c,.bool_none c⟩
   |bl c'=>exact⟨.bool_bool c c',.bool_bool c c'⟩
   |int c' t'=>exact⟨.bool_int c c' t',.bool_int c c' t'⟩
   |str c' t'=>exact⟨.bool_str c c' t',.bool_str c c' t'⟩
   |tup h' q'=>exact⟨.bool_tuple c h' aN,.bool_tuple c h' aN⟩
   |lst h' q'=>exact⟨.bool_list c h' aN,.bool_list c h' aN⟩
   |fix h' q'=>exact⟨.bool_list c h' aN,.bool_list c h' aN⟩
  |int c t=>
   cases y with
   |non=>exact⟨.int_none c t,.int_none c t⟩
   |bl c'=>exact⟨.int_bool c t c',.int_bool c t c'⟩
   |int c' t'=>exact⟨.int_int c t c' t',.int_int c t c' t'⟩
   |str c' t'=>exact⟨.int_str c t c' t',.int_str c t c' t'⟩
   |tup h' q'=>exact⟨.int_tuple c t h' aN,.int_tuple c t h' aN⟩
   |lst h' q'=>exact⟨.int_list c t h' aN,.int_list c t h' aN⟩
   |fix h' q'=>exact⟨.int_list c t h' aN,.int_list c t h' aN⟩
  |str c t=>
   cases y with
   |non=>exact⟨.str_none c t,.str_none c t⟩
   |bl c'=>exact⟨.str_bool c t c',.str_bool c t c'⟩
   |int c' t'=>exact⟨.str_int c t c' t',.str_int c t c' t'⟩
   |str c' t'=>exact⟨.str_str c t c' t',.str_str c t c' t'⟩
   |tup h' q'=>exact⟨.str_tuple c t h' aN,.str_tuple c t h' aN⟩
   |lst h' q'=>exact⟨.str_list c t h' aN,.str_list c t h' aN⟩
   |fix h' q'=>exact⟨.str_list c t h' aN,.str_list c t h' aN⟩
 |succ n ih=>
  intro d1 d2 u1 u2 A hn x y hu;have aN:A.units<cLine:=by lia
  have el:∀{l:List D},deps l<=n->∀(j:Nat) d1 d2 u1 u2,l[j]?=some d1->Dv s.heap d1 u1->Dv s.heap d2 u2->SeqAt.EqAt A.in1 s u1 u2 (bL d1 d2):=λhl j d1 d2 u1 u2 e v1 v2=>
   (ih (hU (kN e) hl) v1 v2 (by rw[in1_units];lia)).1
  cases x with
  |@tup l0 a0 Yq h q=>
   have hn':deps l0<=n:=AS hn;have x:=Dv.tup h q;cases y with
   |tup h' q'=>have r:=wI h h' q q' aN (el hn');exact⟨fB x (.tup h' q') r,r⟩
   |lst h' q'=>exact⟨.tuple_list h h' aN,.tuple_list h h' aN⟩
   |fix h' q'=>exact⟨.tuple_list h h' aN,.tuple_list h h' aN⟩
   |non=>exact⟨.tuple_none h aN,.tuple_none h aN⟩
   |bl b=>exact⟨.tuple_bool b h aN,.tuple_bool b h aN⟩
   |int b t=>exact⟨.tuple_int b t h aN,.tuple_int b t h aN⟩
   |str b t=>exact⟨.tuple_str b t h aN,.tuple_str b t h aN⟩
  |@lst l0 a0 Yq h q=>
   have hn':deps l0<=n:=AS hn;have x:=Dv.lst h q;cases y with
   |tup h' q'=>exact⟨.list_tuple h h' aN,.list_tuple h h' aN⟩
   |lst h' q'=>have r:=iz h h' q q' aN (el hn');exact⟨fB x (.lst h' q') r,r⟩
   |fix h' q'=>have r:=iz h h' q q' aN (el hn');exact⟨fB x (.fix h' q') r,r⟩
   |non=>exact⟨.list_none h aN,.list_none h aN⟩
   |bl b=>exact⟨.list_bool b h aN,.list_bool b h aN⟩
   |int b t=>exact⟨.list_int b t h aN,.list_int b t h aN⟩
   |str b t=>exact⟨.list_str b t h aN,.list_str b t h aN⟩
  |@fix l0 a0 Yq h q=>
   have hn':deps l0<=n:=AS hn;have x:=Dv.fix h q;cases y with
   |tup h' q'=>exact⟨.list_tuple h h' aN,.list_tuple h h' aN⟩
   |lst h' q'=>have r:=iz h h' q q' aN (el hn');exact⟨fB x (.lst h' q') r,r⟩
   |fix h' q'=>have r:=iz h h' q q' aN (el hn');exact⟨fB x (.fix h' q') r,r⟩
   |non=>exact⟨.list_none h aN,.list_none h aN⟩
   |bl b=>exact⟨.list_bool b h aN,.list_bool b h aN⟩
   |int b t=>exact⟨.list_int b t h aN,.list_int b t h aN⟩
   |str b t=>exact⟨.list_str b t h aN,.list_str b t h aN⟩
  |non=>
   cases y with
   |non=>exact⟨.same _,.none_none⟩
   |bl c'=>exact⟨.none_bool c',.none_bool c'⟩
   |int c' t'=>exact⟨.none_int c' t',.none_int c' t'⟩
   |str c' t'=>exact⟨.none_str c' t',.none_str c' t'⟩
   |tup h' q'=>exact⟨.none_tuple h' aN,.none_tuple h' aN⟩
   |lst h' q'=>exact⟨.none_list h' aN,.none_list h' aN⟩
   |fix h' q'=>exact⟨.none_list h' aN,.none_list h' aN⟩
  |bl c=>
   cases y with
   |non=>exact⟨.bool_none c,.bool_none c⟩
   |bl c'=>exact⟨.bool_bool c c',.bool_bool c c'⟩
   |int c' t'=>exact⟨.bool_int c c' t',.bool_int c c' t'⟩
   |str c' t'=>exact⟨.bool_str c c' t',.bool_str c c' t'⟩
   |tup h' q'=>exact⟨.bool_tuple c h' aN,.bool_tuple c h' aN⟩
   |lst h' q'=>exact⟨.bool_list c h' aN,.bool_list c h' aN⟩
   |fix h' q'=>exact⟨.bool_list c h' aN,.bool_list c h' aN⟩
  |int c t=>
   cases y with
   |non=>exact⟨.int_none c t,.int_none c t⟩
   |bl c'=>exact⟨.int_bool c t c',.int_bool c t c'⟩
   |int c' t'=>exact⟨.int_int c t c' t',.int_int c t c' t'⟩
   |str c' t'=>exact⟨.int_str c t c' t',.int_str c t c' t'⟩
   |tup h' q'=>exact⟨.int_tuple c t h' aN,.int_tuple c t h' aN⟩
   |lst h' q'=>exact⟨.int_list c t h' aN,.int_list c t h' aN⟩
   |fix h' q'=>exact⟨.int_list c t h' aN,.int_list c t h' aN⟩
  |str c t=>
   cases y with
   |non=>exact⟨.str_none c t,.str_none c t⟩
   |bl c'=>exact⟨.str_bool c t c',.str_bool c t c'⟩
   |int c' t'=>exact⟨.str_int c t c' t',.str_int c t c' t'⟩
   |str c' t'=>exact⟨.str_str c t c' t',.str_str c t c' t'⟩
   |tup h' q'=>exact⟨.str_tuple c t h' aN,.str_tuple c t h' aN⟩
   |lst h' q'=>exact⟨.str_list c t h' aN,.str_list c t h' aN⟩
   |fix h' q'=>exact⟨.str_list c t h' aN,.str_list c t h' aN⟩
section
variable{K:Frag}
theorem Pk.int{i:Int}(h:Pk K M H (.int i) v):v=.int i:=by cases h with |of r=>cases r;rfl
theorem Pk.bl(h:Pk K M H (.bl i) v):v=.bl i:=by cases h with |of r=>cases r;rfl
theorem Pk.str(h:Pk K M H (.str i) v):v=.str i:=by cases h with |of r=>cases r;rfl
theorem Pk.non(h:Pk K M H .non v):v=.non:=by cases h with |of r=>cases r;rfl
theorem Pk.tup{l:List D}(h:Pk K M H (.tup l) v):∃a xs,v=.ref a/\TupAt K M H a xs/\aG K M H l xs:=by cases h with |of r=>cases r with |tup h1 h2=>exact⟨_,_,rfl,h1,h2⟩
theorem Pk.fix{l:List D}(h:Pk K M H (.fix l) v):∃a xs,v=.ref a/\kI K M H a xs/\aG K M H l xs:=by cases h with |of r=>cases r with |fix h1 h2=>exact⟨_,_,rfl,h1,h2⟩
end
section
theorem uT{f:Value->Value->Sem Value}{k:Int->Int->Int}{i j:Int}(h:g7 X f (Dw λi j=>.int (k i j))):gD X z f (.int i) (.int j) (.dat (.int (k i j))):=
 ⟨_,h,λg Y L M H v1 v2 Q s p1 p2 kk=>⟨i,j,p1.int,p2.int,kk _ H L M s (ak.refl _ _) (.int _)⟩⟩
theorem oR{f:Value->Value->Sem Value}{C:Int->Int->Prop}{k:Int->Int->Int}{i j:Int}(h:g7 X f (rI C λi j=>.int (k i j)))(hc:C i j):gD X z f (.int i) (.int j) (.dat (.int (k i j))):=
 ⟨_,h,λg Y L M H v1 v2 Q s p1 p2 kk=>⟨i,j,p1.int,p2.int,hc,kk _ H L M s (ak.refl _ _) (.int _)⟩⟩
theorem oU{f:Value->Value->Sem Value}{k:Int->Int->Bool}{i j:Int}(h:g7 X f (Dw λi j=>.bl (k i j))):gD X z f (.int i) (.int j) (.dat (.bl (k i j))):=
 ⟨_,h,λg Y L M H v1 v2 Q s p1 p2 kk=>⟨i,j,p1.int,p2.int,kk _ H L M s (ak.refl _ _) (.bl _)⟩⟩
def zq(z:Z)(d1 d2:D)(b:Bool):R2:=λx y H Q=>(∃M,Pk z.K M H d1 x/\Pk z.K M H d2 y)/\Q (.bl b) H
theorem RK(hK:z.K=X.K)(p1:iQ d1=true)(p2:iQ d2=true)(hd:X.A.units+dep d1<cLine):gD X z (compareOp .Eq) d1 d2 (.dat (.bl (bL d1 d2))):=by
 refine⟨zq z d1 d2 (bL d1 d2),?_,λg Y L M H v1 v2 Q s q1 q2 kk=>⟨⟨M,q1,q2⟩,kk _ H L M s (ak.refl _ _) (.bl _)⟩⟩
 intro ah s Y H x y v u Q I rx ry h;obtain⟨⟨M,q1,q2⟩,q⟩:=h;rw[hK]at q1 q2;exact (zp (dep d1) (dC _) (q1.dv I rx p1) (q2.dv I ry p2) hd).2 X.prog X.w X.xe _ ⟨.bl _,H,I,rfl,q⟩
section
theorem iA(hl:s.heap.IsList l us.toArray)(hb:s.heap.IsList b ws.toArray)(q:jT s.heap ls us)(q':jT s.heap ms ws)(hu:A.units<cLine)
  (he:∀(j:Nat) d1 d2 u1 u2,ls[j]?=some d1->Dv s.heap d1 u1->Dv s.heap d2 u2->SeqAt.EqAt A.in1 s u1 u2 (bL d1 d2)):SeqAt.RcNeAt A s (.ref l) (.ref b) (!cg ls ms):=by
 have h1:=q.length;have h2:=q'.length;by_cases h:ls.length=ms.length
 .
  rw[<- kL ls ms h];have e:us.toArray.size=ls.length:=by rw[b0,h1]
  rw[<- e];refine SeqAt.RcNeAt.lists hl hb (by rw[b0,b0];lia) hu λj g1 g2=>?_
  obtain⟨d1,e1,v1⟩:=q.get (j:=j) (u:=us[j]) (by simp[g1])
  obtain⟨d2,e2,v2⟩:=q'.get (j:=j) (u:=ws[j]) (by simp[g2])
  have:=he j d1 d2 us[j] ws[j] e1 v1 v2;simpa [Jr,e1,e2]using this
 . rw[kM ls ms h];refine SeqAt.RcNeAt.lists_lengths hl hb ?_ hu;rw[b0,b0];lia
theorem wJ(hl:IsTup s.heap l us.toArray)(hb:IsTup s.heap b ws.toArray)(q:jT s.heap ls us)(q':jT s.heap ms ws)(hu:A.units<cLine)
  (he:∀(j:Nat) d1 d2 u1 u2,ls[j]?=some d1->Dv s.heap d1 u1->Dv s.heap d2 u2->SeqAt.EqAt A.in1 s u1 u2 (bL d1 d2)):SeqAt.RcNeAt A s (.ref l) (.ref b) (!cg ls ms):=by
 have h1:=q.length;have h2:=q'.length;have e:us.toArray.size=ls.length:=by rw[b0,h1]
 have e':ws.toArray.size=ms.length:=by rw[b0,h2]
 rw[<- qD,<- e,<- e'];refine SeqAt.RcNeAt.tuples hl hb hu λj g1 g2=>?_
 obtain⟨d1,e1,v1⟩:=q.get (j:=j) (u:=us[j]) (by simp[g1])
 obtain⟨d2,e2,v2⟩:=q'.get (j:=j) (u:=ws[j]) (by simp[g2])
 have:=he j d1 d2 us[j] ws[j] e1 v1 v2;simpa [Jr,e1,e2]using this
end
theorem RL(x:Dv s.heap d1 u1)(y:Dv s.heap d2 u2)(hu:A.units+dep d1<cLine):SeqAt.RcNeAt A s u1 u2 (!bL d1 d2):=by
 have aN:A.units<cLine:=by lia
 have el:∀{l:List D},deps l+1<=dep d1->∀(j:Nat) d1 d2 u1 u2,l[j]?=some d1->Dv s.heap d1 u1->Dv s.heap d2 u2->SeqAt.EqAt A.in1 s u1 u2 (bL d1 d2):=λhl j e1 e2 u1 u2 e v1 v2=>
  (zp (dep e1) (dC _) v1 v2 (by rw[in1_units];have:=kN e;lia)).1
 cases x with
 |tup h q=>
  cases y with
  |tup h' q'=>exact wJ h h' q q' aN (el (by simp[dep]))
  |lst h' q'=>exact .tuple_list h h' aN
  |fix h' q'=>exact .tuple_list h h' aN
  |non=>exact .tuple_none h aN
  |bl b=>exact .tuple_bool b h aN
  |int b t=>exact .tuple_int b t h aN
  |str b t=>exact .tuple_str b t h aN
 |lst h q=>
  cases y with
  |tup h' q'=>exact .list_tuple h h' aN
  |lst h' q'=>exact iA h h' q q' aN (el (by simp[dep]))
  |fix h' q'=>exact iA h h' q q' aN (el (by simp[dep]))
  |non=>exact .list_none h aN
  |bl b=>exact .list_bool b h aN
  |int b t=>exact .list_int b t h aN
  |str b t=>exact .list_str b t h aN
 |fix h q=>
  cases y with
  |tup h' q'=>exact .list_tuple h h' aN
  |lst h' q'=>exact iA h h' q q' aN (el (by simp[dep]))
  |fix h' q'=>exact iA h h' q q' aN (el (by simp[dep]))
  |non=>exact .list_none h aN
  |bl b=>exact .list_bool b h aN
  |int b t=>exact .list_int b t h aN
  |str b t=>exact .list_str b t h aN
 |non=>
  cases y with
  |non=>exact .none_none
  |bl c'=>exact .none_bool c'
  |int c' t'=>exact .none_int c' t'
  |str c' t'=>exact .none_str c' t'
  |tup h' q'=>exact .none_tuple h' aN
  |lst h' q'=>exact .none_list h' aN
  |fix h' q'=>exact .none_list h' aN
 |bl c=>
  cases y with
  |non=>exact .bool_none c
  |bl c'=>exact .bool_bool c c'
  |int c' t'=>exact .bool_int c c' t'
  |str c' t'=>exact .bool_str c c' t'
  |tup h' q'=>exact .bool_tuple c h' aN
  |lst h' q'=>exact .bool_list c h' aN
  |fix h' q'=>exact .bool_list c h' aN
 |int c t=>
  cases y with
  |non=>exact .int_none c t
  |bl c'=>exact .int_bool c t c'
  |int c' t'=>exact .int_int c t c' t'
  |str c' t'=>exact .int_str c t c' t'
  |tup h' q'=>exact .int_tuple c t h' aN
  |lst h' q'=>exact .int_list c t h' aN
  |fix h' q'=>exact .int_list c t h' aN
 |str c t=>
  cases y with
  |non=>exact .str_none c t
  |bl c'=>exact .str_bool c t c'
  |int c' t'=>exact .str_int c t c' t'
  |str c' t'=>exact .str_str c t c' t'
  |tup h' q'=>exact .str_tuple c t h' aN
  |lst h' q'=>exact .str_list c t h' aN
  |fix h' q'=>exact .str_list c t h' aN
theorem RM(hK:z.K=X.K)(p1:iQ d1=true)(p2:iQ d2=true)(hd:X.A.units+dep d1<cLine):gD X z (compareOp .NotEq) d1 d2 (.dat (.bl (!bL d1 d2))):=by
 refine⟨zq z d1 d2 (!bL d1 d2),?_,λg Y L M H v1 v2 Q s q1 q2 kk=>⟨⟨M,q1,q2⟩,kk _ H L M s (ak.refl _ _) (.bl _)⟩⟩
 intro ah s Y H x y v u Q I rx ry h;obtain⟨⟨M,q1,q2⟩,q⟩:=h;rw[hK]at q1 q2;exact RL (q1.dv I rx p1) (q2.dv I ry p2) hd X.prog X.w X.xe _ ⟨.bl _,H,I,rfl,q⟩
theorem zu(q:Dv h d u):∀d' x,Dv h d' u->bL d x=bL d' x:=by
 have two:∀{l l':List D} (x:D),(∀m,cg l m=cg l' m)->bL (.lst l) x=bL (.lst l') x/\bL (.fix l) x=bL (.lst l') x/\bL (.lst l) x=bL (.fix l') x/\bL (.fix l) x=bL (.fix l') x:=λx k=>by
  cases x with
  |lst m=>exact⟨k m,k m,k m,k m⟩
  |fix m=>exact⟨k m,k m,k m,k m⟩
  |_=>exact⟨rfl,rfl,rfl,rfl⟩
 refine Dv.rec (motive_2:=λl us _=>∀l' m,jT h l' us->cg l m=cg l' m) ?_ ?_ ?_ ?_ ?_ ?_ ?_ ?_ ?_ q
 . intro d' x q;cases q;rfl
 . intro b d' x q;cases q;rfl
 . intro i t d' x q;cases q;rfl
 . intro y t d' x q;cases q;rfl
 .
  intro l a us k _ ih d' x q;cases q with
  |tup y q'=>
   cases mW k y;cases x with
   |tup m=>exact ih _ m q'
   |_=>rfl
  |lst y _=>exact (cE k y).elim
  |fix y _=>exact (cE k y).elim
 .
  intro l a us k _ ih d' x q;cases q with
  |tup y _=>exact (cE y k).elim
  |lst y q'=>cases bF k y;exact (two x λm=>ih _ m q').1
  |fix y q'=>cases bF k y;exact (two x λm=>ih _ m q').2.2.1
 .
  intro l a us k _ ih d' x q;cases q with
  |tup y _=>exact (cE y k).elim
  |lst y q'=>cases bF k y;exact (two x λm=>ih _ m q').2.1
  |fix y q'=>cases bF k y;exact (two x λm=>ih _ m q').2.2.2
 . intro l' m q;cases q;rfl
 .
  intro d ds u us _ _ i1 i2 l' m q;cases q with
  |@cons d' l' _ _ b q'=>cases m with
   |nil=>rfl
   |cons y m=>show (bL d y&&cg ds m)=(bL d' y&&cg l' m);rw[i1 _ y b,i2 _ m q']
theorem FP(x:D)(q:Dv h d u)(q':Dv h d' u):bL d x=bL d' x:=zu q d' x q'
open Classical in
def lY(h:Heap)(x:D)(u:Value):Bool:=decide (∃d,Dv h d u/\bL d x=true)
open Classical in
theorem zz(q:Dv h d u):lY h x u=bL d x:=by
 unfold lY;cases e:bL d x with
 |true=>exact i4 ⟨d,q,e⟩
 |false=>refine hV ?_;rintro⟨d',q',e'⟩;rw[FP x q' q,e]at e';cases e'
theorem fM(q:jT h l us):us.any (lY h x)=l.any λd=>bL d x:=by
 induction l generalizing us with
 |nil=>cases q;rfl
 |cons d l ih=>cases q with |cons a b=>rw[List.any_cons,List.any_cons,zz a,ih b]
def RN(z:Z)(d1 d2:D)(b:Bool):R2:=zq z d1 d2 b
theorem iU{A:Around}{s:Shared}{x:D}{u:Value}{l:List D}{us:List Value}(q:jT s.heap l us)(hx:Dv s.heap x u)(hu:A.units+deps l+1<cLine):∀y,y∈us.toArray->SeqAt.EqAt A.in1 s y u (lY s.heap x y):=by
 intro y hy;have hy':y∈us:=by simpa using hy
 obtain⟨j,hj⟩:=List.getElem?_of_mem hy';obtain⟨d,e,qd⟩:=q.get hj;rw[zz qd];have:=kN e;exact (zp (dep d) (dC _) qd hx (by rw[in1_units];lia)).1
noncomputable def dR:D->Option (List D)
 |.lst l=>some l
 |.tup l=>some l
 |.fix l=>some l
 |_=>none
theorem RP(hK:z.K=X.K)(hs:dR d2=some l)(p1:iQ d1=true)(p2:gG l=true)(hd:X.A.units+deps l+1<cLine):gD X z (compareOp .In) d1 d2 (.dat (.bl (l.any λd=>bL d d1))):=by
 refine⟨RN z d1 d2 (l.any λd=>bL d d1),?_,λg Y L M H v1 v2 Q s q1 q2 kk=>⟨⟨M,q1,q2⟩,kk _ H L M s (ak.refl _ _) (.bl _)⟩⟩
 intro ah s Y H x y v u Q I rx ry h;obtain⟨⟨M,q1,q2⟩,q⟩:=h;rw[hK]at q1 q2;have hx:=q1.dv I rx p1;cases d2 with
 |lst m=>
  cases hs;obtain⟨a,xs,rfl,ha,rr⟩:=q2.list;cases ry;obtain⟨aq,rv,pl,hz⟩:=I.list (bH.of ha);have jI:=rr.dv I rv p2;refine SeqAt.in_listAt (lY s.heap d1) pl.isList (iU jI hx hd) ⟨.bl _,H,I,rfl,?_⟩;rw[show aq.toArray.any (lY s.heap d1)=aq.any (lY s.heap d1)by simp,fM jI]
  exact q
 |fix m=>
  cases hs;obtain⟨a,xs,rfl,ha,rr⟩:=q2.fix;cases ry;obtain⟨aq,rv,pl,hz⟩:=I.list ha.sq;have jI:=rr.dv I rv p2;refine SeqAt.in_listAt (lY s.heap d1) pl.isList (iU jI hx hd) ⟨.bl _,H,I,rfl,?_⟩;rw[show aq.toArray.any (lY s.heap d1)=aq.any (lY s.heap d1)by simp,fM jI]
  exact q
 |tup m=>
  cases hs;obtain⟨a,xs,rfl,ha,rr⟩:=q2.tup;cases ry;obtain⟨aq,rv,pl,hz⟩:=I.tuple ha.sq;have jI:=rr.dv I rv p2;refine SeqAt.in_tupleAt (lY s.heap d1) pl (iU jI hx hd) ⟨.bl _,H,I,rfl,?_⟩;rw[show aq.toArray.any (lY s.heap d1)=aq.any (lY s.heap d1)by simp,fM jI]
  exact q
 |_=>cases hs
theorem zA(hK:z.K=X.K)(hs:dR d2=some l)(p1:iQ d1=true)(p2:gG l=true)(hd:X.A.units+deps l+1<cLine):gD X z (compareOp .NotIn) d1 d2 (.dat (.bl (!l.any λd=>bL d d1))):=by
 refine⟨RN z d1 d2 (!l.any λd=>bL d d1),?_,λg Y L M H v1 v2 Q s q1 q2 kk=>⟨⟨M,q1,q2⟩,kk _ H L M s (ak.refl _ _) (.bl _)⟩⟩
 intro ah s Y H x y v u Q I rx ry h;obtain⟨⟨M,q1,q2⟩,q⟩:=h;rw[hK]at q1 q2;have hx:=q1.dv I rx p1;cases d2 with
 |lst m=>
  cases hs;obtain⟨a,xs,rfl,ha,rr⟩:=q2.list;cases ry;obtain⟨aq,rv,pl,hz⟩:=I.list (bH.of ha);have jI:=rr.dv I rv p2;refine SeqAt.notIn_listAt (lY s.heap d1) pl.isList (iU jI hx hd) ⟨.bl _,H,I,rfl,?_⟩;rw[show aq.toArray.any (lY s.heap d1)=aq.any (lY s.heap d1)by simp,fM jI]
  exact q
 |fix m=>
  cases hs;obtain⟨a,xs,rfl,ha,rr⟩:=q2.fix;cases ry;obtain⟨aq,rv,pl,hz⟩:=I.list ha.sq;have jI:=rr.dv I rv p2;refine SeqAt.notIn_listAt (lY s.heap d1) pl.isList (iU jI hx hd) ⟨.bl _,H,I,rfl,?_⟩;rw[show aq.toArray.any (lY s.heap d1)=aq.any (lY s.heap d1)by simp,fM jI]
  exact q
 |tup m=>
  cases hs;obtain⟨a,xs,rfl,ha,rr⟩:=q2.tup;cases ry;obtain⟨aq,rv,pl,hz⟩:=I.tuple ha.sq;have jI:=rr.dv I rv p2;refine SeqAt.notIn_tupleAt (lY s.heap d1) pl (iU jI hx hd) ⟨.bl _,H,I,rfl,?_⟩;rw[show aq.toArray.any (lY s.heap d1)=aq.any (lY s.heap d1)by simp,fM jI]
  exact q
 |_=>cases hs
theorem qE(b:Bool)(r:RelV x v):plainIs v (.bool b)=true/\(v==Value.bool b)=decide (x=V.bl b):=by
 cases x with
 |non=>cases r;exact⟨rfl,rfl⟩
 |bl c=>cases r;exact⟨rfl,by cases c <;> cases b <;> rfl⟩
 |int _=>obtain⟨t,rfl⟩:=r;exact⟨rfl,rfl⟩
 |str _=>obtain⟨t,rfl⟩:=r;exact⟨rfl,rfl⟩
 |uE _=>obtain⟨t,rfl⟩:=r;exact⟨rfl,rfl⟩
 |flt _=>obtain⟨t,rfl⟩:=r;exact⟨rfl,rfl⟩
 |ref _=>cases r;exact⟨rfl,rfl⟩
 |ty _=>cases r;exact⟨rfl,rfl⟩
def Js(d:D)(b:Bool):Bool:=match d with |.bl c=>c==b |_=>false
theorem zB{K:Frag}{M:List Addr}{H:Hp}{d:D}{x:V}{b:Bool}(h:Pk K M H d x):decide (x=V.bl b)=Js d b:=by
 cases h with
 |of r=>
  cases r with
  |bl c=>cases c <;> cases b <;> rfl
  |_=>rfl
 |lst _ _=>rfl
theorem RQ{d1:D}{b:Bool}:gD X z (compareOp .Is) d1 (.bl b) (.dat (.bl (Js d1 b))):=by
 refine⟨zq z d1 (.bl b) (Js d1 b),?_,λg Y L M H v1 v2 Q s q1 q2 kk=>⟨⟨M,q1,q2⟩,kk _ H L M s (ak.refl _ _) (.bl _)⟩⟩
 intro ah s Y H x y v u Q I rx ry h;obtain⟨⟨M,q1,q2⟩,q⟩:=h;have e:=q2.bl;subst e;cases ry;obtain⟨h1,h2⟩:=qE b rx;refine wpAny_is_plain h1 ⟨.bl (Js d1 b),H,I,?_,q⟩;rw[h2,zB q1];rfl
theorem zC{d1:D}{b:Bool}:gD X z (compareOp .IsNot) d1 (.bl b) (.dat (.bl (!Js d1 b))):=by
 refine⟨zq z d1 (.bl b) (!Js d1 b),?_,λg Y L M H v1 v2 Q s q1 q2 kk=>⟨⟨M,q1,q2⟩,kk _ H L M s (ak.refl _ _) (.bl _)⟩⟩
 intro ah s Y H x y v u Q I rx ry h;obtain⟨⟨M,q1,q2⟩,q⟩:=h;have e:=q2.bl;subst e;cases ry;obtain⟨h1,h2⟩:=qE b rx;refine wpAny_isNot_plain h1 ⟨.bl (!Js d1 b),H,I,?_,q⟩;rw[h2,zB q1];rfl
def FQ(d:D):Bool:=match d with |.non=>true |_=>false
theorem zD{K:Frag}{M:List Addr}{H:Hp}{d:D}{x:V}(h:Pk K M H d x):decide (x=V.non)=FQ d:=by
 cases h with
 |of r=>cases r <;> rfl
 |lst _ _=>rfl
theorem Ly{d1:D}:gD X z (compareOp .Is) d1 .non (.dat (.bl (FQ d1))):=
 ⟨_,KH,λg Y L M H v1 v2 Q s q1 q2 kk=>⟨q2.non,by rw[zD q1];exact kk _ H L M s (ak.refl _ _) (.bl _)⟩⟩
theorem FT{d1:D}:gD X z (compareOp .IsNot) d1 .non (.dat (.bl (!FQ d1))):=
 ⟨_,Er,λg Y L M H v1 v2 Q s q1 q2 kk=>⟨q2.non,by rw[zD q1];exact kk _ H L M s (ak.refl _ _) (.bl _)⟩⟩
theorem Lz(h:l.length+m.length<=16777216):gD X z (binaryOp .Add) (.lst l) (.lst m) (.new (l++m)):=by
 refine⟨_,K3,λg Y L M H v1 v2 Q s q1 q2 kk=>?_⟩
 obtain⟨a,xs,rfl,ha,ra⟩:=q1.list;obtain⟨b,ys,rfl,hb,rb⟩:=q2.list;refine⟨a,b,xs,ys,rfl,rfl,ha,hb,by rw[<- ra.length,<- rb.length];exact kK h,λp hp=>?_⟩
 exact kk _ _ L (p::M) (s.aL hp) (ak.aL hp) ⟨p,_,rfl,bP,λhA=>s.fresh hp (s.sub p hA),s.bE hp,aA,(ra.append rb).stay (ak.aL hp)⟩
theorem LC(h1 : -(2 ^ 63)<=k)(h2:k<2 ^ 63)(h:l.length * k.toNat<=16777216):gD X z (binaryOp .Mult) (.lst l) (.int k) (.new (List.replicate k.toNat l).flatten):=by
 refine⟨_,K4,λg Y L M H v1 v2 Q s q1 q2 kk=>?_⟩
 obtain⟨a,xs,rfl,ha,ra⟩:=q1.list;have rr:∀n,aG z.K M H (List.replicate n l).flatten (List.replicate n xs).flatten:=λn=>by
  induction n with
  |zero=>simp;exact .nil
  |succ n ih=>rw[t6,t6];exact ra.append ih
 refine⟨a,k,xs,rfl,q2.int,ha,h1,h2,by rw[<- ra.length];exact kK h,λp hp=>?_⟩
 exact kk _ _ L (p::M) (s.aL hp) (ak.aL hp) ⟨p,_,rfl,bP,λhA=>s.fresh hp (s.sub p hA),s.bE hp,aA,(rr _).stay (ak.aL hp)⟩
def LK(K:Frag):R2:=λx y H Q=>∃a b xs ys,x=.ref a/\y=.ref b/\fU K H a xs/\fU K H b ys/\xs.length+ys.length<=sizeLine/\
 (xs=[]->Q (.ref b) H)/\(xs≠[]->ys=[]->Q (.ref a) H)/\(xs≠[]->ys≠[]->∀p,H p=none->Q (.ref p) (upd H p (.tup (xs++ys))))
theorem zE:g7 X (binaryOp .Add) (LK X.K):=by
 intro ah s Y H x y v u Q I rx ry h;obtain⟨a,b,xs,ys,rfl,rfl,ha,hb,hz,q0,q1,q2⟩:=h;by_cases hx:xs=[]
 .
  subst hx;cases rx;cases ry;obtain⟨aq,r1,p1,_⟩:=I.tuple ha;obtain⟨lX,r2,p2,_⟩:=I.tuple hb;cases r1;obtain⟨⟨cls,dd,data,sl⟩,ho,hc,n,hd⟩:=id p1;obtain⟨⟨Wi,dd2,data2,sl2⟩,ho2,hc2,n2,hd2⟩:=id p2;subst hc hd hc2 hd2;exact concat_meets ⟨_,ho,rfl⟩ ⟨_,ho2,rfl⟩ noFill_tuple_add seq_tuple_add AQ AJ (AG _ _)
   (tuple_addW0 a b #[] lX.toArray n n2 dd dd2 sl sl2 ⋯) ⟨ho,ho2,⟨.ref b,H,I,rfl,q0 rfl⟩⟩
 . exact Fb ah s Y H (.ref a) (.ref b) v u Q I rx ry ⟨a,b,xs,ys,rfl,rfl,ha,hb,hx,hz,q1 hx,q2 hx⟩
theorem FW(hK:z.K=X.K)(h:l.length+m.length<=16777216):gD X z (binaryOp .Add) (.tup l) (.tup m) (.dat (.tup (l++m))):=by
 refine⟨_,zE,λg Y L M H v1 v2 Q s q1 q2 kk=>?_⟩
 obtain⟨a,xs,rfl,ha,ra⟩:=q1.tup;obtain⟨b,ys,rfl,hb,rb⟩:=q2.tup;have la:=ra.length;have lb:=rb.length;refine⟨a,b,xs,ys,rfl,rfl,hK▸ha.sq,hK▸hb.sq,by rw[<- la,<- lb];exact kK h,λe=>?_,λe1 e2=>?_,λe1 e2 p hp=>?_⟩
 .
  subst e;cases l with
  |nil=>exact kk _ H L M s (ak.refl _ _) (.tup hb rb)
  |cons _ _=>simp at la
 .
  subst e2;cases m with
  |nil=>rw[nN]at kk;exact kk _ H L M s (ak.refl _ _) (.tup ha ra)
  |cons _ _=>simp at lb
 . exact kk _ _ L M (s.laid hp) (ak.laid hp) (.tup (.inl ⟨s.fresh hp,.inl aA⟩) ((ra.append rb).stay (ak.laid hp)))
theorem kO{K:Frag}{M:List Addr}{H:Hp}{l:List D}{xs:List V}{i:Int}{d:D}(r:aG K M H l xs)(h:dD l i=some d):∃v,dD xs i=some v/\Rep K M H d v:=by
 unfold dD at h ⊢
 rw[<- r.length];cases e:pZ l.length i with
 |none=>rw[e]at h;symm
 |some j=>rw[e]at h;have h':=h;obtain⟨v,h1,h2⟩:=r.get h';exact⟨v,h1,h2⟩
theorem LQ{l:List D}{i:Int}{d:D}(hK:z.K=X.K)(h:dD l i=some d):K9 X z (.lst l) (.int i) (.dat d):=by
 refine⟨_,jS,λg Y L M H v1 v2 Q s q1 q2 kk=>?_⟩
 obtain⟨a,xs,rfl,ha,ra⟩:=q1.list;obtain⟨v,e,r⟩:=kO ra h;exact⟨a,xs,i,v,rfl,q2.int,bH.of ha,e,kk _ H L M s (ak.refl _ _) r⟩
theorem LR{l:List D}{i:Int}{d:D}(hK:z.K=X.K)(h:dD l i=some d):K9 X z (.fix l) (.int i) (.dat d):=by
 refine⟨_,jS,λg Y L M H v1 v2 Q s q1 q2 kk=>?_⟩
 obtain⟨a,xs,rfl,ha,ra⟩:=q1.fix;obtain⟨v,e,r⟩:=kO ra h;exact⟨a,xs,i,v,rfl,q2.int,hK▸ha.sq,e,kk _ H L M s (ak.refl _ _) r⟩
theorem FZ{l:List D}{i:Int}{d:D}(hK:z.K=X.K)(h:dD l i=some d):K9 X z (.tup l) (.int i) (.dat d):=by
 refine⟨_,KS,λg Y L M H v1 v2 Q s q1 q2 kk=>?_⟩
 obtain⟨a,xs,rfl,ha,ra⟩:=q1.tup;obtain⟨v,e,r⟩:=kO ra h;exact⟨a,xs,i,v,rfl,q2.int,hK▸ha.sq,e,kk _ H L M s (ak.refl _ _) r⟩
noncomputable def cU:List D->Option (~~~0)
 | []=>some []
 |.int i::l=>match cU l with |some ns=>some (i::ns) |none=>none
 |_::_=>none
theorem dU{K:Frag}{M:List Addr}{H:Hp}{l:List D}{xs:List V}{ns: ~~~0}(q:aG K M H l xs)(e:cU l=some ns):xs=ns.map V.int:=by
 induction l generalizing xs ns with
 |nil=>cases q;cases e;rfl
 |cons d l ih=>cases q with |cons r q=>cases d with
  |int i=>
   have e:(match cU l with |some ns=>some (i::ns) |none=>none)=some ns:=e
   cases e2:cU l with
   |none=>rw[e2]at e;cases e
   |some ns=>rw[e2]at e;cases e;cases r;rw[List.map_cons,ih q e2]
  |_=>cases e
theorem LW:Yp X z (unaryOp .USub) (.int i) (.dat (.int (-i))):=⟨_,sI,λg Y L M H v Q s p k=>⟨i,p.int,k _ H L M s (ak.refl _ _) (.int _)⟩⟩
end
section
theorem FJ.one{K:Frag}{M:List Addr}{H:Hp}{d:D}{vs:List V}(h:FJ K M H [d] vs):∃v,vs=[v]/\Pk K M H d v:=by cases h with |cons p q=>cases q;exact⟨_,rfl,p⟩
theorem FJ.two{K:Frag}{M:List Addr}{H:Hp}{d e:D}{vs:List V}(h:FJ K M H [d,e] vs):∃v w,vs=[v,w]/\Pk K M H d v/\Pk K M H e w:=by cases h with |cons p q=>cases q with |cons p' q'=>cases q';exact⟨_,_,rfl,p,p'⟩
noncomputable def RV:D->Option Nat
 |.lst l=>some l.length
 |.tup l=>some l.length
 |.fix l=>some l.length
 |_=>none
theorem L0{d:D}{n:Nat}(hK:z.K=X.K)(h:RV d=some n):CallD X z (.builtin "len") [d] ‹n›:=by
 refine⟨_,g8,λg Y L M H vs Q s p k=>?_⟩
 obtain⟨v,rfl,pv⟩:=p.one;refine⟨v,n,rfl,?_,k _ H L M s (ak.refl _ _) (.int _)⟩;cases d with
 |lst l=>symm;obtain⟨a,xs,rfl,ha,r⟩:=pv.list;exact .inl ⟨xs,bH.of ha,r.length⟩
 |fix l=>symm;obtain⟨a,xs,rfl,ha,r⟩:=pv.fix;exact .inl ⟨xs,hK▸ha.sq,r.length⟩
 |tup l=>symm;obtain⟨a,xs,rfl,ha,r⟩:=pv.tup;exact .inr ⟨xs,hK▸ha.sq,r.length⟩
 |_=>symm
theorem Ga{d:D}{l:List D}(hK:z.K=X.K)(h:dR d=some l):CallD X z (.type "list") [d] (.new l):=by
 refine⟨_,oM,λg Y L M H vs Q s p k=>?_⟩
 obtain⟨v,rfl,pv⟩:=p.one;have fin:∀xs,aG z.K M H l xs->∀p,H p=none->Q (.ref p) (upd H p (.lst xs)):=λxs r p hp=>
  k _ _ L (p::M) (s.aL hp) (ak.aL hp) ⟨p,xs,rfl,bP,λhA=>s.fresh hp (s.sub p hA),s.bE hp,aA,r.stay (ak.aL hp)⟩
 cases d with
 |lst m=>symm;obtain⟨a,xs,rfl,ha,r⟩:=pv.list;exact⟨a,xs,rfl,.inl (bH.of ha),fin xs r⟩
 |fix m=>symm;obtain⟨a,xs,rfl,ha,r⟩:=pv.fix;exact⟨a,xs,rfl,.inl (hK▸ha.sq),fin xs r⟩
 |tup m=>symm;obtain⟨a,xs,rfl,ha,r⟩:=pv.tup;exact⟨a,xs,rfl,.inr (hK▸ha.sq),fin xs r⟩
 |_=>symm
theorem zF{d:D}{l:List D}(hK:z.K=X.K)(h:dR d=some l):CallD X z (.type "tuple") [d] (.dat (.tup l)):=by
 refine⟨_,mj,λg Y L M H vs Q s p k=>?_⟩
 obtain⟨v,rfl,pv⟩:=p.one;have fin:∀xs,aG z.K M H l xs->∀p,H p=none->Q (.ref p) (upd H p (.tup xs)):=λxs r p hp=>
  k _ _ L M (s.laid hp) (ak.laid hp) (.tup (.inl ⟨s.fresh hp,.inl aA⟩) (r.stay (ak.laid hp)))
 cases d with
 |lst m=>symm;obtain⟨a,xs,rfl,ha,r⟩:=pv.list;exact⟨a,xs,rfl,.inl ⟨bH.of ha,fin xs r⟩⟩
 |fix m=>symm;obtain⟨a,xs,rfl,ha,r⟩:=pv.fix;exact⟨a,xs,rfl,.inl ⟨hK▸ha.sq,fin xs r⟩⟩
 |tup m=>symm;obtain⟨a,xs,rfl,ha,r⟩:=pv.tup;exact⟨a,xs,rfl,.inr ⟨hK▸ha.sq,k _ H L M s (ak.refl _ _) (.tup ha r)⟩⟩
 |_=>symm
theorem L5{i j:Int}(hc:X.calm=true):CallD X z (.builtin "max") [.int i,.int j] (.dat (.int (if j > i then j else i))):=by
 refine⟨_,wj hc,λg Y L M H vs Q s p k=>?_⟩
 obtain⟨v,w,rfl,p1,p2⟩:=p.two;exact⟨i,j,by rw[p1.int,p2.int],k _ H L M s (ak.refl _ _) (.int _)⟩
theorem L7{i j:Int}(hc:X.calm=true):CallD X z (.builtin "min") [.int i,.int j] (.dat (.int (if j<i then j else i))):=by
 refine⟨_,wm hc,λg Y L M H vs Q s p k=>?_⟩
 obtain⟨v,w,rfl,p1,p2⟩:=p.two;exact⟨i,j,by rw[p1.int,p2.int],k _ H L M s (ak.refl _ _) (.int _)⟩
end
section
theorem kP(hc:X.calm=true):cL X (.builtin "all") (λxs H Q=>∃(p:Addr) (bs:List Bool),xs=[.ref p]/\bH X.K H p (bs.map V.bl)/\Q (.bl (bs.all id)) H):=by
 intro ah s Y H xs us Q I r h;obtain⟨p,bs,rfl,hp,q⟩:=h;obtain⟨u,rfl,rx⟩:=vals1 r;cases rx;obtain⟨aq,rv,pl,hz⟩:=I.list hp;have yy:p<s⁻¹:=by obtain⟨_,e,_⟩:=pl.isList;exact eJ e
 have aJ:aq.length=bs.length:=by rw[<- rv.length,eC]
 have up:∀b o,s.heap.get? b=some o->(s.heap.push { cls:=.type "list_iterator",data:=.fields #[.ref p,.int 0 0]}).get? b=some o:=λb o e=>a9 _ e
 refine call_all_walk (wpAny_pyIter_list pl.isList ?_);refine⟨s⁻¹,_,_,_,_,_,λi=>bs.getD i true,rfl,Walks.list (show X.A.in1.handled=none from I.ok.hd hc) s⁻¹ p (i8 yy) aq.toArray,⟨⟨_,d0 _ rfl,rfl,rfl⟩,pl.isList.push _⟩,?_,λh' tk hk=>?_⟩
 .
  intro i v s' Q' E' hv hq;have hv':aq[i]?=some v:=by simpa using hv
  have hi:i<bs.length:=by rw[<- aJ];exact (dA.mp hv').1
  obtain⟨w,e1,e2⟩:=rv.get (i:=i) (x:=V.bl bs[i]) (by simp[hi])
  rw[hv']at e1;cases e1;cases e2;refine mI ?_;have:bs.getD i true=bs[i]:=by simp[hi]
  rw[<- this];exact hq
 .
  have I1:L2.Inv X ah Y H { s with heap:=h',toks:=tk}:=I.kept λb o e=>hk b o (λhm=>by
   have:b=s⁻¹:=by simpa using hm
   exact absurd (eJ e) (by rw[this];exact oT _)) (up b o e)
  refine⟨.bl (bs.all id),H,I1,?_,q⟩;have e:(List.range aq.toArray.size).all (λi=>bs.getD i true)=bs.all id:=by
   rw[b0,aJ];rw[pE];simp only[tP,tJ];constructor
   . intro h b hb;obtain⟨j,hj⟩:=List.getElem?_of_mem hb;have hj':=(dA.mp hj).1;have:=h j hj';simpa [List.getD,hj]using this
   . intro h i hi;have:=h bs[i] (List.getElem_mem hi);simpa [List.getD,hi]using this
  rw[e];rfl
noncomputable def qF:List D->Option (List Bool)
 | []=>some []
 |.bl b::l=>match qF l with |some bs=>some (b::bs) |none=>none
 |_::_=>none
theorem zG{K:Frag}{M:List Addr}{H:Hp}{l:List D}{xs:List V}{ns:List Bool}(q:aG K M H l xs)(e:qF l=some ns):xs=ns.map V.bl:=by
 induction l generalizing xs ns with
 |nil=>cases q;cases e;rfl
 |cons d l ih=>cases q with |cons r q=>cases d with
  |bl i=>
   have e:(match qF l with |some ns=>some (i::ns) |none=>none)=some ns:=e
   cases e2:qF l with
   |none=>rw[e2]at e;cases e
   |some ns=>rw[e2]at e;cases e;cases r;rw[List.map_cons,ih q e2]
  |_=>cases e
theorem L8{l:List D}{bs:List Bool}(hc:X.calm=true)(h:qF l=some bs):CallD X z (.builtin "all") [.lst l] (.dat (.bl (bs.all id))):=by
 refine⟨_,kP hc,λg Y L M H vs Q s p k=>?_⟩
 obtain⟨v,rfl,pv⟩:=p.one;obtain⟨a,xs,rfl,ha,r⟩:=pv.list;have e:=zG r h;subst e;exact⟨a,bs,rfl,bH.of ha,k _ H L M s (ak.refl _ _) (.bl _)⟩
end
noncomputable def oV:D->String
 |.non=> "NoneType" |.bl _=> "bool" |.int _=> "int" |.str _=> "str" |.tup _=> "tuple" |.lst _=> "list" |.fix _=> "list" |.emp=> "dict" |.uQ _=> "" |.uR ..=> "dict"
def Dz:D->Value
 |.uQ C=>.ref C
 |d=>.type (oV d)
theorem wK{M:Model}{A:Around}{E:Value->Shared->Prop}{K:Frag}{x C:Addr}{ox:Obj}{nv:Value}{Q:Unit->Shared->Prop}{s:Shared}(X:K.In s.heap)(I:PySem.W.InstAt s.heap x ox C none)(hb:PySem.W.mroIn K C (.type "BaseException")=some true)(hq:Q () s) :
  wpAny M A (checkBuiltinCall "BaseException.__getattribute__" ⟨[.ref x,nv],[]⟩) Q E s:=by
 have kd:builtinKind "BaseException.__getattribute__"=some .slot:=by decide +kernel
 have sd:splitId "BaseException.__getattribute__"=some ("BaseException", "__getattribute__"):=by decide +kernel
 obtain⟨hv,ge,dr,tk,o'⟩:=s;have l0:=I.type (M:=M);have l1:=PySem.W.looks_mroIn (M:=M) X hb;simp only[checkBuiltinCall];refine aS (aS (l0.at (l1.at ?_)))
 repeat (any_goals (first |assumption |wp_step))
theorem zH{prog:Program}{w:World}{A:Around}{E:Value->Shared->Prop}{K:Frag}{x C:Addr}{ox:Obj}{name:Str}{g a:Value}{Q:Option Value->Shared->Prop}{s:Shared}(X:K.In s.heap)(I:PySem.W.InstAt s.heap x ox C none)
  (hga:PySem.W.findIn K (.ref C) "__getattribute__"=some (some (.builtin "BaseException.__getattribute__"))) (hk:PySem.W.findIn K (.ref C) "__getattr__"=some none) (hb:PySem.W.mroIn K C (.type "BaseException")=some true) (hf:PySem.W.findObj K C none name=some (.bind g a))
  (h:wpAny (model prog w) A.in1 (call g [a,.ref x,.ref C]) (λv s'=>wpAny (model prog w) A (handedOut v) (λv s''=>Q (some v) s'') (λ_ _=>False) s') (λ_ _=>False) { s with toks:=s.toks+1}) :
  wpAny (model prog w) A (getAttr? (.ref x) name) Q E s:=by
 obtain⟨hv,ge,dr,tk,o'⟩:=s;have l0:=I.type (M:=model prog w);have l1:=PySem.W.looks_findIn (M:=model prog w) X hga;have l2:=PySem.W.looks_findIn (M:=model prog w) X hk;have l3:=PySem.W.looks_find (M:=model prog w) X I hf;have f3:=F.excAttr_ValueError.ga.bind (.ref x);refine aS (wpAny_mkText (aS (wpAny_attempt (i9 (aS (l0.at (aS (l1.at ?_))))))));refine aS (l2.at (aS (wpAny_attempt (i9 ?_))));show wpAny _ _ (boundAndCalled _ _ _) _ _ _;unfold boundAndCalled;refine aS (c8 (wpAny_call (codeAny_call_builtin F.excAttr_ValueError.ga.plain F.entry_bexc_ga (wK X I hb ?_))));refine aS (c8 (aS (c8 (aS (l0.at (aS (l3.at ?_)))))));refine aS (i9 (oQ h (λv s' z=>c8 ?_) λ_ _ z=>z.elim))
 exact oQ z (λv s'' hv=>c8 hv) (λ_ _ z=>z.elim)
theorem iV{K:Frag}{C:Addr}(k:Rw K C):∃c d cd sl,K.lookup C=some ⟨c,d,.cls cd,sl⟩/\PySem.W.clsIn K C=some cd:=by
 obtain⟨cd,hc,_⟩:=PySem.W.any_some k.dct;have hc':=hc;unfold PySem.W.clsIn at hc;split at hc
 . rename_i c d cd' sl ho;cases hc;exact⟨c,d,cd,sl,ho,hc'⟩
 . cases hc
theorem qG{K:Frag}{x C:Addr}(k:Rw K C):PySem.W.KitX K (.ref x) (.ref C) (λh=>∃ox,PySem.W.InstAt h x ox C none) where
 ty:=by rintro _ _ _ ⟨_,I⟩;exact I.type
 it:=λ_ _ X _=>by
  obtain⟨c,d,cd,sl,ho,_⟩:=iV k;intro A' Q' E' s' kp q;refine aS ?_;refine wpAny_loadPart (kp _ _ (X _ _ ho)) ?_;exact c8 q
 ne:=λh tp dd aq n sl X htp=>by
  obtain⟨c,d,cd,Yd,ho,_⟩:=iV k;cases q:(Value.ref C==Value.ref tp)with
  |false=>rfl
  |true=>have e:=Value.ref.inj (beq_iff_eq.mp q);subst e;have y:=(X _ _ ho).symm.trans htp;cases y
 ca:=λ{prog w A E Q s} X ⟨ox,I⟩ h=>by
  obtain⟨_,_,cd,_,_,hc⟩:=iV k;have hf:PySem.W.findObj K C none "__class__"=some (.bind (.builtin "getset_descriptor.__get__") (.builtin "object.__class__")):=by unfold PySem.W.findObj;rw[hc,k.cls];simp[k.ZR,k.tks]
  refine zH X I k.ZN k.ZP k.ZQ hf (wpAny_call ?_);exact PySem.W.class_get X I k.mro (PySem.W.handed_on rfl h)
section
theorem Ma(I:L2.Inv X ah Y H s)(p:Pk X.K M H d v)(r:RelV v u)
  (e:PySem.W.kitOne X.K (Dz d) c=some b) (h:∀tk,Q (.bool b) { s with toks:=tk}):wpAny (~~~2) A (call (.builtin "isinstance") [u,c]) Q E s:=by
 cases d with
 |non=>have q:=p.non;subst q;cases r;exact qS PySem.W.kitx_none I.qe True.intro e (λz=>nomatch z) h
 |bl y=>have q:=p.bl;subst q;cases r;exact qS PySem.W.kitx_bool I.qe True.intro e (λz=>nomatch z) h
 |int i=>have q:=p.int;subst q;obtain⟨t,rfl⟩:=r;exact qS PySem.W.kitx_int I.qe True.intro e (λz=>nomatch z) h
 |str y=>have q:=p.str;subst q;obtain⟨t,rfl⟩:=r;exact qS PySem.W.kitx_str I.qe True.intro e (λz=>nomatch z) h
 |tup l=>obtain⟨a,xs,rfl,ha,_⟩:=p.tup;cases r;obtain⟨aq,_,⟨o,h1,h2,_⟩,_⟩:=I.tuple ha.sq;exact qS PySem.W.kitx_tuple I.qe ⟨o,h1,h2⟩ e (λz=>nomatch z) h
 |lst l=>obtain⟨a,xs,rfl,ha,_⟩:=p.list;cases r;obtain⟨aq,_,pl,_⟩:=I.list (bH.of ha);obtain⟨o,h1,h2,_⟩:=pl.isList;exact qS AU I.qe ⟨o,h1,h2⟩ e (λz=>nomatch z) h
 |fix l=>obtain⟨a,xs,rfl,ha,_⟩:=p.fix;cases r;obtain⟨aq,_,pl,_⟩:=I.list ha.sq;obtain⟨o,h1,h2,_⟩:=pl.isList;exact qS AU I.qe ⟨o,h1,h2⟩ e (λz=>nomatch z) h
 |emp=>
  cases p with
  |of q=>
   cases q with
   |emp _ ha=>cases r;obtain⟨_,_,vs,_,o,es,ep,h1,h2,_⟩:=I.hok _ _ ha;exact qS AV I.qe ⟨o,h1,h2.1⟩ e (λz=>nomatch z) h
 |uQ C=>
  cases p with
  |of q=>
   cases q with
   |uQ k _ ha=>cases r;obtain⟨⟨o,h1,h2,h3,h4⟩,_⟩:=I.hok _ _ ha;exact qS (qG k) I.qe ⟨o,h1,h2,h3,by rw[h4];trivial⟩ e (λz=>nomatch z) h
 |uR ks ds=>
  cases p with
  |of q=>
   cases q with
   |uR _ ha _ _=>cases r;obtain⟨_,_,vs,_,o,es,ep,h1,h2,_⟩:=I.hok _ _ ha;exact qS AV I.qe ⟨o,h1,h2.1⟩ e (λz=>nomatch z) h
theorem zI:cL X (.builtin "isinstance") (λxs H Q=>∃x n M d b,xs=[x,.ty n]/\Pk X.K M H d x/\PySem.W.kitOne X.K (Dz d) (.type n)=some b/\Q (.bl b) H):=by intro ah s Y H xs us Q I r h;obtain⟨x,n,M,d,b,rfl,p,e,q⟩:=h;obtain⟨u,w',rfl,r1,r2⟩:=vals2 r;cases r2;exact Ma I p r1 e λtk=>⟨.bl b,H,I.tok tk,rfl,q⟩
theorem Mf(hK:z.K=X.K)(h:au X z a g r1 g1)(hp:pk r1 g1=some d)(he:∀M H v,Pk X.K M H d v->PySem.W.kitOne X.K (Dz d) (.type n)=some b)
  (hg:Gl X "isinstance") (hm:X.mg "isinstance"=none) (hv:bootBuiltins "isinstance"=some (.builtin "isinstance")) (gT:Gl X T) (mT:X.mg T=none) (vT:bootBuiltins T=some (.type n)) (nT:T≠ "__name__") (dT:(T==(~~~3))=false)
  (hs:starEach [a,.Name T pT] X.env=(false,eval a X.env)::starEach [.Name T pT] X.env):au X z (.Call (.Name "isinstance" p) [a,.Name T pT] [] pos) g (.dat (.bl b)) g1:=by
 obtain⟨t,q,k⟩:=h;have ZV:PE X (.Name T pT) (tC (.ty n)):=uI gT mT vT rfl nT dT;refine⟨_,dM zI hg hm hv (bD q (bD ZV bZ) hs) ⋯ ⋯ hs,λY L M H Q s kk=>k Y L M H _ s λv H' aC M' s' st R=>?_⟩
 have p:=hK▸s'.pk (ak.refl _ _) R hp;exact⟨v,n,M',d,b,rfl,p,he _ _ _ p,kk _ H' aC M' s' st (.bl b)⟩
end
inductive Fl where
 |nx |rt (r:R) |bk |ct
def mX(z:Z)(M:List Addr)(H:Hp)(E:Ends)(g':G):Fl->Prop
 |.nx=>∀σ' aC M' H',S z g' σ' aC M' H'->ak M H M' H'->E.nx σ' H'
 |.bk=>∀σ' aC M' H',S z g' σ' aC M' H'->ak M H M' H'->E.bk σ' H'
 |.ct=>∀σ' aC M' H',S z g' σ' aC M' H'->ak M H M' H'->E.ct σ' H'
 |.rt r=>∀v σ' aC M' H',S z g' σ' aC M' H'->ak M H M' H'->dO z g' σ' aC M' H' r v->E.rt v H'
def gH(X:Cx)(z:Z)(st:Stmt)(g:G)(f:Fl)(g':G):Prop:=
 ∃t,PS X st t/\∀Y L M H E,S z g Y L M H->mX z M H E g' f->t E Y H
def cV(X:Cx)(z:Z)(pY:List Stmt)(g:G)(f:Fl)(g':G):Prop:=
 ∃t,n6 X pY t/\∀Y L M H E,S z g Y L M H->mX z M H E g' f->t E Y H
section
variable{st:Stmt}
theorem mX.trans(st:ak M H M1 H1)(h:mX z M H E g' f):mX z M1 H1 E g' f:=by
 cases f with
 |nx=>exact λσ' aC M' H' s' st'=>h σ' aC M' H' s' (st.trans st')
 |bk=>exact λσ' aC M' H' s' st'=>h σ' aC M' H' s' (st.trans st')
 |ct=>exact λσ' aC M' H' s' st'=>h σ' aC M' H' s' (st.trans st')
 |rt r=>exact λv σ' aC M' H' s' st' R=>h v σ' aC M' H' s' (st.trans st') R
theorem Mg:cV X z [] g .nx g:=⟨_,uJ,λY L M H E s k=>k Y L M H s (ak.refl _ _)⟩
theorem Gb(h1:gH X z st g .nx g1)(h2:cV X z pY g1 f g2):cV X z (st::pY) g f g2:=by obtain⟨t1,q1,k1⟩:=h1;obtain⟨t2,q2,k2⟩:=h2;exact⟨_,bR q1 q2,λY L M H E s k=>k1 Y L M H _ s λσ' aC M' H' s' st'=>k2 σ' aC M' H' E s' (k.trans st')⟩
theorem Mh(h1:gH X z st g (.rt r) g1):cV X z (st::pY) g (.rt r) g1:=by obtain⟨t1,q1,k1⟩:=h1;exact⟨_,bR q1 cQ,λY L M H E s k=>k1 Y L M H _ s k⟩
theorem Mi(h1:gH X z st g .bk g1):cV X z (st::pY) g .bk g1:=by obtain⟨t1,q1,k1⟩:=h1;exact⟨_,bR q1 cQ,λY L M H E s k=>k1 Y L M H _ s k⟩
theorem Mj(h1:gH X z st g .ct g1):cV X z (st::pY) g .ct g1:=by obtain⟨t1,q1,k1⟩:=h1;exact⟨_,bR q1 cQ,λY L M H E s k=>k1 Y L M H _ s k⟩
theorem Mk(h:au X z e g r g1):gH X z (.Return (some e) pos) g (.rt r) g1:=by obtain⟨t,q,k⟩:=h;exact⟨_,sF q,λY L M H E s kk=>k Y L M H _ s λv H' aC M' s' st R=>kk v Y aC M' H' s' st R⟩
theorem Gd(h:au X z e g r g1)(hs:swapsWith e none pos.line X.env=pure false):gH X z (.Expr e pos) g .nx g1:=by obtain⟨t,q,k⟩:=h;exact⟨_,n8 q hs,λY L M H E s kk=>k Y L M H _ s λv H' aC M' s' st R=>kk Y aC M' H' s' st⟩
theorem Ju(h:bx X z c g v g1)(h2:cV X z (if v then a else b) g1 f g2):gH X z (.If c a b pos) g f g2:=by
 obtain⟨t,q,k⟩:=h;obtain⟨t2,q2,k2⟩:=h2;cases v with
 |true=>exact⟨_,fj q q2 cQ,λY L M H E s kk=>k Y L M H _ s λH' aC M' s' st=>gB (k2 Y aC M' H' E s' (kk.trans st))⟩
 |false=>exact⟨_,fj q cQ q2,λY L M H E s kk=>k Y L M H _ s λH' aC M' s' st=>iT (k2 Y aC M' H' E s' (kk.trans st))⟩
theorem Ge(hN:X.N.Nodup)(hi:X.N[i]?=some x)(hx:Loc X.env.scope x)(h:au X z e g (.dat d) g1)(hs:swapsWith e (some (.Name x pos')) pos.line X.env=pure false)(hf:X.fn x=true\/X.env.scope.names.lookup x=some .local)(hb:i∉z.bor) :
  gH X z (.Assign [.Name x pos'] e pos) g .nx (g1.set i (.dat d)):=by
 obtain⟨t,q,k⟩:=h;refine⟨_,oh hN hi hx q hs hf,λY L M H E s kk=>k Y L M H _ s λv H' aC M' s' st R=>?_⟩
 obtain⟨bq,s2⟩:=s'.eH hb R;exact kk _ bq M' H' s2 st
theorem Gf(hN:X.N.Nodup)(hi:X.N[i]?=some x)(hx:Loc X.env.scope x)(h:au X z e g (.new l) g1)(hl:i<g1.length)(hs:swapsWith e (some (.Name x pos')) pos.line X.env=pure false)(hf:X.fn x=true\/X.env.scope.names.lookup x=some .local)(hb:i∉z.bor) :
  gH X z (.Assign [.Name x pos'] e pos) g .nx (g1.set i (.own l)):=by
 obtain⟨t,q,k⟩:=h;refine⟨_,oh hN hi hx q hs hf,λY L M H E s kk=>k Y L M H _ s λv H' aC M' s' st R=>?_⟩
 obtain⟨a,xs,rfl,hm,hA,h0,ha,rr⟩:=R;obtain⟨bq,s2⟩:=s'.oO hb hl hm hA h0 ha rr;exact kk _ bq M' H' s2 st
end
def WR(X:Cx)(pY:List Stmt):TS:=λE Y H=>∃t,n6 X pY t/\t E Y H
theorem bI{X:Cx}{pY:List Stmt}:n6 X pY (WR X pY):=λah s Y H E I h=>let ⟨t,q,k⟩:=h;q ah s Y H E I k
section
theorem drop_cons{α:Type}{l:List α}{n:Nat}{a:α}(h:l[n]?=some a):l.drop n=a::l.drop (n+1):=by obtain⟨h1,h2⟩:=dA.mp h;rw[List.drop_eq_getElem_cons h1,h2]
end
noncomputable def dX(lo:Int)(n:Nat):List D:=(List.range n).map λ(k:Nat)=>D.int (lo+(k:Int))
section
theorem zJ{lo:Int}{n k:Nat}(h:k<n):(dX lo n)[k]?=some (.int (lo+(k:Int))):=by unfold dX;rw[sT,List.getElem?_range h];rfl
theorem qH{lo:Int}{n:Nat}:(dX lo n).length=n:=by unfold dX;simp
theorem wL(h:cJ X z [a] g [‹j›] g1)(hg:Gl X "range")(hm:X.mg "range"=none)(hs:starEach [a] X.env=[(false,eval a X.env)])(h1 : -(2 ^ 62)<=j)(h2:j<2 ^ 62) :
  ∃wi,PI X tg (.Call (.Name "range" p) [a] [] rp) wi/\∀Y L M H (Q:It->Hp->Prop),S z g Y L M H->(∀H' aC M',S z g1 Y aC M' H'->ak M H M' H'->Q (Kr 0 j.toNat) H')->wi Y H Q:=by
 obtain⟨t,q,k⟩:=h;refine⟨_,v9 hg hm q hs,λY L M H Q s kk=>k Y L M H _ s λvs H' aC M' s' st R=>?_⟩
 cases R with
 |dat r R=>cases R;cases r;exact⟨j,rfl,h1,h2,kk H' aC M' s' st⟩
theorem wM(h:cJ X z [a,b] g [‹c›,‹j›] g1)(hg:Gl X "range")(hm:X.mg "range"=none)(hs:starEach [a,b] X.env=[(false,eval a X.env),(false,eval b X.env)])(hs2:starEach [b] X.env=[(false,eval b X.env)])
  (h1 : -(2 ^ 62)<=c/\c<2 ^ 62/\-(2 ^ 62)<=j/\j<2 ^ 62) {tg:Expr} :
  ∃wi,PI X tg (.Call (.Name "range" p) [a,b] [] rp) wi/\∀Y L M H (Q:It->Hp->Prop),S z g Y L M H->(∀H' aC M',S z g1 Y aC M' H'->ak M H M' H'->Q (Kr c (j - c).toNat) H')->wi Y H Q:=by
 obtain⟨t,q,k⟩:=h;refine⟨_,wc hg hm q hs hs2,λY L M H Q s kk=>k Y L M H _ s λvs H' aC M' s' st R=>?_⟩
 cases R with
 |dat r R=>cases R with |dat r2 R=>cases R;cases r;cases r2;exact⟨c,j,rfl,h1,kk H' aC M' s' st⟩
end
section
theorem wN(hN:X.N[i]?=some x)(hv:ym X.env.scope x)(hd:(x==(~~~3))=false)(bY:(x==("__classdict__":Str))=false)(hg:g[i]?=some (.own l0))(h:cJ X z [e] g [.dat d] g1)(sy:g1[i]?=some (.own l))(hl:l.length<16777216)
  (hbase:attributeBase (.Name x pn) "append" X.env (eval (.Name x pn) X.env)=eval (.Name x pn) X.env)
  (hfew:((backTo cK (starEach [e] X.env)).all (λx=>!x.1)&&(backToKw cK (keywordEach [] X.env)).all (λx=>x.1.isSome)
   && decide ([e].length+([]:List Keyword).length+(if ([]:List Keyword).isEmpty then 0 else 1)<30))=true)
  (hline:(iP.endLine==cK.line)=true) (hs:starEach [e] X.env=(false,eval e X.env)::starEach [] X.env):au X z (.Call (.Attribute (.Name x pn) "append" iP) [e] [] cK) g (.dat .non) (g1.set i (.own (l++[d]))):=by
 obtain⟨t,q,k⟩:=h;refine⟨_,mR oD AH AI fL (e9 hN hv hd bY) q hbase hfew hline hs rfl,λY L M H Q s kk=>?_⟩
 obtain⟨a,xs,e1,e2,e3,e4⟩:=s.sl.at hg;refine⟨.ref a,e1,.inl ⟨rfl,xs,bH.of e3⟩,k Y L M H _ s λvs H' aC M' s' st R=>?_⟩
 obtain⟨b,ys,f1,f2,f3,f4⟩:=s'.sl.at sy;rw[e1]at f1;injection f1 with f1;injection f1 with f1;injection f1 with f1;subst f1;cases R with
 |dat r R=>
  cases R;refine⟨a,ys,_,rfl,rfl,f3,by rw[<- f4.length];exact hl,?_⟩
  obtain⟨s2,aP⟩:=s'.write sy e1 (f4.append (.cons r .nil));exact kk _ _ aC M' s2 (st.trans aP) .non
end
section
theorem Gg(hN:X.N[i]?=some x)(hv:ym X.env.scope x)(hd:(x==(~~~3))=false)(bY:(x==("__classdict__":Str))=false)(h:au X z e g (.dat d) g1)(sy:g1[i]?=some (.own l0))(h2:au X z ix g1 ‹k› g2)(Yr:g2[i]?=some (.own l))(hj:pZ l.length k=some j)
  (ha:∀v,assign (.Subscript (.Name x pn) ix gf) X.env v=(do
   let ov <- holding [v] (eval (.Name x pn) X.env)
   let iv <- holding [v,ov] (eval ix X.env)
   standAt gf
   holding [v,ov,iv] (setItem ov iv v)
   release [v,ov,iv] []))
  (hs:swapsWithSole [.Subscript (.Name x pn) ix gf] e pos.line X.env=pure false) (hw:swappedStores [.Subscript (.Name x pn) ix gf] e X.env=pure none)
  (h1:(assignEach [.Subscript (.Name x pn) ix gf] X.env).map (·.2)=[assign (.Subscript (.Name x pn) ix gf) X.env]) :
  gH X z (.Assign [.Subscript (.Name x pn) ix gf] e pos) g .nx (g2.set i (.own (l.set j d))):=by
 obtain⟨t,q,kk⟩:=h;obtain⟨t2,q2,k2⟩:=h2;refine⟨_,Km q (Kh (e9 hN hv hd bY) q2 set_list ha) hs hw h1,λY L M H E s kE=>kk Y L M H _ s λv H1 aR M1 s1 bN R1=>?_⟩
 obtain⟨a,xs,e1,e2,e3,e4⟩:=s1.sl.at sy;refine⟨.ref a,e1,k2 Y aR M1 H1 _ s1 λw H2 bq M2 s2 aP R2=>?_⟩
 obtain⟨b,ys,f1,f2,f3,f4⟩:=s2.sl.at Yr;rw[e1]at f1;injection f1 with f1;injection f1 with f1;injection f1 with f1;subst f1;have ZW:=R2;cases ZW;refine⟨a,ys,k,j,rfl,rfl,f3,by rw[<- f4.length];exact hj,?_⟩
 obtain⟨s3,eV⟩:=s2.write Yr e1 (aG.set (Rep.stay aP R1) j f4);exact kE Y bq M2 _ s3 (bN.trans (aP.trans eV))
theorem aG.eraseIdx{K:Frag}{M:List Addr}{H:Hp}:∀{ds:List D}{vs:List V} (n:Nat),aG K M H ds vs->aG K M H (ds.eraseIdx n) (vs.eraseIdx n)
 |_,_,_,.nil=>.nil
 |_,_,0,.cons _ t=>t
 |_,_,n+1,.cons r t=>.cons r (aG.eraseIdx n t)
theorem zK(hN:X.N[i]?=some x)(hv:ym X.env.scope x)(hd:(x==(~~~3))=false)(bY:(x==("__classdict__":Str))=false)(hg:g[i]?=some (.own l0))(h:cJ X z [e] g [‹k›] g1)(sy:g1[i]?=some (.own l))(hk:pZ l.length k=some j)(hy:l[j]?=some d)(hl:l.length<16777216)
  (hbase:attributeBase (.Name x pn) "pop" X.env (eval (.Name x pn) X.env)=eval (.Name x pn) X.env)
  (hfew:((backTo cK (starEach [e] X.env)).all (λx=>!x.1)&&(backToKw cK (keywordEach [] X.env)).all (λx=>x.1.isSome)
   && decide ([e].length+([]:List Keyword).length+(if ([]:List Keyword).isEmpty then 0 else 1)<30))=true)
  (hline:(iP.endLine==cK.line)=true) (hs:starEach [e] X.env=(false,eval e X.env)::starEach [] X.env):au X z (.Call (.Attribute (.Name x pn) "pop" iP) [e] [] cK) g (.dat d) (g1.set i (.own (l.eraseIdx j))):=by
 obtain⟨t,q,k0⟩:=h;refine⟨_,mR oD AY AZ yW (e9 hN hv hd bY) q hbase hfew hline hs rfl,λY L M H Q s kk=>?_⟩
 obtain⟨a,xs,e1,e2,e3,e4⟩:=s.sl.at hg;refine⟨.ref a,e1,.inl ⟨rfl,xs,bH.of e3⟩,k0 Y L M H _ s λvs H' aC M' s' st R=>?_⟩
 obtain⟨b,ys,f1,f2,f3,f4⟩:=s'.sl.at sy;rw[e1]at f1;injection f1 with f1;injection f1 with f1;injection f1 with f1;subst f1;cases R with
 |dat r R=>
  cases R;cases r;obtain⟨h1,h2,h3,h4⟩:=oF hk;obtain⟨v,ZX,ZZ⟩:=f4.get hy;obtain⟨s2,aP⟩:=s'.write sy e1 (aG.eraseIdx j f4);refine⟨a,ys,k,j,v,rfl,rfl,f3,by lia,by lia,by rw[<- f4.length];exact h1,ZX,?_⟩
  exact kk _ _ aC M' s2 (st.trans aP) (ZZ.stay aP)
end
noncomputable def bW:List R->G->Option G
 | [],_=>some []
 |.dat d::rs,g=>match bW rs g with |some gs=>some (.dat d::gs) |none=>none
 |.var i::rs,g=>match g[i]? with
  |some (.own l)=>match bW rs g with |some gs=>some (.own l::gs) |none=>none
  |_=>none
 |.new _::_,_=>none
noncomputable def vars:Nat->List R->List (Nat×Nat)
 |_,[]=>[]
 |j,.var i::rs=>(j,i)::vars (j+1) rs
 |j,.dat _::rs=>vars (j+1) rs
 |j,.new _::rs=>vars (j+1) rs
noncomputable def back:List (Nat×Nat)->G->G->Option G
 | [],_,g=>some g
 | (j,i)::ps,gc,g=>match gc[j]? with
  |some (.own l)=>back ps gc (g.set i (.own l))
  |_=>none
def iW(bor:List Nat)(g':G):R->Option R
 |.dat d=>some (.dat d)
 |.new l=>some (.new l)
 |.var j=>if j∈bor then none else match g'[j]? with |some (.own l)=>some (.new l) |_=>none
noncomputable def adr(Y:Sg)(i:Nat):Addr:=match Y[i]? with |some (some (.ref a))=>a |_=>0
theorem gI(h:Y[i]?=some (some (.ref a))):adr Y i=a:=by unfold adr;rw[h]
def bK(Y:Sg)(ps:List (Nat×Nat)):List (Nat×Addr):=ps.map λp=>(p.1,adr Y p.2)
noncomputable def cF(n:Nat)(gs:G):G:=gs++List.replicate (n - gs.length) .no
theorem Slots.append{K:Frag}{M:List Addr}{H:Hp}{g1 g2:G}{σ1 σ2:Sg}{A1 A2:List Addr}(p:Slots K M H g1 σ1 A1)(q:Slots K M H g2 σ2 A2):Slots K M H (g1++g2) (σ1++σ2) (A1++A2):=by
 induction p with
 |nil=>exact q
 |no p ih=>exact .no ih
 |dat r p ih=>exact .dat r ih
 |own e r p ih=>exact .own e r ih
theorem Slots.U7{K:Frag}{M:List Addr}{H:Hp}:∀(n:Nat),Slots K M H (List.replicate n .no) (List.replicate n none) []
 | 0=>.nil
 |n+1=>by rw[t6];exact .no (Slots.U7 n)
section
theorem Slots.uU{K:Frag}{g:G}{Y:Sg}{L:List Addr}{i j:Nat}{a:Addr}{l l':List D}(q:Slots K M H g Y L)(nd:L.Nodup)(e1:g[i]?=some (.own l))(e2:g[j]?=some (.own l'))(e3:Y[i]?=some (some (.ref a)))(e4:Y[j]?=some (some (.ref a))):i=j:=by
 induction q generalizing i j with
 |nil=>exact nomatch (show none=some (Slot.own l)from e1)
 |no q ih=>cases i with
  |zero=>exact nomatch (show some Slot.no=some (Slot.own l)from e1)
  |succ i=>cases j with
   |zero=>exact nomatch (show some Slot.no=some (Slot.own l')from e2)
   |succ j=>exact congrArg (· + 1) (ih nd e1 e2 e3 e4)
 |dat r q ih=>cases i with
  |zero=>exact nomatch (show some (Slot.dat _)=some (Slot.own l)from e1)
  |succ i=>cases j with
   |zero=>exact nomatch (show some (Slot.dat _)=some (Slot.own l')from e2)
   |succ j=>exact congrArg (· + 1) (ih nd e1 e2 e3 e4)
 |@own g Y L b xs ds h r q ih=>
  have no:∀{i:Nat}{l:List D},g[i]?=some (.own l)->Y[i]?=some (some (.ref a))->b=a->False:=λ{i l} e1 e3 e=>by
   obtain⟨c,xs,h1,h2,_⟩:=q.at e1;cases (show some (some (V.ref c))=some (some (V.ref a))from h1.symm.trans e3)
   exact (d6.mp nd).1 (e▸h2)
  cases i with
  |zero=>cases j with
   |zero=>rfl
   |succ j=>cases (show some (some (V.ref b))=some (some (V.ref a))from e3);exact (no e2 e4 rfl).elim
  |succ i=>cases j with
   |zero=>cases (show some (some (V.ref b))=some (some (V.ref a))from e4);exact (no e1 e3 rfl).elim
   |succ j=>exact congrArg (· + 1) (ih (d6.mp nd).2 e1 e2 e3 e4)
theorem kQ(s:S z g Y L M H)(j:Nat)(q:gF z Y M H rs vs)(e:bW rs g=some gs) :
  gs.length=vs.length/\Slots z.K M H gs (vs.map some) ((bK Y (vars j rs)).map (·.2))/\
  (∀p∈bK Y (vars j rs),∃n l,p.1=j+n/\gs[n]?=some (.own l)/\vs[n]?=some (.ref p.2))/\
  (∀n l a,gs[n]?=some (.own l)->vs[n]?=some (.ref a)->(j+n,a)∈bK Y (vars j rs))/\
  (∀p∈vars j rs,∃l a,g[p.2]?=some (.own l)/\Y[p.2]?=some (some (.ref a))/\a∈L):=by
 induction q generalizing gs j with
 |nil=>cases e;exact⟨rfl,.nil,(λp hp=>nomatch hp),(λn l a h=>by simp at h),(λp hp=>nomatch hp)⟩
 |@dat d v rs vs r q ih=>
  unfold bW at e;cases e2:bW rs g with
  |none=>rw[e2]at e;cases e
  |some gs=>
   rw[e2]at e;cases e;obtain⟨h1,h2,h3,h4,h5⟩:=ih (j+1) e2;refine⟨by simp[h1],.dat r h2,λp hp=>?_,λn l a e1 e3=>?_,h5⟩
   . obtain⟨n,l,q1,q2,q3⟩:=h3 p hp;exact⟨n+1,l,by lia,by simpa using q2,by simpa using q3⟩
   .
    cases n with
    |zero=>simp at e1
    |succ n=>
     have:=h4 n l a (by simpa using e1) (by simpa using e3)
     rw[show j+(n+1)=j+1+n by lia]
     exact this
 |@var i v rs vs r q ih=>
  unfold bW at e;split at e
  .
   rename_i l hg;cases e2:bW rs g with
   |none=>rw[e2]at e;cases e
   |some gs=>
    rw[e2]at e;cases e;obtain⟨h1,h2,h3,h4,h5⟩:=ih (j+1) e2;obtain⟨a,xs,f1,f2,f3,f4⟩:=s.sl.at hg;have ea:=gI f1;rw[r]at f1;injection f1 with f1;injection f1 with f1;subst f1;have el:bK Y (vars j (.var i::rs))=(j,a)::bK Y (vars (j+1) rs):=by show (j,adr Y i)::bK Y (vars (j+1) rs)=_;rw[ea]
    rw[el];refine⟨by simp[h1],.own f3 f4 h2,λp hp=>?_,λn l' b e1 e3=>?_,λp hp=>?_⟩
    .
     rcases c6.mp hp with rfl |hp
     . exact⟨0,l,rfl,rfl,rfl⟩
     . obtain⟨n,l,q1,q2,q3⟩:=h3 p hp;exact⟨n+1,l,by lia,by simpa using q2,by simpa using q3⟩
    .
     cases n with
     |zero=>
      have e4:a=b:=by simpa using e3
      subst e4;exact bP
     |succ n=>
      have:=h4 n l' b (by simpa using e1) (by simpa using e3)
      rw[show j+(n+1)=j+1+n by lia]
      exact a8 _ this
    .
     rcases c6.mp (show p∈(j,i)::vars (j+1) rs from hp)with rfl |hp
     . exact⟨l,a,hg,r,f2⟩
     . exact h5 p hp
  . cases e
theorem mY{α β:Type}{f:α->β}:∀{l:List α},l.Nodup->(∀a∈l,∀b∈l,f a=f b->a=b)->(l.map f).Nodup
 | [],_,_=>AB
 |x::l,nd,h=>by
  refine d6.mpr ⟨λhm=>?_,mY (d6.mp nd).2 λa ha b hb=>h a (a8 _ ha) b (a8 _ hb)⟩
  obtain⟨y,hy,e⟩:=gN.mp hm;have:=h y (a8 _ hy) x bP e;exact (d6.mp nd).1 (this▸hy)
def qI(z:Z)(Y:Sg)(M:List Addr)(H:Hp)(rs:List R):Z:=⟨z.K,H,M,bK Y (vars 0 rs),z.T⟩
theorem mZ:(qI z Y M H rs).bor=(vars 0 rs).map (·.1):=by show (bK Y (vars 0 rs)).map (·.1)=_;unfold bK;rw[List.map_map];rfl
theorem S.enter(s:S z g Y L M H){rs:List R}{vs:List V}{gs:G}{N:List Str}(r:gF z Y M H rs vs)(e:bW rs g=some gs)(nd:((vars 0 rs).map (·.2)).Nodup) :
  S (qI z Y M H rs) (cF N.length gs) (start N vs) ((bK Y (vars 0 rs)).map (·.2)) M H:=by
 obtain⟨h1,h2,h3,h4,h5⟩:=kQ s 0 r e;have eB:(bK Y (vars 0 rs)).map (·.2)=((vars 0 rs).map (·.2)).map (adr Y):=by unfold bK;rw[List.map_map,List.map_map];rfl
 have mem:∀b∈(bK Y (vars 0 rs)).map (·.2),b∈L:=λb hb=>by
  obtain⟨i,hi,e⟩:=gN.mp hb;obtain⟨p,hp,e'⟩:=gN.mp hi;obtain⟨l,a,q1,q2,q3⟩:=h5 p hp;subst e';rw[gI q2]at e;subst e;exact q3
 have pre:∀{n:Nat}{o:Slot},gs[n]?=some o->(cF N.length gs)[n]?=some o:=λ{n o} q=>by
  unfold cF;rw[eA (dA.mp q).1];exact q
 have WT:∀(n:Nat) (l:List D),(cF N.length gs)[n]?=some (.own l)->gs[n]?=some (.own l):=λn l q=>by
  unfold cF at q;rcases vS n gs.length with h |h
  . rw[eA h]at q;exact q
  . rw[eD h]at q;have:=rV q;rw[yY]at this;exact absurd this.2 ⋯
 have st:∀{n:Nat}{v:V},vs[n]?=some v->(start N vs)[n]?=some (some v):=λ{n v} q=>by
  unfold L2.start;rw[eA (by rw[eC];exact (dA.mp q).1),sT,q]
  rfl
 have st':∀{n:Nat}{v:V},(start N vs)[n]?=some (some v)->vs[n]?=some v:=λ{n v} q=>by
  unfold L2.start at q;rcases vS n vs.length with h |h
  .
   rw[eA (by rw[eC];exact h),sT]at q
   cases e:vs[n]? with
   |none=>rw[e]at q;cases q
   |some w=>rw[e]at q;injection q with q
  .
   rw[eD (by rw[eC];exact h)]at q
   have:=rV q;rw[yY]at this;exact absurd this.2 ⋯
 refine⟨?_,?_,λa ha=>s.sub a (mem a ha),λn a l q1 q2=>.inl ?_,s.live,λb o e _ _=>e,λm hm=>hm,λm hm=>?_,λb hb=>s.sub b (mem b hb),λp hp=>?_,s.tab,λp hp=>s.ju _ (s.tm p hp),s.tt⟩
 .
  have q:=h2.append (Slots.U7 (N.length - gs.length));rw[nN]at q;have e':start N vs=vs.map some++List.replicate (N.length - gs.length) none:=by unfold L2.start;rw[h1]
  rw[e'];exact q
 .
  rw[eB];refine mY nd λi hi j hj e=>?_
  obtain⟨p,hp,rfl⟩:=gN.mp hi;obtain⟨p',yp,rfl⟩:=gN.mp hj;obtain⟨l,a,q1,q2,q3⟩:=h5 p hp;obtain⟨l',a',zg,zL,Jv⟩:=h5 p' yp;rw[gI q2,gI zL]at e;subst e;exact s.sl.uU s.nd q1 zg q2 zL
 . have hm:=h4 n l a (WT n l q1) (st' q2);rw[BN]at hm;exact⟨oP hm,oP hm⟩
 . exact λe=>s.fresh e hm
 . obtain⟨n,l,q1,q2,q3⟩:=h3 p hp;rw[BN]at q1;rw[q1];exact⟨st q3,l,pre q2⟩
theorem Slots.transfer{K:Frag}{M M2:List Addr}{H H':Hp}(st:ak M H M2 H'){g g2:G}{Y:Sg}{L:List Addr}(q:Slots K M H g Y L)(hl:g2.length=g.length)
  (h1:∀(i:Nat) (l:List D) (a:Addr),g[i]?=some (.own l)->Y[i]?=some (some (.ref a))->∃l' xs',g2[i]?=some (.own l')/\H' a=some (.lst xs')/\aG K M2 H' l' xs')
  (h2:∀(i:Nat) (o:Slot),g[i]?=some o->(∀l,o≠.own l)->g2[i]?=some o):Slots K M2 H' g2 Y L:=by
 induction q generalizing g2 with
 |nil=>cases g2 with
  |nil=>exact .nil
  |cons a b=>cases hl
 |no q ih=>cases g2 with
  |nil=>cases hl
  |cons a b=>
   cases (show some a=some Slot.no from h2 0 .no rfl (λl z=>nomatch z))
   exact .no (ih (AX hl) (λi l a e1 e2=>h1 (i+1) l a e1 e2) λi o e1 e2=>h2 (i+1) o e1 e2)
 |@dat g Y L v d r q ih=>cases g2 with
  |nil=>cases hl
  |cons a b=>
   cases (show some a=some (Slot.dat d)from h2 0 (.dat d) rfl (λl z=>nomatch z))
   exact .dat (r.stay st) (ih (AX hl) (λi l a e1 e2=>h1 (i+1) l a e1 e2) λi o e1 e2=>h2 (i+1) o e1 e2)
 |@own g Y L a0 xs ds e0 r q ih=>cases g2 with
  |nil=>cases hl
  |cons a b=>
   obtain⟨l',xs',e1,e2,e3⟩:=h1 0 _ a0 rfl rfl;cases (show some a=some (Slot.own l')from e1)
   exact .own e2 e3 (ih (AX hl) (λi l a e1 e2=>h1 (i+1) l a e1 e2) λi o e1 e2=>h2 (i+1) o e1 e2)
theorem ng:∀{ps:List (Nat×Nat)}{g gO:G},back ps gc g=some gO->(ps.map (·.2)).Nodup->gO.length=g.length/\
  (∀i,i∉ps.map (·.2)->gO[i]?=g[i]?)/\∀p∈ps,p.2<g.length->∃l,gc[p.1]?=some (.own l)/\gO[p.2]?=some (.own l)
 | [],g,gO,e,_=>by cases e;exact⟨rfl,λ_ _=>rfl,λp hp=>nomatch hp⟩
 | (j,i)::ps,g,gO,e,nd=>by
  unfold back at e;split at e
  .
   rename_i l hg;obtain⟨h1,h2,h3⟩:=ng e (d6.mp nd).2;refine⟨by rw[h1,pV],λk hk=>?_,λp hp yy=>?_⟩
   .
    have n1:k∉ps.map (·.2):=λz=>hk (a8 _ z)
    have n2:i≠k:=λz=>hk (z▸bP)
    rw[h2 k n1,dL n2]
   .
    rcases c6.mp hp with rfl |hp
    . refine⟨l,hg,?_⟩;have hlt':=yy;rw[h2 i (d6.mp nd).1,fR hlt']
    . exact h3 p hp (by rw[pV];exact yy)
  . cases e
theorem S.leave(s:S z g Y L M H){rs:List R}{vs:List V}{gs gc gO:G}{σc:Sg}{Ac Mc:List Addr}{Hc:Hp}{r r':R}{v:V}(rw':gF z Y M H rs vs)(e:bW rs g=some gs)(nd:((vars 0 rs).map (·.2)).Nodup)
  (sc:S (qI z Y M H rs) gc σc Ac Mc Hc) (st:ak M H Mc Hc) (q:dO (qI z Y M H rs) gc σc Ac Mc Hc r v) (hb:back (vars 0 rs) gc g=some gO) (hr:iW ((vars 0 rs).map (·.1)) gc r=some r') :
  ∃M2,S z gO Y L M2 Hc/\ak M H M2 Hc/\dO z gO Y L M2 Hc r' v:=by
 obtain⟨h1,h2,h3,h4,h5⟩:=kQ s 0 rw' e;obtain⟨b1,b2,b3⟩:=ng hb nd;have hM:=sc.ju;have core:∀M2:List Addr,(∀m∈M,m∈M2)->(∀m∈M2,m∈Mc)->ak M H M2 Hc->S z gO Y L M2 Hc:=by
  intro M2 m1 m2 aP;refine⟨s.sl.transfer aP b1 (λi l a e1 e2=>?_) (λi o e1 e2=>?_),s.nd,λa ha=>m1 a (s.sub a ha),λi a l e1 e2=>?_,λm hm=>sc.live m (m2 m hm),λb o e1 e2 et=>?_,λm hm=>m1 m (s.ju m hm),s.m0,s.bm,λp hp=>⟨(s.jv p hp).1,?_⟩,sc.tab,s.tm,s.tt⟩
  .
   by_cases hi:i∈(vars 0 rs).map (·.2)
   . obtain⟨p,hp,rfl⟩:=gN.mp hi;obtain⟨l',q1,q2⟩:=b3 p hp (dA.mp e1).1;have hl:(p.1,adr Y p.2)∈bK Y (vars 0 rs):=oP hp;obtain⟨c1,c2⟩:=sc.jv _ hl;obtain⟨a',xs,d1,d2,d3,d4⟩:=sc.sl.at q1;rw[c1]at d1;injection d1 with d1;injection d1 with d1;injection d1 with d1;rw[gI e2]at d1;subst d1;exact⟨l',xs,q2,d3,aG.stay (ak.less m2) d4⟩
   .
    obtain⟨a',xs,d1,d2,d3,d4⟩:=s.sl.at e1;rw[e2]at d1;injection d1 with d1;injection d1 with d1;injection d1 with d1;subst d1;refine⟨l,xs,by rw[b2 i hi];exact e1,sc.keep a _ d3 (λhB=>?_) (s.Rz d3),d4.stay aP⟩
    obtain⟨p,hp,ep⟩:=gN.mp (show a∈(bK Y (vars 0 rs)).map (·.2)from hB);obtain⟨p',yp,rfl⟩:=gN.mp hp;obtain⟨l2,a2,q1,q2,q3⟩:=h5 p' yp;have Ej:=ep;rw[gI q2]at Ej;subst Ej;have:=s.sl.uU s.nd e1 q1 e2 q2;exact hi (this▸oP yp)
  .
   refine (b2 i λhi=>?_).trans e1
   obtain⟨p,hp,rfl⟩:=gN.mp hi;obtain⟨l2,a2,q1,q2,q3⟩:=h5 p hp;rw[e1]at q1;injection q1 with q1;exact e2 l2 q1
  .
   by_cases hi:i∈(vars 0 rs).map (·.2)
   . obtain⟨p,hp,rfl⟩:=gN.mp hi;obtain⟨l2,a2,q1,q2,q3⟩:=h5 p hp;exact s.own p.2 a l2 q1 e2
   . rw[b2 i hi]at e1;exact s.own i a l e1 e2
  .
   have e3:=s.keep b o e1 e2 et;refine sc.keep b o e3 (λhB=>?_) et
   obtain⟨p,hp,ep⟩:=gN.mp (show b∈(bK Y (vars 0 rs)).map (·.2)from hB);obtain⟨p',yp,rfl⟩:=gN.mp hp;obtain⟨l2,a2,q1,q2,q3⟩:=h5 p' yp;have Ej:=ep;rw[gI q2]at Ej;subst Ej;rcases s.own p'.2 a2 l2 q1 q2 with w |w
   . exact e2 w.2
   . rw[w]at e1;cases e1
  .
   by_cases hi:p.1∈(vars 0 rs).map (·.2)
   . obtain⟨p',yp,e'⟩:=gN.mp hi;have e'':=e';obtain⟨l2,a2,q1,q2,q3⟩:=h5 p' yp;obtain⟨l',zg,zL⟩:=b3 p' yp (dA.mp q1).1;exact⟨l',by rw[<- e''];exact zL⟩
   . rw[b2 p.1 hi];exact (s.jv p hp).2
 have new:∀(a:Addr) (xs:List V) (l:List D),v=.ref a->a∈Mc->H a=none->Hc a=some (.lst xs)->aG z.K Mc Hc l xs->∃M2,S z gO Y L M2 Hc/\ak M H M2 Hc/\dO z gO Y L M2 Hc (.new l) v:=by
  intro a xs l ev hm h0 hx rr;have m2:∀m∈a::M,m∈Mc:=λm hm'=>(c6.mp hm').elim (λe=>e▸hm) (hM m)
  have aP:=st.trans (ak.less m2);refine⟨a::M,core _ (λm hm'=>a8 _ hm') m2 aP,aP,a,xs,ev,bP,λhA=>?_,s.bE h0,hx,rr.stay (ak.less m2)⟩
  exact s.fresh h0 (s.sub a hA)
 cases r with
 |dat d=>cases hr;have aP:=st.trans (ak.less hM);exact⟨M,core M (λm h=>h) hM aP,aP,Rep.stay (ak.less hM) q⟩
 |new l=>cases hr;obtain⟨a,xs,rfl,c1,c2,c3,c4,c5⟩:=q;exact new a xs l rfl c1 c3 c4 c5
 |var j=>
  obtain⟨l,q1,q2⟩:=q;have hr:(if j∈(vars 0 rs).map (·.1)then none else match gc[j]? with |some (.own l)=>some (R.new l) |_=>none)=some r':=hr
  split at hr
  . cases hr
  .
   rename_i hj;rw[q1]at hr;cases hr;obtain⟨a,xs,d1,d2,d3,d4⟩:=sc.sl.at q1;rw[q2]at d1;injection d1 with d1;injection d1 with d1;subst d1;refine new a xs l rfl (sc.sub a d2) ?_ d3 d4;rcases sc.own j a l q1 q2 with w |w
   . have w':=w.1;rw[mZ]at w';exact absurd w' hj
   . exact w
end
theorem gF.length(q:gF z Y M H rs vs):vs.length=rs.length:=by
 induction q with
 |nil=>rfl
 |dat r q ih=>exact congrArg (· + 1) ih
 |var r q ih=>exact congrArg (· + 1) ih
def Ml(K:Frag)(N:List Str)(np:Nat)(run:List Nat->G->R->G->Prop):Sp:=λvs H Q _=>
 vs.length=np/\∃(z:Z) (g g':G) (L M:List Addr) (r:R),z.K=K/\S z g (start N vs) L M H/\run z.bor g r g'/\
  ∀v σ' aC M' H',S z g' σ' aC M' H'->ak M H M' H'->dO z g' σ' aC M' H' r v->Q v H'
section
variable{run:List Nat->G->R->G->Prop}
theorem uV(F:lZ X.prog X.w X.K X.mg X.base Dy k f fd ps (Ml X.K N ps.length run))(hK:z.K=X.K)(hr:eW k X.A)(hg:Gl X x)(hm:X.mg x=some (.ref f))(hk:PySem.W.keepIn X.K (.ref f)=true)(hb:Binds X.K fd ps [])
  (ha:cJ X z (e::es) g rs g1) (aJ:rs.length=ps.length) (hl:bW rs g1=some gs) (nd:((vars 0 rs).map (·.2)).Nodup) (hrun:run ((vars 0 rs).map (·.1)) (cF N.length gs) r gc) (RW:back (vars 0 rs) gc g1=some gO) (ho:iW ((vars 0 rs).map (·.1)) gc r=some r')
  (vV:(x==(~~~3))=false) (he:starEach (e::es) X.env=(false,eval e X.env)::starEach es X.env) (su:(backTo pos (starEach es X.env)).any (·.1)=false) :
  au X z (.Call (.Name x p) (e::es) [] pos) g r' gO:=by
 obtain⟨t,q,kk⟩:=ha;refine⟨_,Et F hr hg hm hk hb .nil Rm q vV he su,λY L M H Q s kq=>kk Y L M H _ s λvs H1 aR M1 s1 bN R1=>?_⟩
 have hv:=R1.length;have ee:=s1.enter (N:=N) R1 hl nd;refine⟨by rw[nN,hv];exact aJ,qI z Y M1 H1 rs,cF N.length gs,gc,_,M1,r,hK,by rw[nN];exact ee,by rw[mZ];exact hrun,λv σ' aC M' H' s' st' R'=>?_⟩
 obtain⟨M2,s2,aP,R2⟩:=s1.leave R1 hl nd s' st' R' RW ho;exact kq v H' aR M2 s2 (bN.trans aP) R2
theorem Jw{P:Program}{w:World}{K:Frag}{mg:Str->Option Value}{base:Heap}{qual:Str}{st:Stmt}(F:Ro K x qual st f fd)(Sc:dg N ps (aQ st))
  (h:∀(dz:Value) (A:Around) (outer:List Env) (s:Shared) (H:Hp) (E:XK),PySem.W.codeIn K dz qual=true->eW k (A.deeper (envOfC qual (aQ st) s⁻¹ f dz))->
   ∀(z:Z) (g:G) (r:R) (g':G),z.K=K->run z.bor g r g'->∃fl,cV (ql Dy P w K mg base N qual (aQ st) f dz A outer s H E).P0 z (bC st) g fl g'/\(fl=.rt r\/(fl=.nx/\r=.dat .non))) :
  lZ P w K mg base Dy (k+1) f fd ps (Ml K N ps.length run):=by
 obtain⟨oc,od,kV,doc,pm,an,dz,ct,osl,rfl,lk,bY⟩:=F.ex;refine Rf lk bY Sc (λvs H Q E q=>q.1) ?_
 rintro A outer s H vs Q E hr ⟨_,z,g,g',L,M,r,hK,hs,hrun,hQ⟩;obtain⟨fl,⟨t,q,kk⟩,hfl⟩:=h dz A outer s H E bY hr z g r g' hK hrun;refine⟨t,q.P0,kk _ L M H _ hs ?_⟩;rcases hfl with rfl |⟨rfl,rfl⟩
 . exact λv σ' aC M' H' s' st' R'=>hQ v σ' aC M' H' s' st' R'
 . exact λσ' aC M' H' s' st'=>hQ .non σ' aC M' H' s' st' .non
end
inductive Tg where
 |nm (i:Nat) |tp (is:List Nat)
noncomputable def iX:List Nat->List D->G->G
 |i::is,d::ds,g=>iX is ds (g.set i (.dat d))
 | [],_,g=>g
 |_::_,[],g=>g
noncomputable def Tg.ix:Tg->List Nat
 |.nm i=>[i]
 |.tp is=>is
def Tg.set:Tg->D->G->Option G
 |.nm i,d,g=>some (g.set i (.dat d))
 |.tp is,.tup ds,g=>if ds.length=is.length then some (iX is ds g)else none
 |.tp is,.lst ds,g=>if ds.length=is.length then some (iX is ds g)else none
 |.tp _,_,_=>none
def uW(is:List Nat)(Y σ':Sg):Prop:=σ'.length=Y.length/\∀j,j∉is->σ'[j]?=Y[j]?
theorem uW.refl(is:List Nat)(Y:Sg):uW is Y Y:=⟨rfl,λ_ _=>rfl⟩
theorem uW.trans{is:List Nat}{Y σ1 σ2:Sg}(a:uW is Y σ1)(b:uW is σ1 σ2):uW is Y σ2:=⟨b.1.trans a.1,λj h=>(b.2 j h).trans (a.2 j h)⟩
theorem uW.mono(h:∀i∈is,i∈js)(a:uW is Y σ'):uW js Y σ':=⟨a.1,λj hj=>a.2 j λz=>hj (h j z)⟩
def qJ(X:Cx)(z:Z)(tg:Expr)(T:Tg):Prop:=∃t,PG X tg t/\∀d g g',T.set d g=some g'->∀v Y L M H (Q:Sg->Hp->Prop),S z g Y L M H->Rep z.K M H d v->(∀σ' aC,S z g' σ' aC M H->uW T.ix Y σ'->Q σ' H)->t v Y H Q
structure qK(X:Cx)(x:Str)(i:Nat):Prop where
 nd:X.N.Nodup
 ix:X.N[i]?=some x
 lc:Loc X.env.scope x
 fn:X.fn x=true\/X.env.scope.names.lookup x=some .local
section
theorem RX(h:qK X x i)(hb:i∉z.bor):qJ X z (.Name x pos) (.nm i):=
 ⟨_,n9 h.nd h.ix h.lc h.fn,λd g g' e v Y L M H Q s r k=>by
  cases e;obtain⟨aC,s'⟩:=s.eH hb r;exact k _ aC s' ⟨by rw[pV],λj hj=>by rw[dL (λe=>hj (by rw[<- e];exact dE.mpr rfl))]⟩⟩
inductive iB(X:Cx):List Expr->List Nat->Prop
 |nil:iB X [] []
 |cons {x:Str}{p:Pos}{i:Nat}{es:List Expr}{is:List Nat}:qK X x i->iB X es is->iB X (.Name x p::es) (i::is)
theorem iB.plain(h:iB X es is):(assignEach es X.env).length=is.length/\(assignEach es X.env).findIdx? (·.1)=none:=by
 induction h with
 |nil=>exact⟨rfl,rfl⟩
 |cons _ _ ih=>
  refine⟨?_,?_⟩
  . show (assignEach _ X.env).length+1=_;rw[ih.1];rfl
  . show List.findIdx? _ ((false,assign _ X.env)::assignEach _ X.env)=none;rw[List.findIdx?_cons,ih.2];rfl
theorem iB.Z0(h:iB X es is)(hb:∀i∈is,i∉z.bor):∃t,P1 X es t/\∀ds vs g Y L M H (Q:Sg->Hp->Prop),ds.length=is.length->S z g Y L M H->aG z.K M H ds vs->(∀σ' aC,S z (iX is ds g) σ' aC M H->uW is Y σ'->Q σ' H)->t vs Y H Q:=by
 induction h with
 |nil=>
  refine⟨_,El,λds vs g Y L M H Q hl s r k=>?_⟩
  cases r with
  |nil=>exact⟨rfl,k Y L s (uW.refl _ _)⟩
  |cons _ _=>simp at hl
 |@cons x p i es is hn hs ih=>
  obtain⟨t,q,kk⟩:=ih λj hj=>hb j (a8 _ hj)
  refine⟨_,yI (n9 hn.nd hn.ix hn.lc hn.fn) q rfl,λds vs g Y L M H Q hl s r k=>?_⟩
  cases r with
  |nil=>simp at hl
  |@cons d ds v vs r rs=>
   obtain⟨aR,s1⟩:=s.eH (hb i bP) r;refine⟨v,vs,rfl,kk ds vs _ _ aR M H Q (by simpa using hl) s1 rs λσ' aC s' a=>k σ' aC s' ?_⟩
   refine uW.trans ⟨by rw[pV],λj hj=>?_⟩ (a.mono λj hj=>a8 _ hj)
   rw[dL (λe=>hj (by rw[<- e];exact bP))]
theorem sW(ne:l≠it)(n:Nat):∀(i:Nat) (s:Shared) (Q:List Value->Shared->Prop),s.heap.IsListIter it l i->s.heap.IsList l xs->i+n=xs.size->
  (∀h',h'.IsListIter it l xs.size->Heap.SameBut it s.heap h'->Q (xs.toList.drop i) { s with heap:=h'})->wpAny (model prog w) A (draw (.ref it) n) Q E s:=by
 induction n with
 |zero=>
  intro i s Q hit _ hi k;have e:xs.toList.drop i=[]:=List.drop_eq_nil_of_le (by rw[nE];lia)
  have q:=k s.heap (by rw[<- hi];exact hit) (Heap.SameBut.refl ..)
  rw[e]at q;exact c8 q
 |succ n ih=>
  intro i s Q hit hl hi k;have yy:i<xs.size:=by lia
  refine aS (wpAny_pyNext_list_item hit hl (x:=xs[i]) (by simp[yy]) λh1 b1 c1=>?_)
  refine aS (i9 (ih (i+1) _ _ b1 (hl.extBut c1.extBut ne) ⋯ λh2 b2 c2=>c8 ?_))
  have q:=k h2 b2 (c1.trans c2);rw[List.drop_eq_getElem_cons (by rw[nE];exact yy)]at q
  exact q
theorem qL(hh:A.handled=none)(hl:s.heap.IsList l xs)
  (k:∀h',Heap.ExtBut s⁻¹ s.heap h'->Q xs.toList { s with heap:=h'}):wpAny (model prog w) A (unpackItems (.ref l) xs.size none) Q E s:=by
 have ne:l≠s⁻¹:=by obtain⟨o,ho,_⟩:=hl;exact i8 (eJ ho)
 refine aS ?_;refine aS (wpAny_specialOf hl.typeIs slot_list_iter.lookup ?_);refine c8 ?_;refine aS (i9 (wpAny_pyIter_list hl ?_));refine aS (i9 (sW ne xs.size 0 _ _ ⟨_,d0 _ rfl,rfl,rfl⟩ (hl.push _) (BN _) λh1 b1 c1=>?_))
 rw[fI ⋯];refine aS (i9 (wpAny_pyNext_list_end hh b1 ((hl.push _).extBut c1.extBut ne) ⋯ λh2 e2=>?_))
 exact c8 (k h2 λb o nb e=>e2 b o nb (c1.extBut b o nb (a9 _ e)))
def WW(K:Frag)(n:Nat)(t:Ke):TG:=λv Y H Q=>∃a xs,v=.ref a/\(fU K H a xs\/bH K H a xs)/\xs.length=n/\t xs Y H Q
theorem Mm(hc:X.calm=true)(h:P1 X es t)(hn:(assignEach es X.env).length=n)(gX:(assignEach es X.env).findIdx? (·.1)=none):PG X (.Tuple es k pos) (WW X.K n t):=by
 intro ah s Y H v u Q I r hw;obtain⟨a,xs,e1,hq,hl,hw⟩:=hw;rcases hq with hq |hq
 . exact Kg hc h hn gX ah s Y H v u Q I r ⟨a,xs,e1,hq,hl,hw⟩
 .
  subst e1;cases r;obtain⟨aq,rv,pl,hz⟩:=I.list hq;refine aS (A8 ?_);unfold unpack;rw[gX,show (assignEach es X.env).length=aq.toArray.size by rw[hn,<- hl,rv.length,b0]]
  refine aS (i9 (qL (I.ok.hd hc) pl.isList λh' hx=>?_))
  have I1:=I.kept (t':=s.toks) λb o e=>hx b o (i8 (eJ e)) e
  exact h ah _ Y H xs _ Q I1 (by simpa using rv) hw
theorem RZ(hc:X.calm=true)(hK:z.K=X.K)(h:iB X es is)(hb:∀i∈is,i∉z.bor):qJ X z (.Tuple es k pos) (.tp is):=by
 obtain⟨t,q,kk⟩:=h.Z0 hb;refine⟨_,Mm hc q h.plain.1 h.plain.2,λd g g' e v Y L M H Q s r k=>?_⟩
 cases d with
 |tup ds=>
  have e:(if ds.length=is.length then some (iX is ds g)else none)=some g':=e
  by_cases hl:ds.length=is.length
  .
   rw[eR hl]at e;cases e;cases r with
   |@tup _ a xs ha rr=>exact⟨a,xs,rfl,.inl (hK▸ha.sq),by rw[<- rr.length];exact hl,kk ds xs g Y L M H Q hl s rr k⟩
  . rw[fI hl]at e;cases e
 |lst ds=>
  have e:(if ds.length=is.length then some (iX is ds g)else none)=some g':=e
  by_cases hl:ds.length=is.length
  .
   rw[eR hl]at e;cases e;cases r with
   |@lst _ a xs ha rr=>exact⟨a,xs,rfl,.inr (bH.of ha.2),by rw[<- rr.length];exact hl,kk ds xs g Y L M H Q hl s rr k⟩
  . rw[fI hl]at e;cases e
 |_=>cases e
def Jt(J:It)(items:List D)(K:Frag)(M1:List Addr)(H1:Hp):Prop:=
 ∀M2 H2,ak M1 H1 M2 H2->(∀n d,items[n]?=some d->J.go n H2/\∀x H',J.UT n H2 x H'->∀(z:Z) g Y L,z.K=K->S z g Y L M2 H2->S z g Y L M2 H'/\ak M2 H2 M2 H'/\Rep K M2 H' d x)/\J.stop items.length H2
def fV(X:Cx)(z:Z)(tg iter:Expr)(g:G)(items:List D)(g1:G):Prop:=
 ∃wi,PI X tg iter wi/\∀Y L M H (R:It->Hp->Prop),S z g Y L M H->(∀J H' aC M',S z g1 Y aC M' H'->ak M H M' H'->Jt J items z.K M' H'->R J H')->wi Y H R
theorem Mp(hK:z.K=X.K)(h:au X z iter g (.dat (.tup l)) g1):fV X z tg iter g l g1:=by
 obtain⟨t,q,k⟩:=h;refine⟨_,Ks q,λY L M H R s kk=>k Y L M H _ s λv H1 aR M1 s1 bN r=>?_⟩
 have r':=r;cases r' with
 |@tup _ a xs ha rr=>
  refine⟨a,rfl,⟨xs,hK▸ha.sq⟩,kk _ H1 aR M1 s1 bN λM2 H2 aP=>?_⟩
  have ha2:TupAt z.K M2 H2 a xs:=by
   rcases ha with ⟨na,hr⟩ |hk
   . exact .inl (aP.rd na hr)
   . exact .inr hk
  have Jx:=rr.stay aP;refine⟨λn d hd=>?_,xs,hK▸ha2.sq,by rw[rr.length];exact dC _⟩
  obtain⟨x,e1,e2⟩:=Jx.get hd;refine⟨⟨xs,x,hK▸ha2.sq,e1⟩,λy H' hy z' g' σ' aC _ s'=>?_⟩
  obtain⟨rfl,hy⟩:=hy;have:=hy xs (hK▸ha2.sq);rw[e1]at this;cases this;exact⟨s',ak.refl _ _,e2⟩
theorem Mq(h:au X z iter g (.dat (.lst l)) g1):fV X z tg iter g l g1:=by
 obtain⟨t,q,k⟩:=h;refine⟨_,uL q,λY L M H R s kk=>k Y L M H _ s λv H1 aR M1 s1 bN r=>?_⟩
 have r':=r;cases r' with
 |@lst _ a xs ha rr=>
  refine⟨a,rfl,⟨xs,bH.of ha.2⟩,kk _ H1 aR M1 s1 bN λM2 H2 aP=>?_⟩
  have ha2:=(aP _ _ ha.2 ha.1).1;have Jx:=rr.stay aP;refine⟨λn d hd=>?_,xs,bH.of ha2,by rw[rr.length];exact dC _⟩
  obtain⟨x,e1,e2⟩:=Jx.get hd;refine⟨⟨xs,x,bH.of ha2,e1⟩,λy H' hy z' g' σ' aC _ s'=>?_⟩
  obtain⟨rfl,hy⟩:=hy;have:=hy xs (bH.of ha2);rw[e1]at this;cases this;exact⟨s',ak.refl _ _,e2⟩
theorem Mr(hK:z.K=X.K)(h:au X z iter g (.dat (.fix l)) g1):fV X z tg iter g l g1:=by
 obtain⟨t,q,k⟩:=h;refine⟨_,uL q,λY L M H R s kk=>k Y L M H _ s λv H1 aR M1 s1 bN r=>?_⟩
 have r':=r;cases r' with
 |@fix _ a xs ha rr=>
  refine⟨a,rfl,⟨xs,hK▸ha.sq⟩,kk _ H1 aR M1 s1 bN λM2 H2 aP=>?_⟩
  have ha2:kI z.K M2 H2 a xs:=by
   rcases ha with ⟨na,o,hr⟩ |hk
   . exact .inl ⟨(aP _ _ hr na).2,o,(aP _ _ hr na).1⟩
   . exact .inr hk
  have Jx:=rr.stay aP;refine⟨λn d hd=>?_,xs,hK▸ha2.sq,by rw[rr.length];exact dC _⟩
  obtain⟨x,e1,e2⟩:=Jx.get hd;refine⟨⟨xs,x,hK▸ha2.sq,e1⟩,λy H' hy z' g' σ' aC _ s'=>?_⟩
  obtain⟨rfl,hy⟩:=hy;have:=hy xs (hK▸ha2.sq);rw[e1]at this;cases this;exact⟨s',ak.refl _ _,e2⟩
theorem zM{lo:Int}{n:Nat}{K:Frag}{M:List Addr}{H:Hp}:Jt (Kr lo n) (dX lo n) K M H:=λM2 H2 _=>by
 refine⟨λk d hd=>?_,?_⟩
 .
  have hk:k<n:=by have:=(dA.mp hd).1;rw[qH]at this;exact this
  rw[zJ hk]at hd;cases hd;refine⟨hk,λx H' hx z' g' σ' aC _ s'=>?_⟩
  obtain⟨rfl,rfl⟩:=hx;exact⟨s',ak.refl _ _,.int _⟩
 . show n<=(dX lo n).length;rw[qH];exact dC _
theorem Gh(h:cJ X z [a] g [‹j›] g1)(hg:Gl X "range")(hm:X.mg "range"=none)(hs:starEach [a] X.env=[(false,eval a X.env)])(h1 : -(2 ^ 62)<=j)(h2:j<2 ^ 62) :
  fV X z tg (.Call (.Name "range" p) [a] [] rp) g (dX 0 j.toNat) g1:=by
 obtain⟨wi,q,k⟩:=wL h hg hm hs h1 h2;exact⟨wi,q,λY L M H R s kk=>k Y L M H _ s λH' aC M' s' st=>kk _ H' aC M' s' st zM⟩
theorem Gi(h:cJ X z [a,b] g [‹c›,‹j›] g1)(hg:Gl X "range")(hm:X.mg "range"=none)(hs:starEach [a,b] X.env=[(false,eval a X.env),(false,eval b X.env)])(hs2:starEach [b] X.env=[(false,eval b X.env)])
  (h1 : -(2 ^ 62)<=c/\c<2 ^ 62/\-(2 ^ 62)<=j/\j<2 ^ 62):fV X z tg (.Call (.Name "range" p) [a,b] [] rp) g (dX c (j - c).toNat) g1:=by
 obtain⟨wi,q,k⟩:=wM h hg hm hs hs2 h1;exact⟨wi,q,λY L M H R s kk=>k Y L M H _ s λH' aC M' s' st=>kk _ H' aC M' s' st zM⟩
inductive cW(X:Cx)(z:Z)(body:List Stmt)(T:Tg):List D->G->Fl->G->Prop
 |nil {g:G}:cW X z body T [] g .nx g
 |next {d:D}{l:List D}{g g0 g1 g2:G}{f:Fl}:T.set d g=some g0->cV X z body g0 .nx g1->cW X z body T l g1 f g2->cW X z body T (d::l) g f g2
 |cont {d:D}{l:List D}{g g0 g1 g2:G}{f:Fl}:T.set d g=some g0->cV X z body g0 .ct g1->cW X z body T l g1 f g2->cW X z body T (d::l) g f g2
 |brk {d:D}{l:List D}{g g0 g1:G}:T.set d g=some g0->cV X z body g0 .bk g1->cW X z body T (d::l) g .nx g1
 |ret {d:D}{l:List D}{g g0 g1:G}{r:R}:T.set d g=some g0->cV X z body g0 (.rt r) g1->cW X z body T (d::l) g (.rt r) g1
theorem Ms(hp:PassesOwn (~~~2) X.A X.env X.xe)(hc:X.calm=true)(hw:fV X z tg iter g items g1)(ht:qJ X z tg T)(hb:cW X z body T items g1 f g')(hs:∀y,foldedSetIterable iter X.env y=pure y) :
  gH X z (.For tg iter body [] pos) g f g':=by
 obtain⟨wi,q,k⟩:=hw;obtain⟨t,qt,kt⟩:=ht;refine⟨_,yK hp hc q qt bI hs,λY L M H E s kk=>k Y L M H _ s λJ H1 aR M1 s1 bN hJ=>?_⟩
 refine⟨λi m σ2 H2=>i+m=items.length/\∃g2 bq M2,S z g2 σ2 bq M2 H2/\ak M1 H1 M2 H2/\cW X z body T (items.drop i) g2 f g',⟨items.length,by lia,g1,aR,M1,s1,ak.refl _ _,by simpa using hb⟩,?_⟩
 rintro i m σ2 H2 ⟨Ys,g2,bq,M2,s2,aP,lo⟩;obtain⟨hgo,hstop⟩:=hJ M2 H2 aP;cases e:items[i]? with
 |none=>
  have hi:i=items.length:=by have:=v6.mp e;lia
  subst hi;rw[List.drop_length]at lo;refine .inl ⟨hstop,?_⟩;cases lo;exact kk σ2 bq M2 H2 s2 (bN.trans aP)
 |some d=>
  obtain⟨go,yl⟩:=hgo i d e;rw[drop_cons e]at lo;have hi:=(dA.mp e).1;refine .inr ⟨go,λσ' H'=>∃g3 iR M3,S z g3 σ' iR M3 H'/\ak M1 H1 M3 H'/\cW X z body T (items.drop (i+1)) g3 f g',by rintro σ' H' ⟨g3,iR,M3,w1,w2,w3⟩;exact⟨m - 1,by lia,by lia,g3,iR,M3,w1,w2,w3⟩,λx H' hx=>?_⟩
  obtain⟨s3,eV,rx⟩:=yl x H' hx z g2 σ2 bq rfl s2;have Yt:=(kk.trans bN).trans (aP.trans eV);have R0:=aP.trans eV;cases lo with
  |next e0 b h=>
   refine kt d g2 _ e0 x σ2 bq M2 H' _ s3 rx λσ' aC s' _=>?_
   obtain⟨t,q,kb⟩:=b;exact⟨t,q,kb _ aC M2 H' _ s' λσ4 oW M4 H4 s4 p7=>⟨_,oW,M4,s4,R0.trans p7,h⟩⟩
  |cont e0 b h=>
   refine kt d g2 _ e0 x σ2 bq M2 H' _ s3 rx λσ' aC s' _=>?_
   obtain⟨t,q,kb⟩:=b;exact⟨t,q,kb _ aC M2 H' _ s' λσ4 oW M4 H4 s4 p7=>⟨_,oW,M4,s4,R0.trans p7,h⟩⟩
  |brk e0 b=>
   refine kt d g2 _ e0 x σ2 bq M2 H' _ s3 rx λσ' aC s' _=>?_
   obtain⟨t,q,kb⟩:=b;exact⟨t,q,kb _ aC M2 H' _ s' λσ4 oW M4 H4 s4 p7=>Yt σ4 oW M4 H4 s4 p7⟩
  |ret e0 b=>
   refine kt d g2 _ e0 x σ2 bq M2 H' _ s3 rx λσ' aC s' _=>?_
   obtain⟨t,q,kb⟩:=b;exact⟨t,q,kb _ aC M2 H' _ s' λv σ4 oW M4 H4 s4 p7 R=>Yt v σ4 oW M4 H4 s4 p7 R⟩
end
noncomputable def gC(k:Nat)(g:G):G:=g++(List.replicate k .no++[.own []])
def gi(X:Cx)(z:Z)(ifs:List Expr)(g:G)(b:Bool)(g':G):Prop:=
 ∃t,qw X ifs t/\∀Y L M H (Q:Bool->Hp->Prop),S z g Y L M H->(∀H' aC M',S z g' Y aC M' H'->ak M H M' H'->Q b H')->t Y H Q
theorem Gj:gi X z [] g true g:=⟨_,yZ,λY L M H Q s k=>k H L M s (ak.refl _ _)⟩
theorem Gk(h:bx X z c g b g'):gi X z [c] g b g':=let ⟨t,q,k⟩:=h;⟨t,y9 q,k⟩
inductive jL(T:Tg)(last:Nat)(Mt:G->Bool->G->Prop)(P8:G->D->G->Prop):List D->G->G->Prop
 |nil {g:G}:jL T last Mt P8 [] g g
 |skip:T.set d g=some g1->Mt g1 false g2->jL T last Mt P8 l g2 g'->jL T last Mt P8 (d::l) g g'
 |take:T.set d g=some g1->Mt g1 true g2->P8 g2 e g3->g3[last]?=some (.own acc)->acc.length<16777216->jL T last Mt P8 l (g3.set last (.own (acc++[e]))) g'->jL T last Mt P8 (d::l) g g'
section
theorem S.extend(s:S z g Y L M H)(hm:a∈M)(hA:a∉L)(h0:z.H0 a=none)(h:H a=some (.lst xs))(r:aG z.K M H l xs) :
  S z (g++(List.replicate k .no++[.own l])) (Y++(List.replicate k none++[some (.ref a)])) (L++([]++[a])) M H:=by
 have hl:=s.sl.length;refine⟨s.sl.append ((Slots.U7 k).append (.own h r .nil)),?_,λb hb=>?_,λi b l' e1 e2=>?_,s.live,s.keep,s.ju,s.m0,s.bm,λp hp=>?_,s.tab,s.tm,s.tt⟩
 .
  rw[BE];refine t5.mpr ⟨s.nd,d6.mpr ⟨by simp,AB⟩,λx hx y hy e=>?_⟩
  rw[dE.mp hy]at e;exact hA (e▸hx)
 .
  rcases gL.mp hb with q |q
  . exact s.sub b q
  . rw[BE]at q;rw[dE.mp q];exact hm
 .
  rcases vS i g.length with hi |hi
  . rw[eA hi]at e1;rw[eA ⋯]at e2;exact s.own i b l' e1 e2
  .
   rw[eD hi]at e1;rw[eD ⋯]at e2;rcases vS (i - g.length) k with hk |hk
   .
    rw[eA (by rw[kA];exact hk)]at e1
    have:=rV e1;rw[yY]at this;exact absurd this.2 ⋯
   .
    rw[eD (by rw[kA];lia),kA]at e2
    have e3:i - Y.length - k=0:=by
     rcases Nat.eq_zero_or_pos (i - Y.length - k)with q |q
     . exact q
     . rw[y0 (Nat.succ_le_of_lt q)]at e2;cases e2
    rw[e3]at e2;have e4:=e2;injection e4 with e4;injection e4 with e4;injection e4 with e4;exact .inr (e4▸h0)
 . obtain⟨q1,l',q2⟩:=s.jv p hp;exact⟨by rw[eA (dA.mp q1).1];exact q1,l',by rw[eA (dA.mp q2).1];exact q2⟩
theorem Slots.split{K:Frag}{g1 g2:G}{Y:Sg}{L:List Addr}(q:Slots K M H (g1++g2) Y L):∃σ1 σ2 A1 A2,Y=σ1++σ2/\L=A1++A2/\Slots K M H g1 σ1 A1/\Slots K M H g2 σ2 A2:=by
 induction g1 generalizing Y L with
 |nil=>exact⟨[],_,[],_,rfl,rfl,.nil,q⟩
 |cons o g1 ih=>cases q with
  |no q=>obtain⟨s1,s2,a1,a2,rfl,rfl,h1,h2⟩:=ih q;exact⟨_::s1,s2,a1,a2,rfl,rfl,.no h1,h2⟩
  |dat r q=>obtain⟨s1,s2,a1,a2,rfl,rfl,h1,h2⟩:=ih q;exact⟨_::s1,s2,a1,a2,rfl,rfl,.dat r h1,h2⟩
  |own e r q=>obtain⟨s1,s2,a1,a2,rfl,rfl,h1,h2⟩:=ih q;exact⟨_::s1,s2,_::a1,a2,rfl,rfl,.own e r h1,h2⟩
theorem S.shrink{gb:G}{τ:Sg}{l:List D}{i:Nat}{a:Addr}(s:S z gb (Y++τ) L M H)(hz:∀p∈z.lent,p.1<Y.length)(hi:Y.length<=i)(e1:gb[i]?=some (.own l))(e2:(Y++τ)[i]?=some (some (.ref a))) :
  ∃A1,S z (gb.take Y.length) Y A1 M H/\a∈M/\a∉A1:=by
 have hl:=s.sl.length;rw[hZ]at hl;have q:=s.sl;rw[<- List.take_append_drop Y.length gb]at q;obtain⟨σ1,σ2,A1,A2,h1,h2,h3,h4⟩:=q.split;have l1:=h3.length;rw[u4,Nat.min_eq_left ⋯]at l1;obtain⟨rfl,rfl⟩:=List.append_inj h1 l1;subst h2;have Yu:a∈A2:=by
  obtain⟨b,xs,f1,f2,_⟩:=h4.at (by rw[List.getElem?_drop,Nat.add_sub_cancel' hi];exact e1)
  rw[eD hi]at e2;rw[e2]at f1;injection f1 with f1;injection f1 with f1;injection f1 with f1;exact f1▸f2
 have tk:∀(j:Nat) (o:Slot),(gb.take Y.length)[j]?=some o->gb[j]?=some o/\j<Y.length:=λj o e=>by
  have hj:=(dA.mp e).1;rw[u4]at hj;have hj':=eP hj (Nat.min_le_left _ _);rw[wS hj']at e;exact⟨e,hj'⟩
 refine⟨A1,⟨h3,(t5.mp s.nd).1,λb hb=>s.sub b (fA _ hb),λj b l' c1 c2=>?_,s.live,s.keep,s.ju,s.m0,s.bm,λp hp=>?_,s.tab,s.tm,s.tt⟩,s.sub a (fN _ Yu),λhA=>(t5.mp s.nd).2.2 a hA a Yu rfl⟩
 . obtain⟨c3,c4⟩:=tk j _ c1;exact s.own j b l' c3 (by rw[eA c4];exact c2)
 . obtain⟨c1,l',c2⟩:=s.jv p hp;have yp:=hz p hp;rw[eA yp]at c1;exact⟨c1,l',by rw[wS yp];exact c2⟩
theorem kT(h:uW is (Y++τ) σ')(hi:∀i∈is,Y.length<=i):∃τ',σ'=Y++τ':=by
 refine⟨σ'.drop Y.length,?_⟩;have e:σ'.take Y.length=Y:=by
  apply List.ext_getElem?;intro j;rcases vS j Y.length with hj |hj
  . rw[wS hj,h.2 j (λz=>Nat.not_lt.mpr (hi j z) hj),eA hj]
  . rw[y0 (by rw[u4];exact hU (Nat.min_le_left _ _) hj),y0 hj]
 have:=(List.take_append_drop Y.length σ').symm;rw[e]at this;exact this
end
section
def R3(X:Cx)(tg:Expr):TG:=λv Y H Q=>∃t,PG X tg t/\t v Y H Q
theorem zN:PG X tg (R3 X tg):=λah s Y H v u Q I r h=>let ⟨t,q,k⟩:=h;q ah s Y H v u Q I r k
def R4(X:Cx)(ifs:List Expr):TT:=λY H Q=>∃t,qw X ifs t/\t Y H Q
theorem zO:qw X ifs (R4 X ifs):=λah s Y H Q I h=>let ⟨t,q,k⟩:=h;q ah s Y H Q I k
def R5(X:Cx)(e:Expr):TE:=λY H Q=>∃t,PE X e t/\t Y H Q
theorem zP:PE X e (R5 X e):=λah s Y H Q I h=>let ⟨t,q,k⟩:=h;q ah s Y H Q I k
theorem kU(hw:fV X z tg iter g items g1)(ht:∀b:Bk,qJ (X.blk N' scope b) z tg T)(hT:∀i∈T.ix,g1.length<=i/\i<g1.length+k)
  (hcp:jL T (g1.length+k) (λg b g'=>∀bk:Bk,gi (X.blk N' scope bk) z ifs g b g') (λg d g'=>∀bk:Bk,au (X.blk N' scope bk) z jQ g (.dat d) g') items (gC k g1) gE) (hacc:gE[g1.length+k]?=some (.own acc)) :
  ∃wi,PI X tg iter wi/\∀Y L M H Q,S z g Y L M H->Kn z (gE.take g1.length) Y M H (.new acc) Q->zc X k wi (λb=>R3 (X.blk N' scope b) tg) (λb=>R4 (X.blk N' scope b) ifs) (λD b=>Ff D (R5 (X.blk N' scope b) jQ)) Y H Q:=by
 obtain⟨wi,q,kw⟩:=hw;refine⟨wi,q,λY L M H Q s kq=>kw Y L M H _ s λJ H1 aR M1 s1 bN hJ D hD=>?_⟩
 have hl:=s1.sl.length;have hz:∀p∈z.lent,p.1<Y.length:=λp hp=>(dA.mp (s1.jv p hp).1).1
 have Yv:∀i∈T.ix,Y.length<=i:=λi hi=>by rw[<- hl];exact (hT i hi).1
 have cM:g1.length+k∉T.ix:=λh=>oT _ (hT _ h).2
 have s1':=s1.aL (xs:=[]) hD;have h0:=s1.bE hD;have nA:D∉aR:=λh=>s1.fresh hD (s1.sub D h)
 have sb:=s1'.extend (k:=k) bP nA h0 aA .nil;have R7:(Y++(List.replicate k none++[some (V.ref D)]))[g1.length+k]?=some (some (V.ref D)):=by
  rw[hl,eD (Nat.le_add_right _ _),t0,eD (by rw[kA];exact dC _),kA,Nat.sub_self]
  rfl
 refine⟨λi m σ' H'=>i+m=items.length/\∃gb Ab Mb τ,S z gb σ' Ab Mb H'/\ak M1 H1 Mb H'/\σ'=Y++τ/\σ'[g1.length+k]?=some (some (.ref D))/\jL T (g1.length+k) (λg b g'=>∀bk:Bk,gi (X.blk N' scope bk) z ifs g b g') (λg d g'=>∀bk:Bk,au (X.blk N' scope bk) z jQ g (.dat d) g') (items.drop i) gb gE,
  ⟨items.length,by lia,_,_,_,_,sb,ak.aL hD,rfl,R7,hcp⟩,?_⟩
 rintro i m σ' H' ⟨Ys,gb,Ab,Mb,τ,s2,aP,rfl,U8,cp⟩;obtain⟨hgo,hstop⟩:=hJ Mb H' aP;cases e:items[i]? with
 |none=>
  have hi:i=items.length:=by have:=v6.mp e;lia
  subst hi;rw[List.drop_length]at cp;cases cp;refine .inl ⟨hstop,?_⟩;obtain⟨a,xs,f1,f2,f3,f4⟩:=s2.sl.at hacc;rw[U8]at f1;injection f1 with f1;injection f1 with f1;injection f1 with f1;subst f1;obtain⟨A1,s3,m3,n3⟩:=s2.shrink hz ⋯ hacc U8;rw[<- hl]at s3;exact kq _ H' A1 Mb s3 (bN.trans aP) ⟨D,xs,rfl,m3,n3,h0,f3,f4⟩
 |some d=>
  obtain⟨go,yl⟩:=hgo i d e;rw[drop_cons e]at cp;have hi:=(dA.mp e).1;refine .inr ⟨go,λσ' H'=>∃gb Ab Mb τ,S z gb σ' Ab Mb H'/\ak M1 H1 Mb H'/\σ'=Y++τ/\σ'[g1.length+k]?=some (some (.ref D))/\jL T (g1.length+k) (λg b g'=>∀bk:Bk,gi (X.blk N' scope bk) z ifs g b g') (λg d g'=>∀bk:Bk,au (X.blk N' scope bk) z jQ g (.dat d) g') (items.drop (i+1)) gb gE,
   λP6 P7 hN=>⟨m - 1,by lia,by lia,hN⟩,λx H2 hx bk _=>?_⟩
  obtain⟨s3,eV,rx⟩:=yl x H2 hx z gb (Y++τ) Ab rfl s2;obtain⟨t,qt,kt⟩:=ht bk;cases cp with
  |skip e0 hc aE=>
   refine⟨t,qt,kt d gb _ e0 x _ Ab Mb H2 _ s3 rx λσ4 oW s4 ag=>?_⟩
   obtain⟨τ',rfl⟩:=kT ag Yv;obtain⟨t2,q2,k2⟩:=hc bk;refine⟨t2,q2,k2 _ oW Mb H2 _ s4 λH5 WX M5 s5 yL=>?_⟩
   refine iT ⟨_,WX,M5,τ',s5,(aP.trans eV).trans yL,rfl,?_,aE⟩;rw[ag.2 _ cM];exact U8
  |take e0 hc he ha hz' aE=>
   refine⟨t,qt,kt d gb _ e0 x _ Ab Mb H2 _ s3 rx λσ4 oW s4 ag=>?_⟩
   obtain⟨τ',rfl⟩:=kT ag Yv;obtain⟨t2,q2,k2⟩:=hc bk;obtain⟨t3,q3,k3⟩:=he bk;have WY:(Y++τ')[g1.length+k]?=some (some (V.ref D)):=by rw[ag.2 _ cM];exact U8
   refine⟨t2,q2,k2 _ oW Mb H2 _ s4 λH5 WX M5 s5 yL=>gB ⟨t3,q3,k3 _ WX M5 H5 _ s5 λv H6 Z1 M6 s6 Z2 R6=>?_⟩⟩
   obtain⟨a,xs,f1,f2,f3,f4⟩:=s6.sl.at ha;rw[WY]at f1;injection f1 with f1;injection f1 with f1;injection f1 with f1;subst f1;obtain⟨s7,Z3⟩:=s6.write ha WY (f4.append (.cons R6 .nil));refine⟨xs,f3,by rw[<- f4.length];exact hz',_,Z1,M6,τ',s7,(((aP.trans eV).trans yL).trans Z2).trans Z3,rfl,WY,aE⟩
theorem Gm(B:dj X.env.scope scope)(hc:X.calm=true)(hN:Names X.N N' scope k)(hw:fV X z tg iter g items g1)(ht:∀b:Bk,qJ (X.blk N' scope b) z tg T)(hT:∀i∈T.ix,g1.length<=i/\i<g1.length+k)
  (hcp:jL T (g1.length+k) (λg b g'=>∀bk:Bk,gi (X.blk N' scope bk) z ifs g b g') (λg d g'=>∀bk:Bk,au (X.blk N' scope bk) z jQ g (.dat d) g') items (gC k g1) gE) (hacc:gE[g1.length+k]?=some (.own acc))
  (hs:∀x,foldedSetIterable iter X.env x=pure x):au X z (.ListComp jQ [⟨tg,iter,ifs,0⟩] scope pos) g (.new acc) (gE.take g1.length):=by
 obtain⟨wi,q,kk⟩:=kU hw ht hT hcp hacc;exact⟨_,Fo B hc hN q (λb=>⟨zN,zO,zP⟩) hs,kk⟩
theorem Gn(B:dj X.env.scope scope)(hc:X.calm=true)(hN:Names X.N N' scope k)(hw:fV X z tg iter g items g1)(ht:∀b:Bk,qJ (X.blk N' scope b) z tg T)(hT:∀i∈T.ix,g1.length<=i/\i<g1.length+k)
  (hcp:jL T (g1.length+k) (λg b g'=>∀bk:Bk,gi (X.blk N' scope bk) z ifs g b g') (λg d g'=>∀bk:Bk,au (X.blk N' scope bk) z jQ g (.dat d) g') items (gC k g1) gE) (hacc:gE[g1.length+k]?=some (.own acc))
  (WK:X.N.Nodup) (hy:X.N[i]?=some y) (hl:X.env.scope.names.lookup y=some .local) (hb:i∉z.bor) (hi:i<(gE.take g1.length).length)
  (hsw:swapsWith (.ListComp jQ [⟨tg,iter,ifs,0⟩] scope pos) (some (.Name y py)) gf.line X.env=pure true)
  (hs:∀x,foldedSetIterable iter X.env x=pure x):gH X z (.Assign [.Name y py] (.ListComp jQ [⟨tg,iter,ifs,0⟩] scope pos) gf) g .nx ((gE.take g1.length).set i (.own acc)):=by
 obtain⟨wi,q,kk⟩:=kU hw ht hT hcp hacc;refine⟨_,Fp B hc hN q (λb=>⟨zN,zO,zP⟩) WK hy hl hsw hs,λY L M H E s kE=>kk Y L M H _ s λv H' aC M' s' st R=>?_⟩
 obtain⟨a,xs,rfl,hm,hA,h0,ha,rr⟩:=R;obtain⟨bq,s2⟩:=s'.oO hb hi hm hA h0 ha rr;exact kE _ bq M' H' s2 st
end
section
theorem au.run(he:au X z e g r g1)(I:L2.Inv X ah Y H s)(st:S z g Y L M H)
  (k:∀v u s1 H1 aR M1,L2.Inv X ah Y H1 s1->RelV v u->S z g1 Y aR M1 H1->ak M H M1 H1->dO z g1 Y aR M1 H1 r v->Post u s1):wpAny (~~~2) X.A (eval e X.env) Post X.xe s:=by
 obtain⟨t,q,kt⟩:=he;exact bG (q ah s Y H (λv H1=>∃aR M1,S z g1 Y aR M1 H1/\ak M H M1 H1/\dO z g1 Y aR M1 H1 r v) I (kt Y L M H _ st λv H1 aR M1 s1 bN R=>⟨aR,M1,s1,bN,R⟩)) (by rintro u s1 ⟨v,H1,I1,r1,aR,M1,q1,q2,q3⟩;exact k v u s1 H1 aR M1 I1 r1 q1 q2 q3)
theorem gD.run(ho:gD X z f d1 d2 r)(I:L2.Inv X ah Y H s)(st:S z g Y L M H)(p1:Pk z.K M H d1 v1)(p2:Pk z.K M H d2 v2)(r1:RelV v1 u1)(r2:RelV v2 u2)
  (k:∀v u s1 H1 aR M1,L2.Inv X ah Y H1 s1->RelV v u->S z g Y aR M1 H1->ak M H M1 H1->dO z g Y aR M1 H1 r v->Post u s1):wpAny (~~~2) X.A (f u1 u2) Post X.xe s:=by
 obtain⟨rr,o,ko⟩:=ho;exact bG (o ah s Y H v1 v2 u1 u2 (λv H1=>∃aR M1,S z g Y aR M1 H1/\ak M H M1 H1/\dO z g Y aR M1 H1 r v) I r1 r2 (ko g Y L M H v1 v2 _ st p1 p2 λv H1 aR M1 s1 bN R=>⟨aR,M1,s1,bN,R⟩)) (by rintro u s1 ⟨v,H1,I1,r1,aR,M1,q1,q2,q3⟩;exact k v u s1 H1 aR M1 I1 r1 q1 q2 q3)
theorem au.of (h:∀(ah: ~~~1) (s:Shared) (Y:Sg) (L M:List Addr) (H:Hp) (Post:Value->Shared->Prop),L2.Inv X ah Y H s->S z g Y L M H->
  (∀v u s1 H1 aR M1,L2.Inv X ah Y H1 s1->RelV v u->S z g1 Y aR M1 H1->ak M H M1 H1->dO z g1 Y aR M1 H1 r v->Post u s1)->wpAny (~~~2) X.A (eval e X.env) Post X.xe s):au X z e g r g1:=
 ⟨λY H Q=>∃L M,S z g Y L M H/\Kn z g1 Y M H r Q,by rintro ah s Y H Q I ⟨L,M,st,k⟩;exact h ah s Y L M H _ I st λv u s1 H1 aR M1 I1 r1 q1 q2 q3=>⟨v,H1,I1,r1,k v H1 aR M1 q1 q2 q3⟩,λY L M H Q s k=>⟨L,M,s,k⟩⟩
theorem bx.of (h:∀(ah: ~~~1) (s:Shared) (Y:Sg) (L M:List Addr) (H:Hp) (Post:Bool->Shared->Prop),L2.Inv X ah Y H s->S z g Y L M H->
  (∀s1 H1 aR M1,L2.Inv X ah Y H1 s1->S z g1 Y aR M1 H1->ak M H M1 H1->Post b s1)->wpAny (~~~2) X.A (isTrue e X.env (eval e X.env)) Post X.xe s):bx X z e g b g1:=
 ⟨λY H Q=>∃L M,S z g Y L M H/\(∀H' aC M',S z g1 Y aC M' H'->ak M H M' H'->Q b H'),by rintro ah s Y H Q I ⟨L,M,st,k⟩;exact h ah s Y L M H _ I st λs1 H1 aR M1 I1 q1 q2=>⟨H1,I1,k H1 aR M1 q1 q2⟩,λY L M H Q s k=>⟨L,M,s,k⟩⟩
inductive oX(X:Cx)(z:Z):D->List CmpOp->List Expr->G->Bool->G->Prop
 |last {d1 d2:D}{op:CmpOp}{b:Expr}{g g1:G}{c:Bool}:au X z b g (.dat d2) g1->gD X z (compareOp op) d1 d2 (.dat (.bl c))->oX X z d1 [op] [b] g c g1
 |stop {d1 d2:D}{op op':CmpOp}{ops:List CmpOp}{b b':Expr}{bs:List Expr}{g g1:G}:au X z b g (.dat d2) g1->gD X z (compareOp op) d1 d2 (.dat (.bl false))->oX X z d1 (op::op'::ops) (b::b'::bs) g false g1
 |link {d1 d2:D}{op op':CmpOp}{ops:List CmpOp}{b b':Expr}{bs:List Expr}{g g1 g2:G}{c:Bool}:au X z b g (.dat d2) g1->gD X z (compareOp op) d1 d2 (.dat (.bl true))->oX X z d2 (op'::ops) (b'::bs) g1 c g2->oX X z d1 (op::op'::ops) (b::b'::bs) g c g2
theorem Mu(h:oX X z d1 ops bs g c g'):∀(ah: ~~~1) (s:Shared) (Y:Sg) (H:Hp) (L M:List Addr) (Post:Value->Shared->Prop) (v1:V) (u1:Value),L2.Inv X ah Y H s->S z g Y L M H->Rep z.K M H d1 v1->RelV v1 u1->
  (∀s1 H' aC M',L2.Inv X ah Y H' s1->S z g' Y aC M' H'->ak M H M' H'->Post (.bool c) s1)->wpAny (~~~2) X.A (compareChain pos u1 ops (evalEach bs X.env)) Post X.xe s:=by
 induction h with
 |@last d1 d2 op b g g1 c he ho=>
  intro ah s Y H L M Post v1 u1 I st r rv k;refine chain_last (he.run I st λv u s1 H1 aR M1 I1 r1 q1 q2 q3=>ho.run I1 q1 (.of (r.stay q2)) (.of q3) rv r1 λv' u' s2 H2 bq M2 I2 r2 p1 p2 p3=>?_)
  rw[dQ p3]at r2;cases r2;exact k s2 H2 bq M2 I2 p1 (q2.trans p2)
 |@stop d1 d2 op op' ops b b' bs g g1 he ho=>
  intro ah s Y H L M Post v1 u1 I st r rv k;refine chain_link (he.run I st λv u s1 H1 aR M1 I1 r1 q1 q2 q3=>ho.run I1 q1 (.of (r.stay q2)) (.of q3) rv r1 λv' u' s2 H2 bq M2 I2 r2 p1 p2 p3=>?_)
  rw[dQ p3]at r2;cases r2;exact mI (ite_ff (k s2 H2 bq M2 I2 p1 (q2.trans p2)))
 |@link d1 d2 op op' ops b b' bs g g1 g2 c he ho hch ih=>
  intro ah s Y H L M Post v1 u1 I st r rv k;refine chain_link (he.run I st λv u s1 H1 aR M1 I1 r1 q1 q2 q3=>ho.run I1 q1 (.of (r.stay q2)) (.of q3) rv r1 λv' u' s2 H2 bq M2 I2 r2 p1 p2 p3=>?_)
  rw[dQ p3]at r2;cases r2;exact mI (ite_tt (ih ah s2 Y H2 bq M2 Post v u I2 p1 (Rep.stay p2 q3) r1 λs3 H3 iR M3 I3 w1 w2=>k s3 H3 iR M3 I3 w1 ((q2.trans p2).trans w2)))
theorem Gp(h:oX X z d1 ops bs g c g'):∀(ah: ~~~1) (s:Shared) (Y:Sg) (H:Hp) (L M:List Addr) (Post:Bool->Shared->Prop) (v1:V) (u1:Value),L2.Inv X ah Y H s->S z g Y L M H->Rep z.K M H d1 v1->RelV v1 u1->
  (∀s1 H' aC M',L2.Inv X ah Y H' s1->S z g' Y aC M' H'->ak M H M' H'->Post c s1)->wpAny (~~~2) X.A (testChain pos u1 ops (evalEach bs X.env)) Post X.xe s:=by
 induction h with
 |@last d1 d2 op b g g1 c he ho=>
  intro ah s Y H L M Post v1 u1 I st r rv k;refine test_last (he.run I st λv u s1 H1 aR M1 I1 r1 q1 q2 q3=>ho.run I1 q1 (.of (r.stay q2)) (.of q3) rv r1 λv' u' s2 H2 bq M2 I2 r2 p1 p2 p3=>?_)
  rw[dQ p3]at r2;cases r2;exact mI (k s2 H2 bq M2 I2 p1 (q2.trans p2))
 |@stop d1 d2 op op' ops b b' bs g g1 he ho=>
  intro ah s Y H L M Post v1 u1 I st r rv k;refine test_link (he.run I st λv u s1 H1 aR M1 I1 r1 q1 q2 q3=>ho.run I1 q1 (.of (r.stay q2)) (.of q3) rv r1 λv' u' s2 H2 bq M2 I2 r2 p1 p2 p3=>?_)
  rw[dQ p3]at r2;cases r2;exact mI (ite_ff (k s2 H2 bq M2 I2 p1 (q2.trans p2)))
 |@link d1 d2 op op' ops b b' bs g g1 g2 c he ho hch ih=>
  intro ah s Y H L M Post v1 u1 I st r rv k;refine test_link (he.run I st λv u s1 H1 aR M1 I1 r1 q1 q2 q3=>ho.run I1 q1 (.of (r.stay q2)) (.of q3) rv r1 λv' u' s2 H2 bq M2 I2 r2 p1 p2 p3=>?_)
  rw[dQ p3]at r2;cases r2;exact mI (ite_tt (ih ah s2 Y H2 bq M2 Post v u I2 p1 (Rep.stay p2 q3) r1 λs3 H3 iR M3 I3 w1 w2=>k s3 H3 iR M3 I3 w1 ((q2.trans p2).trans w2)))
theorem zQ(ha:au X z a g (.dat d1) g1)(h:oX X z d1 (Mv::Mw::ops) (b1::b2::bs) g1 c g2)(hm:lastMarks (Mv::Mw::ops) (b1::b2::bs)=false):au X z (.Compare a (Mv::Mw::ops) (b1::b2::bs) pos) g (.dat (.bl c)) g2:=
 au.of λah s Y L M H Post I st k=>Compare_chain (ha.run I st λv u s1 H1 aR M1 I1 r1 q1 q2 q3=>Mu h ah s1 Y H1 aR M1 Post v u I1 q1 q3 r1 λs2 H2 bq M2 I2 p1 p2=>k (.bl c) (.bool c) s2 H2 bq M2 I2 rfl p1 (q2.trans p2) (.bl c)) hm
theorem zR(ha:au X z a g (.dat d1) g1)(h:oX X z d1 (Mv::Mw::ops) (b1::b2::bs) g1 c g2)(hm:lastMarks (Mv::Mw::ops) (b1::b2::bs)=false):bx X z (.Compare a (Mv::Mw::ops) (b1::b2::bs) pos) g c g2:=
 bx.of λah s Y L M H Post I st k=>isTrue_chain (ha.run I st λv u s1 H1 aR M1 I1 r1 q1 q2 q3=>Gp h ah s1 Y H1 aR M1 Post v u I1 q1 q3 r1 λs2 H2 bq M2 I2 p1 p2=>k s2 H2 bq M2 I2 p1 (q2.trans p2)) hm
inductive jM(X:Cx)(z:Z)(c:Expr)(body:List Stmt):Nat->G->Fl->G->Prop
 |done {n:Nat}{g g1:G}:bx X z c g false g1->jM X z c body n g .nx g1
 |next {n:Nat}{g g1 g2 g3:G}{f:Fl}:bx X z c g true g1->cV X z body g1 .nx g2->jM X z c body n g2 f g3->jM X z c body (n+1) g f g3
 |cont {n:Nat}{g g1 g2 g3:G}{f:Fl}:bx X z c g true g1->cV X z body g1 .ct g2->jM X z c body n g2 f g3->jM X z c body (n+1) g f g3
 |brk {n:Nat}{g g1 g2:G}:bx X z c g true g1->cV X z body g1 .bk g2->jM X z c body n g .nx g2
 |ret {n:Nat}{g g1 g2:G}{r:R}:bx X z c g true g1->cV X z body g1 (.rt r) g2->jM X z c body n g (.rt r) g2
def R8(X:Cx)(e:Expr):TT:=λY H Q=>∃t,PT X e t/\t Y H Q
theorem Mx{e:Expr}:PT X e (R8 X e):=λah s Y H Q I h=>let ⟨t,q,k⟩:=h;q ah s Y H Q I k
theorem zS{ce:Expr}{body:List Stmt}{n:Nat}{f:Fl}{g':G}(hp:PassesOwn (~~~2) X.A X.env X.xe)(h:jM X z ce body n g f g'):gH X z (.While ce body [] pos) g f g':=by
 refine⟨_,yJ hp Mx bI,λY L M H E s k=>?_⟩
 refine⟨λm σ2 H2=>∃g2 bq M2,S z g2 σ2 bq M2 H2/\ak M H M2 H2/\jM X z ce body m g2 f g',⟨n,g,L,M,s,ak.refl _ _,h⟩,?_⟩
 rintro m σ2 H2 ⟨g2,bq,M2,s2,aP,w⟩;cases w with
 |done hc=>obtain⟨t,q,kt⟩:=hc;exact⟨t,q,kt σ2 bq M2 H2 _ s2 λH3 iR M3 s3 eV=>iT (k σ2 iR M3 H3 s3 (aP.trans eV))⟩
 |@next m' _ g3 g4 _ _ hc hb w'=>
  obtain⟨t,q,kt⟩:=hc;obtain⟨tb,qb,kb⟩:=hb;refine⟨t,q,kt σ2 bq M2 H2 _ s2 λH3 iR M3 s3 eV=>gB ⟨λσ' H'=>∃g2 bq M2,S z g2 σ' bq M2 H'/\ak M H M2 H'/\jM X z ce body m' g2 f g',λσ' H' hN=>⟨m',u7 _,hN⟩,tb,qb,kb σ2 iR M3 H3 _ s3 λσ4 oW M4 H4 s4 p7=>?_⟩⟩
  exact⟨g4,oW,M4,s4,(aP.trans eV).trans p7,w'⟩
 |@cont m' _ g3 g4 _ _ hc hb w'=>
  obtain⟨t,q,kt⟩:=hc;obtain⟨tb,qb,kb⟩:=hb;refine⟨t,q,kt σ2 bq M2 H2 _ s2 λH3 iR M3 s3 eV=>gB ⟨λσ' H'=>∃g2 bq M2,S z g2 σ' bq M2 H'/\ak M H M2 H'/\jM X z ce body m' g2 f g',λσ' H' hN=>⟨m',u7 _,hN⟩,tb,qb,kb σ2 iR M3 H3 _ s3 λσ4 oW M4 H4 s4 p7=>?_⟩⟩
  exact⟨g4,oW,M4,s4,(aP.trans eV).trans p7,w'⟩
 |brk hc hb=>obtain⟨t,q,kt⟩:=hc;obtain⟨tb,qb,kb⟩:=hb;exact⟨t,q,kt σ2 bq M2 H2 _ s2 λH3 iR M3 s3 eV=>gB ⟨λ_ _=>False,λσ' H' hN=>hN.elim,tb,qb,kb σ2 iR M3 H3 _ s3 λσ4 oW M4 H4 s4 p7=>k σ4 oW M4 H4 s4 ((aP.trans eV).trans p7)⟩⟩
 |ret hc hb=>obtain⟨t,q,kt⟩:=hc;obtain⟨tb,qb,kb⟩:=hb;exact⟨t,q,kt σ2 bq M2 H2 _ s2 λH3 iR M3 s3 eV=>gB ⟨λ_ _=>False,λσ' H' hN=>hN.elim,tb,qb,kb σ2 iR M3 H3 _ s3 λv σ4 oW M4 H4 s4 p7 R=>k v σ4 oW M4 H4 s4 ((aP.trans eV).trans p7) R⟩⟩
noncomputable def Gq:D->Option Bool
 |.bl b=>some b
 |.non=>some false
 |.int i=>some (i != 0)
 |.lst l=>some (!l.isEmpty)
 |.tup l=>some (!l.isEmpty)
 |.fix l=>some (!l.isEmpty)
 |_=>none
end
end Ev
namespace HT
section
theorem fW{t sl:Addr}{items:Array Value}{vl vu:Value}{lo hi:Option Int}{Q:Value->Shared->Prop}(ht:IsTup s.heap t items)(hs:s.heap.IsSliceOf sl vl vu .none)(pl:IsPart vl lo)(pu:IsPart vu hi)
  (hw:bA items.size 0 lo=0/\bA items.size items.size hi=items.size)
  (h:Q (.ref t) s):wpAny (model prog w) A (getItem (.ref t) (.ref sl)) Q E s:=by
 obtain⟨os,hos,hcs,hds⟩:=id hs;have Rg:s.TypeIs (.ref sl) "slice" :=⟨os,hos,hcs⟩;unfold getItem
 try with_reducible refine i9 ?_
 first |refine aS (c8 ?_) |skip
 refine aS (wpAny_sequenceKey ht.typeIs ⋯ ?_);refine aS (oC ht.typeIs mB
  (sB mB ht.typeIs entry_tuple_getitem ?_ (args_tuple_getitem _ _)))
 show wpAny _ _ (Builtin.Tuple.tupleItemsOf (.ref t) >>= _) _ _ s;refine aS (tupleItemsOf_ ht ?_);refine aS (BM Rg ?_);refine aS (dN hs pl pu ?_);have hyes:(((bA items.size 0 lo:Nat):Int)==0&&(1:Int)==1&&(bA items.size items.size hi - bA items.size 0 lo)==items.size)=true:=by rw[hw.1,hw.2];simp
 show wpAny _ _ (if (((bA items.size 0 lo:Nat):Int)==0&&(1:Int)==1&&(bA items.size items.size hi - bA items.size 0 lo)==items.size)=true then _ else _) _ _ s
 rw[eR hyes];refine aS (aS (BM ht.typeIs (c8 ?_)));exact aS (wpAny_rule (c8 ⟨_,rfl,c8 h⟩))
end
end HT
namespace Ev
open L2
def bQ{α:Type}(xs:List α)(lo hi:Option Int):List α:=(xs.drop (HT.bA xs.length 0 lo)).take (HT.bA xs.length xs.length hi - HT.bA xs.length 0 lo)
theorem sX{α:Type}{xs:List α}{lo hi:Option Int}(h:HT.bA xs.length 0 lo=0/\HT.bA xs.length xs.length hi=xs.length):bQ xs lo hi=xs:=by unfold bQ;rw[h.1,h.2,List.drop_zero,Nat.sub_zero,List.take_length]
section
variable{lo hi:Option Expr}
def W0(K:Frag):V->Option Int->Option Int->Hp->VK->Prop:=λx lo hi H Q=>∃a xs,x=.ref a/\fU K H a xs/\
 ((HT.bA xs.length 0 lo=0/\HT.bA xs.length xs.length hi=xs.length/\Q (.ref a) H)\/(¬ (HT.bA xs.length 0 lo=0/\HT.bA xs.length xs.length hi=xs.length)/\∀p,H p=none->Q (.ref p) (upd H p (.tup (sO xs lo hi)))))
theorem Gr:Ri X (W0 X.K):=by
 intro ah s Y H x v vl vu lo hi sl Q I rx hs pl pu h;obtain⟨a,xs,rfl,hx,h⟩:=h;rcases h with ⟨h1,h2,q⟩ |⟨h1,q⟩
 .
  cases rx;obtain⟨aq,r,ht,hz⟩:=I.tuple hx;have aJ:aq.toArray.size=xs.length:=by rw[b0];exact r.length.symm
  refine⟨"tuple",_,PyProof.Rows.slot_tuple_getitem.lookup,ht.typeIs,?_⟩;exact HT.fW ht hs pl pu (by rw[aJ];exact⟨h1,h2⟩) ⟨.ref a,H,I,rfl,q⟩
 . exact KR ah s Y H (.ref a) v vl vu lo hi sl Q I rx hs pl pu ⟨a,xs,rfl,hx,h1,q⟩
def kW(X:Cx)(z:Z)(e:Option Expr)(g:G)(o:Option Int)(g':G):Prop:=
 ∃t,PO X e t/\∀Y L M H (Q:Option Int->Hp->Prop),S z g Y L M H->(∀H' aC M',S z g' Y aC M' H'->ak M H M' H'->Q o H')->t Y H Q
theorem wO:kW X z none g none g:=⟨_,Ez,λY L M H Q s k=>k H L M s (ak.refl _ _)⟩
theorem wQ(h:au X z e g ‹i› g1):kW X z (some e) g (some i) g1:=by
 obtain⟨t,q,k⟩:=h;refine⟨_,EY q,λY L M H Q s kk=>k Y L M H _ s λv H' aC M' s' st R=>?_⟩
 have R':=R;cases R';exact⟨i,rfl,kk H' aC M' s' st⟩
theorem aG.cut{K:Frag}{M:List Addr}{H:Hp}{ds:List D}{vs:List V}(r:aG K M H ds vs)(l u:Option Int):aG K M H (bQ ds l u) (sO vs l u):=by unfold bQ sO;rw[r.length];exact aG.take _ (aG.drop _ r)
theorem wR{r:R}{l:List D}{d:D}{i j:Option Int}(hK:z.K=X.K)(h:au X z a g r g1)(h1:kW X z lo g1 i g2)(h2:kW X z hi g2 j g3)(hp:pk r g3=some (.lst l)):au X z (.Subscript a (.Slice lo hi none p2) pos) g (.new (bQ l i j)) g3:=by
 obtain⟨t,q,k⟩:=h;obtain⟨t1,q1,k1⟩:=h1;obtain⟨t2,q2,k2⟩:=h2;refine⟨_,ig uO q q1 q2,λY L M H Q s kk=>k Y L M H _ s λv H1 aR M1 s1 bN R=>k1 Y aR M1 H1 _ s1 λH2 bq M2 s2 aP=>k2 Y bq M2 H2 _ s2 λH3 iR M3 s3 eV=>?_⟩
 obtain⟨b,xs,rfl,e1,e2⟩:=(s3.pk (aP.trans eV) R hp).list;refine⟨b,xs,rfl,bH.of e1,λp hp=>?_⟩
 exact kk _ _ iR (p::M3) (s3.aL hp) (((bN.trans aP).trans eV).trans (ak.aL hp)) ⟨p,_,rfl,bP,λhA=>s3.fresh hp (s3.sub p hA),s3.bE hp,aA,(e2.cut i j).stay (ak.aL hp)⟩
theorem wU(hK:z.K=X.K)(h:au X z a g (.dat (.fix l)) g1)(h1:kW X z lo g1 i g2)(h2:kW X z hi g2 j g3):au X z (.Subscript a (.Slice lo hi none p2) pos) g (.new (bQ l i j)) g3:=by
 obtain⟨t,q,k⟩:=h;obtain⟨t1,q1,k1⟩:=h1;obtain⟨t2,q2,k2⟩:=h2;refine⟨_,ig uO q q1 q2,λY L M H Q s kk=>k Y L M H _ s λv H1 aR M1 s1 bN R=>k1 Y aR M1 H1 _ s1 λH2 bq M2 s2 aP=>k2 Y bq M2 H2 _ s2 λH3 iR M3 s3 eV=>?_⟩
 have R':=Rep.stay (aP.trans eV) R;cases R' with
 |@fix _ b xs e1 e2=>
  refine⟨b,xs,rfl,hK▸e1.sq,λp hp=>?_⟩
  exact kk _ _ iR (p::M3) (s3.aL hp) (((bN.trans aP).trans eV).trans (ak.aL hp)) ⟨p,_,rfl,bP,λhA=>s3.fresh hp (s3.sub p hA),s3.bE hp,aA,(e2.cut i j).stay (ak.aL hp)⟩
theorem wV(hK:z.K=X.K)(h:au X z a g (.dat (.tup l)) g1)(h1:kW X z lo g1 i g2)(h2:kW X z hi g2 j g3):au X z (.Subscript a (.Slice lo hi none p2) pos) g (.dat (.tup (bQ l i j))) g3:=by
 obtain⟨t,q,k⟩:=h;obtain⟨t1,q1,k1⟩:=h1;obtain⟨t2,q2,k2⟩:=h2;refine⟨_,ig Gr q q1 q2,λY L M H Q s kk=>k Y L M H _ s λv H1 aR M1 s1 bN R=>k1 Y aR M1 H1 _ s1 λH2 bq M2 s2 aP=>k2 Y bq M2 H2 _ s2 λH3 iR M3 s3 eV=>?_⟩
 have R':=Rep.stay (aP.trans eV) R;cases R' with
 |@tup _ b xs e1 e2=>
  refine⟨b,xs,rfl,hK▸e1.sq,?_⟩;by_cases hw:HT.bA xs.length 0 i=0/\HT.bA xs.length xs.length j=xs.length
  .
   refine .inl ⟨hw.1,hw.2,kk _ _ iR M3 s3 ((bN.trans aP).trans eV) ?_⟩;have e:=sX (by rw[e2.length];exact hw)
   rw[e];exact .tup e1 e2
  . exact .inr ⟨hw,λp hp=>kk _ _ iR M3 (s3.laid hp) (((bN.trans aP).trans eV).trans (ak.laid hp)) (.tup (.inl ⟨s3.fresh hp,.inl aA⟩) ((e2.cut i j).stay (ak.laid hp)))⟩
theorem zT(hK:z.K=X.K)(h:au X z e g r g1)(hp:pk r g1=some d)(hb:Gq d=some b)(he:∀whole,isTrue e X.env whole=(do let v <- whole;standAt e.pos;holding [v] (truthy v))):bx X z e g b g1:=by
 obtain⟨t,q,k⟩:=h;refine⟨_,yN q he,λY L M H Q s kk=>k Y L M H _ s λv H1 aR M1 s1 bN R=>⟨b,?_,kk H1 aR M1 s1 bN⟩⟩
 have p:=s1.pk (ak.refl _ _) R hp;cases d with
 |non=>rw[p.non];cases hb;rfl
 |bl c=>rw[p.bl];cases hb;rfl
 |int i=>rw[p.int];cases hb;rfl
 |str x=>cases hb
 |emp=>cases hb
 |uQ _=>cases hb
 |uR _ _=>cases hb
 |lst l=>obtain⟨a,xs,rfl,e1,e2⟩:=p.list;cases hb;refine .inl ⟨xs,bH.of e1,?_⟩;cases e2 <;> rfl
 |tup l=>obtain⟨a,xs,rfl,e1,e2⟩:=p.tup;cases hb;refine .inr (.inl ⟨xs,hK▸e1.sq,?_⟩);cases e2 <;> rfl
 |fix l=>obtain⟨a,xs,rfl,e1,e2⟩:=p.fix;cases hb;refine .inl ⟨xs,hK▸e1.sq,?_⟩;cases e2 <;> rfl
end
section
theorem My(I:L2.Inv X ah Y H s)(p:Pk X.K M H d v)(r:RelV v u):∃Hh,PySem.W.KitX X.K u (Dz d) Hh/\Hh s.heap/\u≠.builtin "__main__.__loader__#opaque" :=by
 cases d with
 |non=>have q:=p.non;subst q;cases r;exact⟨_,PySem.W.kitx_none,True.intro,λz=>nomatch z⟩
 |bl y=>have q:=p.bl;subst q;cases r;exact⟨_,PySem.W.kitx_bool,True.intro,λz=>nomatch z⟩
 |int i=>have q:=p.int;subst q;obtain⟨t,rfl⟩:=r;exact⟨_,PySem.W.kitx_int,True.intro,λz=>nomatch z⟩
 |str y=>have q:=p.str;subst q;obtain⟨t,rfl⟩:=r;exact⟨_,PySem.W.kitx_str,True.intro,λz=>nomatch z⟩
 |tup l=>obtain⟨a,xs,rfl,ha,_⟩:=p.tup;cases r;obtain⟨aq,_,⟨o,h1,h2,_⟩,_⟩:=I.tuple ha.sq;exact⟨_,PySem.W.kitx_tuple,⟨o,h1,h2⟩,λz=>nomatch z⟩
 |lst l=>obtain⟨a,xs,rfl,ha,_⟩:=p.list;cases r;obtain⟨aq,_,pl,_⟩:=I.list (bH.of ha);obtain⟨o,h1,h2,_⟩:=pl.isList;exact⟨_,AU,⟨o,h1,h2⟩,λz=>nomatch z⟩
 |fix l=>obtain⟨a,xs,rfl,ha,_⟩:=p.fix;cases r;obtain⟨aq,_,pl,_⟩:=I.list ha.sq;obtain⟨o,h1,h2,_⟩:=pl.isList;exact⟨_,AU,⟨o,h1,h2⟩,λz=>nomatch z⟩
 |emp=>
  cases p with
  |of q=>
   cases q with
   |emp _ ha=>cases r;obtain⟨_,_,vs,_,o,es,ep,h1,h2,_⟩:=I.hok _ _ ha;exact⟨_,AV,⟨o,h1,h2.1⟩,λz=>nomatch z⟩
 |uQ C=>
  cases p with
  |of q=>
   cases q with
   |uQ k _ ha=>cases r;obtain⟨⟨o,h1,h2,h3,h4⟩,_⟩:=I.hok _ _ ha;exact⟨_,qG k,⟨o,h1,h2,h3,by rw[h4];trivial⟩,λz=>nomatch z⟩
 |uR ks ds=>
  cases p with
  |of q=>
   cases q with
   |uR _ ha _ _=>cases r;obtain⟨_,_,vs,_,o,es,ep,h1,h2,_⟩:=I.hok _ _ ha;exact⟨_,AV,⟨o,h1,h2.1⟩,λz=>nomatch z⟩
theorem uX:∀{ns:List String}{us:List Value},Vals (ns.map V.ty) us->us=ns.map Value.type
 | [],_,r=>by rw[List.map_nil]at r;cases r;rfl
 |n::ns,_,r=>by
  cases r with
  |cons r1 r2=>cases r1;rw[uX r2];rfl
theorem wW:cL X (.builtin "isinstance") (λxs H Q=>∃(x:V) (p:Addr) (ns:List String) (M:List Addr) (d:D) (b:Bool),xs=[x,.ref p]/\Pk X.K M H d x/\fU X.K H p (ns.map V.ty)/\PySem.W.kitAny X.K (Dz d) (ns.map Value.type)=some b/\Q (.bl b) H):=by intro ah s Y H xs us Q I r h;obtain⟨x,p,ns,M,d,b,rfl,pk,hp,e,q⟩:=h;obtain⟨u,w',rfl,r1,r2⟩:=vals2 r;cases r2;obtain⟨Hh,Zk,hH,hx⟩:=My I pk r1;obtain⟨aq,rv,⟨o,h1,h2,n,h3⟩,_⟩:=I.tuple hp;rw[uX rv]at h3;obtain⟨c,dd,dt,sl⟩:=o;have h2':=h2;have h3':=h3;subst h2' h3';exact PySem.W.kia_tup Zk I.qe hH h1 e hx λtk=>⟨.bl b,H,I.tok tk,rfl,q⟩
structure W2(X:Cx)(T:Str)(n:String):Prop where
 gl:Gl X T
 mg:X.mg T=none
 bt:bootBuiltins T=some (.type n)
 nn:T≠ "__name__"
 db:(T==(~~~3))=false
inductive kX(X:Cx):List Expr->List String->Prop
 |nil:kX X [] []
 |cons {T:Str}{n:String}{p:Pos}{es:List Expr}{ns:List String}:W2 X T n->kX X es ns->kX X (.Name T p::es) (n::ns)
theorem kX.pa(h:kX X es ns):∃t,PA X es t/\∀Y H (Q:List V->Hp->Prop),Q (ns.map V.ty) H->t Y H Q:=by
 induction h with
 |nil=>exact⟨_,bZ,λY H Q q=>q⟩
 |@cons T n p es ns h _ ih=>obtain⟨t,q,k⟩:=ih;have pT:PE X (.Name T p) (tC (.ty n)):=uI h.gl h.mg h.bt rfl h.nn h.db;exact⟨_,bD pT q rfl,λY H Q hq=>k Y H _ hq⟩
theorem Gs(hK:z.K=X.K)(h:au X z a g r1 g1)(hp:pk r1 g1=some d)(ht:kX X es ns)(hl:ns.length<=16777216)(he:∀M H v,Pk X.K M H d v->PySem.W.kitAny X.K (Dz d) (ns.map Value.type)=some b)
  (hg:Gl X "isinstance") (hm:X.mg "isinstance"=none) (hv:bootBuiltins "isinstance"=some (.builtin "isinstance"))
  (hs:starEach [a,.Tuple es k pT] X.env=(false,eval a X.env)::starEach [.Tuple es k pT] X.env):au X z (.Call (.Name "isinstance" p) [a,.Tuple es k pT] [] pos) g (.dat (.bl b)) g1:=by
 obtain⟨t,q,kk⟩:=h;obtain⟨tt,qt,kt⟩:=ht.pa;refine⟨_,dM wW hg hm hv (bD q (bD (yO qt) bZ) hs) ⋯ ⋯ hs,λY L M H Q s kq=>kk Y L M H _ s λv H' aC M' s' st R=>kt Y H' _ ⟨by rw[eC];exact kK hl,λa ha=>?_⟩⟩
 have s2:=s'.laid (o:=.tup (ns.map V.ty)) ha;have pp:=s'.pk (ak.refl _ _) R hp;refine⟨v,a,ns,M',d,b,rfl,?_,.inl (.inl aA),he _ _ _ (hK▸pp),kq _ _ aC M' s2 (st.trans (ak.laid ha)) (.bl b)⟩;rw[<- hK];cases pp with
 |of r=>exact .of (r.stay (ak.laid ha))
 |lst e1 e2=>exact .lst (by rw[az (aK e1 ha)];exact e1) (e2.stay (ak.laid ha))
theorem wX(hN:X.N[i]?=some x)(hv:ym X.env.scope x)(hd:(x==(~~~3))=false)(bY:(x==("__classdict__":Str))=false)(hg:g[i]?=some (.own l0))(h:cJ X z [e] g [.dat (.lst m)] g1)(sy:g1[i]?=some (.own l))(hl:l.length+m.length<=16777216)
  (hbase:attributeBase (.Name x pn) "extend" X.env (eval (.Name x pn) X.env)=eval (.Name x pn) X.env)
  (hfew:((backTo cK (starEach [e] X.env)).all (λx=>!x.1)&&(backToKw cK (keywordEach [] X.env)).all (λx=>x.1.isSome)
   && decide ([e].length+([]:List Keyword).length+(if ([]:List Keyword).isEmpty then 0 else 1)<30))=true)
  (hline:(iP.endLine==cK.line)=true) (hs:starEach [e] X.env=(false,eval e X.env)::starEach [] X.env):au X z (.Call (.Attribute (.Name x pn) "extend" iP) [e] [] cK) g (.dat .non) (g1.set i (.own (l++m))):=by
 obtain⟨t,q,k⟩:=h;refine⟨_,mR oD PySem.F.slot_list_extend PySem.F.type_list_extend wA (e9 hN hv hd bY) q hbase hfew hline hs rfl,λY L M H Q s kk=>?_⟩
 obtain⟨a,xs,e1,e2,e3,e4⟩:=s.sl.at hg;refine⟨.ref a,e1,.inl ⟨rfl,xs,bH.of e3⟩,k Y L M H _ s λvs H' aC M' s' st R=>?_⟩
 obtain⟨b,ys,f1,f2,f3,f4⟩:=s'.sl.at sy;rw[e1]at f1;injection f1 with f1;injection f1 with f1;injection f1 with f1;subst f1;cases R with
 |dat r R=>
  cases R;cases r with
  |@lst _ c zs hc rr=>
   refine⟨a,c,ys,zs,rfl,rfl,f3,hc.2,by rw[<- f4.length,<- rr.length];exact hl,?_⟩
   obtain⟨s2,aP⟩:=s'.write sy e1 (f4.append rr);exact kk _ _ aC M' s2 (st.trans aP) .non
theorem aG.dropLast{K:Frag}{M:List Addr}{H:Hp}{ds:List D}{vs:List V}(q:aG K M H ds vs):aG K M H ds.dropLast vs.dropLast:=by rw[A4,A4,q.length];exact q.take _
theorem Mz(hN:X.N[i]?=some x)(hv:ym X.env.scope x)(hd:(x==(~~~3))=false)(bY:(x==("__classdict__":Str))=false)(hg:g[i]?=some (.own l))(hy:l[l.length - 1]?=some d)
  (hbase:attributeBase (.Name x pn) "pop" X.env (eval (.Name x pn) X.env)=eval (.Name x pn) X.env)
  (hline:(iP.endLine==cK.line)=true):au X z (.Call (.Attribute (.Name x pn) "pop" iP) [] [] cK) g (.dat d) (g.set i (.own l.dropLast)):=by
 refine⟨_,yT oD AY AZ yV (e9 hN hv hd bY) hbase hline,λY L M H Q s kk=>?_⟩
 obtain⟨a,xs,e1,e2,e3,e4⟩:=s.sl.at hg;obtain⟨v,h1,h2⟩:=e4.get hy;rw[e4.length]at h1;obtain⟨s2,aP⟩:=s.write hg e1 e4.dropLast;exact⟨.ref a,e1,.inl ⟨rfl,xs,bH.of e3⟩,a,xs,v,rfl,rfl,e3,h1,kk _ _ L M s2 aP (h2.stay aP)⟩
end
noncomputable def ins(a:Int): ~~~0->List Int
 | []=>[a]
 |b::l=>if a<=b then a::b::l else b::ins a l
def iC: ~~~0->List Int
 | []=>[]
 |a::l=>ins a (iC l)
theorem kY(a:Int):∀l:List Int,(ins a l).Perm (a::l)
 | []=>nV _
 |b::l=>by
  unfold ins;split
  . exact nV _
  . exact ((kY a l).cons b).trans (List.Perm.swap a b l)
theorem cj:∀l:List Int,(iC l).Perm l
 | []=>nV _
 |a::l=>(kY a _).trans ((cj l).cons a)
theorem kZ(a:Int):∀{l: ~~~0},l.Pairwise (· <= ·)->(ins a l).Pairwise (· <= ·)
 | [],_=>xI _ _
 |b::l,h=>by
  obtain⟨h1,h2⟩:=mE.mp h;unfold ins;split
  .
   rename_i hab;refine mE.mpr ⟨λx hx=>?_,h⟩
   rcases c6.mp hx with rfl |hx
   . exact hab
   . exact Int.le_trans hab (h1 x hx)
  .
   rename_i hab;refine mE.mpr ⟨λx hx=>?_,kZ a h2⟩
   rcases c6.mp ((kY a l).mem_iff.mp hx)with rfl |hx
   . lia
   . exact h1 x hx
theorem iD:∀l:List Int,(iC l).Pairwise (· <= ·)
 | []=>List.Pairwise.nil
 |a::l=>kZ a (iD l)
theorem lg(hp:m.Perm l)(hs:m.Pairwise (· <= ·)):m=iC l:=
 (hp.trans (cj l).symm).eq_of_pairwise (λx y _ _ h1 h2=>Int.le_antisymm h1 h2) hs (iD l)
section
theorem gj(hl:IsTup s.heap l vs.toArray)
  (h:Q vs { s with heap:=(s.heap.push (seqObj "list" #[] 0)).update s⁻¹ (Obj.mapSeq (· ++ vs.toArray))}) (uC:vs.length<=sizeLine) :
  wpAny (model prog w) A (collect (.ref l)) Q E s:=by
 obtain⟨o,ho,hc,n,hd⟩:=id hl;refine aS (wpAny_runValue (codeAny_builtin entry_proto_collect' ?_));refine aS (A9 (c8 ⟨Code.quiet_builtin _ (by decide +kernel),codeAny_builtin entry_list_iadd' ?_⟩))
 show wpAny _ _ (Builtin.List.listExtendWith (.ref s⁻¹) (.ref l) (.ref s⁻¹)) _ _ { s with heap:=s.heap.push (seqObj "list" #[] 0)};have ho':(s.heap.push (seqObj "list" #[] 0)).get? l=some o:=a9 _ ho;refine aS (BM ⟨o,ho',hc⟩ ?_);have ht:(Value.type "tuple" == Value.type "tuple")=true:=by rfl
 rw[eR (by rw[ht];simp)]
 refine aS (listItems_at ho' hd ?_);refine aS (listItems_at (d0 _ rfl) rfl ?_);refine aS (listUpdate_at (d0 _ rfl) rfl ?_ (t7 _) (by show (#[]++vs.toArray).size<=sizeLine+1;simp only[Array.size_append,b0,List.length_nil];lia))
 refine c8 ?_;refine aS (wpAny_load (get?_update_seq (d0 _ rfl) _) ?_);show wpAny _ _ (pure ((#[]:Array Value)++vs.toArray).toList) Q E _;rw[show ((#[]:Array Value)++vs.toArray).toList=vs by simp]
 exact c8 h
theorem oY(hl:IsTup s.heap l vs.toArray)(hI:IntsAre vs ns)(h64:vs.length<64)
  (h:∀(out:Array Value) (ns': ~~~0),IntsAre out.toList ns'->ns'.Perm ns->ns'.Pairwise (· <= ·)->Q (.ref (s⁻¹+1)) { s with heap:=sortedAll s.heap vs out}) :
  wpAny (model prog w) A (call (.builtin "sorted") [.ref l]) Q E s:=by
 refine Calls.call_function_entry kind_sorted plain_sorted entry_sorted (args_sorted1 _) ?_;refine aS (c8 ?_);refine aS (gj hl ?_ (by rw[lS];lia))
 refine aS (A9 ?_);have uC:((s.heap.push (seqObj "list" #[] 0)).update s⁻¹ (Obj.mapSeq (· ++ vs.toArray))).objs.size=s⁻¹+1:=by rw[Heap.size_update,size_push']
 have UJ:(((s.heap.push (seqObj "list" #[] 0)).update s⁻¹ (Obj.mapSeq (· ++ vs.toArray))).push (seqObj "list" vs.toArray 0)).get? (s⁻¹+1)=some (seqObj "list" vs.toArray 0):=by rw[<- uC];exact d0 _ rfl
 rw[uC];refine aS (i9 (sB slot_list_sort ⟨_,UJ,rfl⟩ entry_list_sort (list_sort_tree UJ hI h64 λout ns' a1 a2 a3=>⟨_,rfl,?_⟩) (args_list_sort _)))
 exact c8 ⟨_,rfl,h out ns' a1 a2 a3⟩
end
section
theorem qM:cL X (.builtin "sorted") (λxs H Q=>∃p ns,xs=[.ref p]/\(bH X.K H p (ns.map V.int)\/fU X.K H p (ns.map V.int))/\ns.length<64/\∀q,H q=none->Q (.ref q) (upd H q (.lst ((iC ns).map V.int)))):=by
 intro ah s Y H xs us Q I r h;obtain⟨p,ns,rfl,hq,hl,q⟩:=h;obtain⟨u,rfl,rx⟩:=vals1 r;cases rx;have fin:∀(vs:List Value) (out:Array Value) (ns': ~~~0),IntsAre out.toList ns'->ns'.Perm ns->ns'.Pairwise (· <= ·)->EP X ah Y Q (.ref (s⁻¹+1)) { s with heap:=sortedAll s.heap vs out}:=λvs out ns' a1 a2 a3=>by
  have e:=lg a2 a3;subst e;obtain⟨ep,he⟩:=sortedAll_at s.heap vs out;have aJ:=(cj ns).length_eq;refine⟨.ref (s⁻¹+1),_,I.laid (λb o e=>sortedAll_old e) (AE _) ?_,rfl,q _ (I.hok.fresh (AE _))⟩
  refine⟨by rw[eC,lS];lia,out.toList,ep,mU a1,?_⟩
  rw[he]
 rcases hq with hq |hq
 . obtain⟨aq,r',pl,hz⟩:=I.list hq;have aJ:=r'.length;rw[eC]at aJ;exact sorted_ints pl.isList (intsAre_of r') ⋯ λout ns' a1 a2 a3=>fin aq out ns' a1 a2 a3
 . obtain⟨aq,r',pl,hz⟩:=I.tuple hq;have aJ:=r'.length;rw[eC]at aJ;exact oY pl (intsAre_of r') ⋯ λout ns' a1 a2 a3=>fin aq out ns' a1 a2 a3
theorem nh{K:Frag}{M:List Addr}{H:Hp}:∀ns:List Int,aG K M H (ns.map D.int) (ns.map V.int)
 | []=>.nil
 |n::ns=>.cons (.int n) (nh ns)
theorem wY(hK:z.K=X.K)(h:dR d=some l)(hi:cU l=some ns)(hl:ns.length<64):CallD X z (.builtin "sorted") [d] (.new ((iC ns).map .int)):=by
 refine⟨_,qM,λg Y L M H vs Q s p k=>?_⟩
 obtain⟨v,rfl,pv⟩:=p.one;have fin:∀q,H q=none->Q (.ref q) (upd H q (.lst ((iC ns).map V.int))):=λq hq=>k _ _ L (q::M) (s.aL hq) (ak.aL hq) ⟨q,_,rfl,bP,λhA=>s.fresh hq (s.sub q hA),s.bE hq,aA,nh _⟩
 cases d with
 |lst m=>symm;obtain⟨a,xs,rfl,e1,e2⟩:=pv.list;have:=dU e2 hi;subst this;exact⟨a,ns,rfl,.inl (bH.of e1),hl,fin⟩
 |tup m=>symm;obtain⟨a,xs,rfl,e1,e2⟩:=pv.tup;have:=dU e2 hi;subst this;exact⟨a,ns,rfl,.inr (hK▸e1.sq),hl,fin⟩
 |fix m=>symm;obtain⟨a,xs,rfl,e1,e2⟩:=pv.fix;have:=dU e2 hi;subst this;exact⟨a,ns,rfl,.inl (hK▸e1.sq),hl,fin⟩
 |_=>symm
end
section
def R9(X:Cx)(z:Z)(e:Expr)(g:G)(lo hi:Int)(g1:G):Prop:=
 ∀(ah: ~~~1) (s:Shared) (Y:Sg) (L M:List Addr) (H:Hp) (Post:Value->Shared->Prop),L2.Inv X ah Y H s->S z g Y L M H->
  (∀r s1 H1 aR M1 t u v,L2.Inv X ah Y H1 s1->S z g1 Y aR M1 H1->ak M H M1 H1->IsRange s1.heap r lo hi 1 t u v->Post (.ref r) s1)->wpAny (~~~2) X.A (eval e X.env) Post X.xe s
theorem cJ.run(ha:cJ X z es g rs g1)(I:L2.Inv X ah Y H s)(st:S z g Y L M H)
  (k:∀vs us s1 H1 aR M1,L2.Inv X ah Y H1 s1->Vals vs us->S z g1 Y aR M1 H1->ak M H M1 H1->gF z Y M1 H1 rs vs->Post us s1):wpAny (~~~2) X.A (spliced (backTo pos (starEach es X.env))) Post X.xe s:=by
 obtain⟨t,q,kt⟩:=ha;exact bG (q pos ah s Y H (λvs H1=>∃aR M1,S z g1 Y aR M1 H1/\ak M H M1 H1/\gF z Y M1 H1 rs vs) I (kt Y L M H _ st λvs H1 aR M1 s1 bN R=>⟨aR,M1,s1,bN,R⟩)) (by rintro us s1 ⟨vs,H1,I1,r1,aR,M1,q1,q2,q3⟩;exact k vs us s1 H1 aR M1 I1 r1 q1 q2 q3)
theorem W3(h:cJ X z [a] g [‹j›] g1)(hg:Gl X "range")(hm:X.mg "range"=none)(hs:starEach [a] X.env=[(false,eval a X.env)]):R9 X z (.Call (.Name "range" p) [a] [] rp) g 0 j g1:=by
 intro ah s Y L M H Post I st k;refine Call_ (fc I hg hm boot_range (nK (h.run I st λvs us s1 H1 aR M1 I1 r1 q1 q2 q3=>?_) hs rfl))
 cases q3 with
 |dat r R=>
  cases R;cases r;cases r1 with
  |cons r rr=>cases rr;obtain⟨t,rfl⟩:=r;exact call_range_1 (k _ _ H1 aR M1 _ _ _ (I1.kept λb o e=>a9 _ e) q1 q2 (IsRange.new ..))
noncomputable def wZ(lo:Int)(n:Nat):List V:=(List.range n).map λ(k:Nat)=>V.int (lo+(k:Int))
theorem w6{lo:Int}{n:Nat}{acc:Array Value}(h:ItemsOf (λi v=>∃t,v=Value.int (lo+(i:Int) * 1) t) acc n):Vals (wZ lo n) acc.toList:=by
 have key:∀(m:Nat) (l:List Value) (o:Nat),l.length=m->(∀j v,l[j]?=some v->∃t,v=Value.int (lo+((o+j:Nat):Int)) t)->Vals ((List.range' o m).map λ(k:Nat)=>V.int (lo+(k:Int))) l:=by
  intro m
  induction m with
  |zero=>intro l o hl _;cases l with
   |nil=>exact .nil
   |cons _ _=>simp at hl
  |succ m ih=>
   intro l o hl hv;cases l with
   |nil=>simp at hl
   |cons v l=>
    obtain⟨t,e⟩:=hv 0 v rfl;refine .cons ⟨t,by rw[e];rfl⟩ (ih l (o+1) (by simpa using hl) λj w hw=>?_)
    obtain⟨t',e'⟩:=hv (j+1) w (by simpa using hw)
    exact⟨t',by rw[e',show o+(j+1)=o+1+j by lia]⟩
 unfold wZ;rw[List.range_eq_range'];refine key n acc.toList 0 (by rw[nE];exact h.1) λj v hv=>?_
 obtain⟨t,e⟩:=h.2 j v (by rw[<- AW];exact hv)
 exact⟨t,by rw[e,BN,Int.mul_one]⟩
theorem xg{K:Frag}{M:List Addr}{H:Hp}(lo:Int)(n:Nat):aG K M H (dX lo n) (wZ lo n):=by
 unfold dX wZ
 induction List.range n with
 |nil=>exact .nil
 |cons k l ih=>exact .cons (.int _) ih
theorem zU{e:Expr}{lo hi:Int}(h:R9 X z e g lo hi g1)(hc:X.calm=true)(hg:Gl X "list")(hm:X.mg "list"=none)(hs:starEach [e] X.env=[(false,eval e X.env)])(h1 : -(2 ^ 62)<=lo/\lo<2 ^ 62/\-(2 ^ 62)<=hi/\hi<2 ^ 62)(hl:(hi - lo).toNat<=16777216) :
  au X z (.Call (.Name "list" lp) [e] [] pos) g (.new (dX lo (hi - lo).toNat)) g1:=by
 refine au.of λah s Y L M H Post I st k=>?_
 refine Call_ (fc I hg hm (by rfl:bootBuiltins ("list":Str)=some (.type "list")) (nK ?_ hs rfl))
 rw[hs];refine Calls.spliced_cons (h ah s Y L M H _ I st λr s1 H1 aR M1 t u v I1 q1 q2 hr=>Calls.spliced_nil ?_)
 have hn:Builtin.Range.rangeSize lo hi 1=(((hi - lo).toNat:Nat):Int):=by rw[rangeSize_one];split <;> lia
 refine call_list_range (I1.ok.hd hc) hr (small_one h1.1 h1.2.1 h1.2.2.1 h1.2.2.2) hn hl λh' tk acc' c' hk hS' hacc=>?_
 have hf:=I1.hok.fresh (dC _);have s2:=q1.aL (xs:=wZ lo (hi - lo).toNat) hf;have vv:=w6 hacc;have I2:=
  I1.laid (t':=tk) hk (dC _) (show cD X.prog X.w _ h' _ (.lst (wZ lo (hi - lo).toNat))from⟨by rw[vv.length,nE,hacc.1];exact kK hl,acc'.toList,c',vv,by simpa using hS'⟩)
 exact k (.ref s1⁻¹) _ _ _ aR (s1⁻¹::M1) I2 rfl s2 (q2.trans (ak.aL hf)) ⟨_,_,rfl,bP,λhA=>q1.fresh hf (q1.sub _ hA),q1.bE hf,aA,xg _ _⟩
end
noncomputable def Z4:List Value:=[.type "ValueError",.type "Exception",.type "BaseException",.type "object"]
abbrev xh(K:Frag)(C:Addr):Prop:=PySem.W.excIn K C Z4 "ValueError.__new__"=true
open PySem PySem.W PyProof.Rows
noncomputable def eX{α:Type}(lt:Nat->Nat->Bool):KasT α->α
 |.ret a=>a
 |.ask i j k=>eX lt (k (lt i j))
theorem cR{α β:Type}(lt:Nat->Nat->Bool)(f:α->KasT β):∀t:KasT α,eX lt (t.bind f)=eX lt (f (eX lt t))
 |.ret _=>rfl
 |.ask i j k=>cR lt f (k (lt i j))
structure iS(α:Type) where
 lt:α->α->Bool
 Yw:∀a,lt a a=false
 tr:∀a b c,lt a b=true->lt b c=true->lt a c=true
 tot:∀a b,lt a b=false->lt b a=false->a=b
namespace iS
variable{α:Type}(O:iS α)
def le(a b:α):Prop:=O.lt b a=false
variable{O}
theorem le_refl(a:α):O.le a a:=O.Yw a
theorem le_of_lt(h:O.lt a b=true):O.le a b:=by
 unfold le;cases e:O.lt b a
 . rfl
 . have:=O.tr _ _ _ h e;rw[O.Yw]at this;cases this
theorem nj(h1:O.le a b)(h2:O.le b c):O.le a c:=by
 unfold le at *;cases e:O.lt c a with
 |false=>rfl
 |true=>
  exfalso;cases e1:O.lt a b with
  |true=>have:=O.tr _ _ _ e e1;rw[h2]at this;cases this
  |false=>have hab:=O.tot a b e1 h1;subst hab;rw[h2]at e;cases e
theorem uY(h1:O.le a b)(h2:O.le b a):a=b:=O.tot a b h2 h1
end iS
section
variable{α:Type}
noncomputable def cN(key:Nat->α)(p:Array Nat)(i:Nat):α:=key (p.getD i 0)
def fX(O:iS α)(key:Nat->α)(p:Array Nat)(n:Nat):Prop:=∀i j,i<=j->j<n->O.le (cN key p i) (cN key p j)
def gJ(O:iS α)(key:Nat->α)(p:Array Nat)(n:Nat):Prop:=∀i j,i<=j->j<n->O.le (cN key p j) (cN key p i)
noncomputable def jU(O:iS α)(key:Nat->α)(i j:Nat):Bool:=O.lt (key i) (key j)
theorem getD_some{p q:Array Nat}{i j:Nat}(h:p[i]?=q[j]?):p.getD i 0=q.getD j 0:=by rw[t8,t8,h]
theorem jV{p:Array Nat}{i j:Nat}(hj:j<=p.size)(k:Nat):cN key (kas_rev p i j) k=if i<=k/\k<j then cN key p (i+j - 1 - k)else cN key p k:=by
 have e:=getElem?_mirror_all (i:=i) hj k;unfold cN kas_rev;split
 . rename_i h;rw[eR h]at e;rw[getD_some e]
 . rename_i h;rw[fI h]at e;rw[getD_some e]
theorem Gu{p:Array Nat}{src d:Nat}(hs:src<p.size)(hd:d<=src)(k:Nat):cN key (bubble p src d) k=if k=src - d then cN key p src else if src - d<k/\k<=src then cN key p (k - 1)else cN key p k:=by
 have e:=getElem?_bubble hs d hd k;unfold cN;by_cases h1:k=src - d
 . rw[eR h1]at e ⊢;rw[getD_some e]
 .
  rw[fI h1]at e ⊢
  by_cases h2:src - d<k/\k<=src
  . rw[eR h2]at e ⊢;rw[getD_some e]
  . rw[fI h2]at e ⊢;rw[getD_some e]
theorem fX.ext(h:fX O key p n)(hl:O.lt (cN key p n) (cN key p (n - 1))=false)(h1:1<=n):fX O key p (n+1):=by
 intro i j hij hj;by_cases e:j<n
 . exact h i j hij e
 .
  have:j=n:=by lia
  subst this;by_cases e2:i=j
  . subst e2;exact iS.le_refl _
  . exact iS.nj (h i (j - 1) ⋯ ⋯) hl
theorem sY:∀(f n:Nat),1<=n->fX O key p n->∃m,eX (jU O key) (kas_asc p f n)=m/\n<=m/\m<=n+f/\fX O key p m/\(m<n+f->O.lt (cN key p m) (cN key p (m - 1))=true)
 | 0,n,_,h=>⟨n,rfl,dC _,dC _,h,λz=>absurd z (oT _)⟩
 |f+1,n,h1,h=>by
  show ∃m,eX (jU O key) (if jU O key (p.getD n 0) (p.getD (n - 1) 0)=true then KasT.ret n else kas_asc p f (n+1))=m/\_
  cases e:jU O key (p.getD n 0) (p.getD (n - 1) 0)with
  |true=>exact⟨n,rfl,dC _,by lia,h,λ_=>e⟩
  |false=>obtain⟨m,q1,q2,q3,q4,q5⟩:=sY f (n+1) ⋯ (h.ext e h1);exact⟨m,q1,by lia,by lia,q4,λz=>q5 ⋯⟩
theorem gJ.ext(h:gJ O key p n)(hl:O.le (cN key p n) (cN key p (n - 1)))(h1:1<=n):gJ O key p (n+1):=by
 intro i j hij hj;by_cases e:j<n
 . exact h i j hij e
 .
  have:j=n:=by lia
  subst this;by_cases e2:i=j
  . subst e2;exact iS.le_refl _
  . exact iS.nj hl (h i (j - 1) ⋯ ⋯)
theorem gJ.MF(h:gJ O key p n)(hk:∀k,cN key p' k=cN key p k):gJ O key p' n:=λi j a b=>by rw[hk,hk];exact h i j a b
def Se(key:Nat->α)(p:Array Nat)(n q:Nat):Prop:=q+1<=n/\∀k,n - (q+1)<=k->k<n->cN key p k=cN key p (n - 1)
theorem uZ(h:Se key p n q)(hz:n<=p.size)(k:Nat):cN key (kas_rev p (n - (q+1)) n) k=cN key p k:=by
 rw[jV hz];split
 . rename_i hk;rw[h.2 k hk.1 hk.2,h.2 (n - (q+1)+n - 1 - k) ⋯ ⋯]
 . rfl
theorem jW:∀(f:Nat) (p:Array Nat) (n q:Nat),1<=n->n+f<=p.size->gJ O key p n->Se key p n q->
  ∃p' m q',eX (jU O key) (kas_desc f p n q)=(p',m,q')/\p'.Perm p/\n<=m/\m<=n+f/\gJ O key p' m/\Se key p' m q'
 | 0,p,n,q,_,_,h,hq=>⟨p,n,q,rfl,AK _,dC _,dC _,h,hq⟩
 |f+1,p,n,q,h1,hz,h,hq=>by
  show ∃p' m q',eX (jU O key) (if jU O key (p.getD n 0) (p.getD (n - 1) 0)=true then (if q > 0 then kas_desc f (kas_rev p (n - (q+1)) n) (n+1) 0 else kas_desc f p (n+1) 0)
   else .ask (p.getD (n - 1) 0) (p.getD n 0) λd=>if d=true then .ret (p,n,q)else kas_desc f p (n+1) (q+1))=(p',m,q')/\_
  cases e:jU O key (p.getD n 0) (p.getD (n - 1) 0)with
  |true=>
   have hl:=iS.le_of_lt e;have one:∀p':Array Nat,Se key p' (n+1) 0:=λp'=>⟨by lia,λk a b=>by have:k=n:=⋯;subst this;rfl⟩
   by_cases Yx:q > 0
   .
    rw[eR Yx];have hk:=uZ hq (by lia:n<=p.size)
    have hF:=(h.ext hl h1).MF hk;obtain⟨p',m,q',r1,r2,r3,r4,r5,r6⟩:=jW f (kas_rev p (n - (q+1)) n) (n+1) 0 ⋯ (by rw[kas_rev_size];lia) hF (one _)
    exact⟨p',m,q',r1,r2.trans (mirror_perm _ _ _ _),by lia,by lia,r5,r6⟩
   . rw[fI Yx];obtain⟨p',m,q',r1,r2,r3,r4,r5,r6⟩:=jW f p (n+1) 0 ⋯ ⋯ (h.ext hl h1) (one _);exact⟨p',m,q',r1,r2,by lia,by lia,r5,r6⟩
  |false=>
   show ∃p' m q',eX (jU O key) (if jU O key (p.getD (n - 1) 0) (p.getD n 0)=true then .ret (p,n,q)else kas_desc f p (n+1) (q+1))=(p',m,q')/\_
   cases e2:jU O key (p.getD (n - 1) 0) (p.getD n 0)with
   |true=>exact⟨p,n,q,rfl,AK _,dC _,by lia,h,hq⟩
   |false=>
    have he:cN key p n=cN key p (n - 1):=O.tot _ _ e e2;have hq':Se key p (n+1) (q+1):=⟨by have:=hq.1;lia,λk a b=>by
     show cN key p k=cN key p n;by_cases hk:k=n
     . subst hk;rfl
     .
      rw[he];exact hq.2 k ⋯ ⋯⟩
    obtain⟨p',m,q',r1,r2,r3,r4,r5,r6⟩:=jW f p (n+1) (q+1) ⋯ ⋯ (h.ext (by rw[he];exact iS.le_refl _) h1) hq'
    exact⟨p',m,q',r1,r2,by lia,by lia,r5,r6⟩
theorem zV(h:gJ O key p n)(hz:n<=p.size):fX O key (kas_rev p 0 n) n:=λi j a b=>by
 rw[jV hz,jV hz,eR ⟨by lia,by lia⟩,eR ⟨by lia,by lia⟩]
 exact h _ _ ⋯ ⋯
theorem qN(h1:1<=n)(hn:n<=nrem)(hz:nrem<=p.size)(h:gJ O key p n):∃m p',eX (jU O key) (kas_tail3 n nrem p)=(m,p')/\p'.Perm p/\1<=m/\m<=nrem/\fX O key p' m:=by unfold kas_tail3;rw[cR];obtain⟨m,q1,q2,q3,q4,_⟩:=sY (nrem - n) n h1 (zV h ⋯);rw[q1];exact⟨m,_,rfl,mirror_perm _ _ _ _,by lia,by lia,q4⟩
theorem jw(h1:1<=n)(hn:n+1<=nrem)(hz:nrem<=p.size)(h:gJ O key p (n+1)):∃m p',eX (jU O key) (kas_descPart n nrem p)=(m,p')/\p'.Perm p/\1<=m/\m<=nrem/\fX O key p' m:=by
 unfold kas_descPart;rw[cR];obtain⟨p',m,q',r1,r2,r3,r4,r5,r6⟩:=jW (nrem - (n+1)) p (n+1) 0 ⋯ ⋯ h ⟨by lia,λk a b=>by have:k=n:=⋯;subst this;rfl⟩
 rw[r1];have hs:=r2.size_eq;by_cases hq:q' > 0
 .
  rw[eR hq];have hk:=uZ r6 (by lia:m<=p'.size)
  obtain⟨m',p2,s1,s2,s3,s4,s5⟩:=qN (nrem:=nrem) ⋯ ⋯ (by rw[kas_rev_size];lia) (r5.MF hk)
  exact⟨m',p2,s1,(s2.trans (mirror_perm _ _ _ _)).trans r2,s3,s4,s5⟩
 . rw[fI hq];obtain⟨m',p2,s1,s2,s3,s4,s5⟩:=qN (nrem:=nrem) ⋯ ⋯ ⋯ r5;exact⟨m',p2,s1,s2.trans r2,s3,s4,s5⟩
theorem zW(h1:1<=n)(hz:n<=p.size):∃m p',eX (jU O key) (kas_count n p)=(m,p')/\p'.Perm p/\1<=m/\m<=n/\fX O key p' m:=by
 unfold kas_count;rw[cR];obtain⟨m,q1,q2,q3,q4,q5⟩:=sY (O:=O) (n - 1) 1 (dC _) (λi j a b=>by have e1:i=0:=⋯;have e2:j=0:=⋯;subst e1;subst e2;exact iS.le_refl _)
 rw[q1];by_cases e1:(m==n)=true
 . rw[eR e1];exact⟨m,p,rfl,AK _,q2,by lia,q4⟩
 .
  rw[fI e1];have yy:=q5 ⋯;by_cases e2:m > 1
  .
   rw[eR e2];show ∃m' p',eX (jU O key) (if jU O key (p.getD 0 0) (p.getD (m - 1) 0)=true then KasT.ret (m,p)else kas_descPart m n (kas_rev p 0 m))=(m',p')/\_
   cases e3:jU O key (p.getD 0 0) (p.getD (m - 1) 0)with
   |true=>exact⟨m,p,rfl,AK _,q2,by lia,q4⟩
   |false=>
    have U9:∀k,k<m->cN key p k=cN key p (m - 1):=λk hk=>by
     refine iS.uY (q4 k (m - 1) ⋯ ⋯) ?_;exact iS.nj (show O.le (cN key p (m - 1)) (cN key p 0)from e3) (q4 0 k ⋯ hk)
    have hk:∀k,cN key (kas_rev p 0 m) k=cN key p k:=λk=>by
     rw[jV ⋯];split
     . rw[U9 _ ⋯,U9 k ⋯]
     . rfl
    have hF:gJ O key (kas_rev p 0 m) (m+1):=by
     refine gJ.MF (gJ.ext (λi j a b=>?_) (iS.le_of_lt yy) ⋯) hk
     rw[U9 i ⋯,U9 j b];exact iS.le_refl _
    obtain⟨m',p2,s1,s2,s3,s4,s5⟩:=jw q2 (by lia:m+1<=n) (by rw[kas_rev_size];exact hz) hF
    exact⟨m',p2,s1,s2.trans (mirror_perm _ _ _ _),s3,s4,s5⟩
  .
   rw[fI e2];have hF:=gJ.ext (λi j a b=>by have e1:i=0:=⋯;have e2:j=0:=⋯;subst e1;subst e2;exact iS.le_refl _) (iS.le_of_lt yy) q2
   exact jw q2 ⋯ hz hF
theorem lq(hR:fX O key p k):∀(f l r:Nat),l<=r->r<=k->r - l<=f->(∀i,i<l->O.le (cN key p i) (cN key p k))->(∀i,r<=i->i<k->O.lt (cN key p k) (cN key p i)=true)->
  ∃m,eX (jU O key) (kas_place p k f l r)=m/\m<=k/\(∀i,i<m->O.le (cN key p i) (cN key p k))/\∀i,m<=i->i<k->O.lt (cN key p k) (cN key p i)=true
 | 0,l,r,h1,h2,h3,h4,h5=>⟨l,rfl,by lia,h4,λi a b=>h5 i ⋯ b⟩
 |f+1,l,r,h1,h2,h3,h4,h5=>by
  unfold kas_place;by_cases e:l ≥ r
  . rw[eR e];exact⟨l,rfl,by lia,h4,λi a b=>h5 i ⋯ b⟩
  .
   rw[fI e];show ∃m,eX (jU O key) (if jU O key (p.getD k 0) (p.getD ((l+r) / 2) 0)=true then kas_place p k f l ((l+r) / 2)else kas_place p k f ((l+r) / 2+1) r)=m/\_
   cases e2:jU O key (p.getD k 0) (p.getD ((l+r) / 2) 0)with
   |true=>
    refine lq hR f l ((l+r) / 2) ⋯ ⋯ ⋯ h4 λi a b=>?_
    by_cases hi:r<=i
    . exact h5 i hi b
    .
     have q:=hR _ _ a b;cases e3:O.lt (cN key p k) (cN key p i)with
     |true=>rfl
     |false=>
      have:=iS.nj q (show O.le (cN key p i) (cN key p k)from e3)
      have U6:O.lt (cN key p k) (cN key p ((l+r) / 2))=true:=e2;rw[this]at U6;cases U6
   |false=>
    refine lq hR f ((l+r) / 2+1) r ⋯ h2 ⋯ (λi a=>?_) h5
    exact iS.nj (hR i ((l+r) / 2) ⋯ ⋯) e2
theorem zX:∀(f:Nat) (p:Array Nat) (k:Nat),k+f<=p.size->fX O key p k->∃p',eX (jU O key) (kas_bin f p k)=p'/\p'.Perm p/\fX O key p' (k+f)
 | 0,p,k,_,h=>⟨p,rfl,AK _,h⟩
 |f+1,p,k,hz,h=>by
  unfold kas_bin;rw[cR];obtain⟨l,q1,q2,q3,q4⟩:=lq h k 0 k (t7 _) (dC _) ⋯ (λi a=>absurd a (y6 _)) (λi a b=>absurd (Nat.lt_of_le_of_lt a b) (oT _))
  rw[q1];have hk:=λi=>Gu (key:=key) (p:=p) (src:=k) (d:=k - l) ⋯ ⋯ i
  have hR:fX O key (bubble p k (k - l)) (k+1):=λi j a b=>by
   rw[hk,hk];have e:k - (k - l)=l:=by lia
   rw[e];by_cases i1:i=l
   .
    rw[eR i1];by_cases j1:j=l
    . rw[eR j1];exact iS.le_refl _
    .
     rw[fI j1,eR ⟨by lia,by lia⟩]
     exact iS.le_of_lt (q4 (j - 1) ⋯ ⋯)
   .
    rw[fI i1];by_cases i2:l<i/\i<=k
    .
     rw[eR i2,fI ⋯,eR ⟨by lia,by lia⟩]
     exact h _ _ ⋯ ⋯
    .
     rw[fI i2];by_cases j1:j=l
     . rw[eR j1];exact q3 i ⋯
     .
      rw[fI j1];by_cases j2:l<j/\j<=k
      . rw[eR j2];exact h _ _ ⋯ ⋯
      . rw[fI j2];exact h _ _ a ⋯
  obtain⟨p',s1,s2,s3⟩:=zX f (bubble p k (k - l)) (k+1) (by rw[bubble_size];lia) hR
  exact⟨p',s1,s2.trans (bubble_perm _ _ _),by rw[show k+(f+1)=k+1+f by lia];exact s3⟩
theorem Gv(h1:1<=n):∃p,eX (jU O key) (kas_sort n)=p/\p.Perm (List.range n).toArray/\fX O key p n:=by
 unfold kas_sort;rw[cR];obtain⟨m,p,q1,q2,q3,q4,q5⟩:=zW (p:=(List.range n).toArray) h1 ⋯;rw[q1];have hs:p.size=n:=by rw[q2.size_eq];simp
 have e:max m 1=m:=by lia
 rw[e];by_cases hm:m<n
 . rw[eR hm];obtain⟨p',s1,s2,s3⟩:=zX (n - m) p m ⋯ q5;exact⟨p',s1,s2.trans q2,by rw[show m+(n - m)=n by lia]at s3;exact s3⟩
 .
  rw[fI hm];have:m=n:=by lia
  subst this;exact⟨p,rfl,q2,q5⟩
end
noncomputable def u5{α:Type}(n:Nat)(P:α->Prop):KasT α->Prop
 |.ret a=>P a
 |.ask i j k=>i<n/\j<n/\∀b,u5 n P (k b)
theorem u5.bind{α β:Type}{n:Nat}{P:α->Prop}{Q:β->Prop}{f:α->KasT β}:∀{t:KasT α},u5 n P t->(∀a,P a->u5 n Q (f a))->u5 n Q (t.bind f)
 |.ret a,h,hf=>hf a h
 |.ask _ _ _,h,hf=>⟨h.1,h.2.1,λb=>(h.2.2 b).bind hf⟩
theorem qO{α:Type}{n:Nat}{P:α->Prop}{lt:Nat->Nat->Bool}{cmp:Nat->Nat->(Bool->Shared->Prop)->Shared->Prop}{Q:α->Shared->Prop}{s:Shared}(hc:∀i j C,i<n->j<n->C (lt i j) s->cmp i j C s):∀t:KasT α,u5 n P t->Q (eX lt t) s->t.kasWp cmp Q s
 |.ret _,_,h=>h
 |.ask i j k,ok,h=>hc i j _ ok.1 ok.2.1 (qO hc (k (lt i j)) (ok.2.2 _) h)
def lu(n:Nat)(p:Array Nat):Prop:=0<n/\∀x∈p.toList,x<n
theorem lu.at(h:lu n p)(i:Nat):p.getD i 0<n:=by
 rw[t8];cases e:p[i]? with
 |none=>exact h.1
 |some x=>exact h.2 x (by rw[Array.getElem?_eq_some_iff]at e;obtain⟨hi,rfl⟩:=e;simp)
theorem lu.perm(h:lu n p)(e:p'.Perm p):lu n p':=⟨h.1,λx hx=>h.2 x ((At.mp e).mem_iff.mp hx)⟩
theorem lu.rev(h:lu n p)(i j:Nat):lu n (kas_rev p i j):=h.perm (mirror_perm _ _ _ _)
theorem lu.Z5(h:lu n p)(i j:Nat):lu n (bubble p i j):=h.perm (bubble_perm _ _ _)
section
theorem sZ(h:lu N p):∀f n,u5 N (λ_=>True) (kas_asc p f n)
 | 0,_=>trivial
 |f+1,n=>⟨h.at _,h.at _,λb=>by cases b <;> first |exact trivial |exact sZ h f (n+1)⟩
theorem jX:∀f p n q,lu N p->u5 N (λr=>lu N r.1) (kas_desc f p n q)
 | 0,_,_,_,h=>h
 |f+1,p,n,q,h=>by
  refine⟨h.at _,h.at _,λb=>?_⟩
  dsimp only;cases b with
  |true=>
   by_cases hq:q > 0
   . rw[eR hq];exact jX f _ _ _ (h.rev _ _)
   . rw[fI hq];exact jX f _ _ _ h
  |false=>
   refine⟨h.at _,h.at _,λd=>?_⟩
   cases d with
   |true=>exact h
   |false=>exact jX f _ _ _ h
theorem qP{p:Array Nat}{n nrem:Nat}(h:lu N p):u5 N (λr=>lu N r.2) (kas_tail3 n nrem p):=(sZ (h.rev 0 n) _ _).bind λ_ _=>h.rev 0 n
theorem jy{p:Array Nat}{n nrem:Nat}(h:lu N p):u5 N (λr=>lu N r.2) (kas_descPart n nrem p):=by
 refine (jX _ _ _ _ h).bind λr hr=>?_
 by_cases hq:r.2.2 > 0
 . rw[eR hq];exact qP (lu.rev hr _ _)
 . rw[fI hq];exact qP hr
theorem zY{p:Array Nat}{n:Nat}(h:lu N p):u5 N (λr=>lu N r.2) (kas_count n p):=by
 refine (sZ h _ _).bind λm _=>?_
 by_cases e1:(m==n)=true
 . rw[eR e1];exact h
 .
  rw[fI e1];by_cases e2:m > 1
  .
   rw[eR e2];refine⟨h.at _,h.at _,λb=>?_⟩
   cases b with
   |true=>exact h
   |false=>exact jy (h.rev _ _)
  . rw[fI e2];exact jy h
theorem lz(h:lu N p):∀f l r,u5 N (λ_=>True) (kas_place p k f l r)
 | 0,_,_=>trivial
 |f+1,l,r=>by
  unfold kas_place;by_cases e:l ≥ r
  . rw[eR e];exact trivial
  .
   rw[fI e];refine⟨h.at _,h.at _,λb=>?_⟩
   cases b with
   |true=>exact lz h f _ _
   |false=>exact lz h f _ _
theorem zZ:∀f p k,lu N p->u5 N (λ_=>True) (kas_bin f p k)
 | 0,_,_,_=>trivial
 |f+1,p,k,h=>(lz h _ _ _).bind λl _=>zZ f _ _ (h.Z5 _ _)
theorem Gw{n:Nat}(h:0<n):u5 n (λ_=>True) (kas_sort n):=by
 refine (zY ⟨h,λx hx=>by simpa using hx⟩).bind λr hr=>?_
 by_cases e:r.1<n
 . rw[eR e];exact zZ _ _ _ hr
 . rw[fI e];exact trivial
end
open L2 PySem.W
section
variable{α:Type}{key:Nat->α}
noncomputable def cX(s:Shared)(a:Addr)(vs:List Value):Shared:={ s with heap:=((s.heap.update a (Obj.mapSeq λ_=>#[])).push (seqObj "tuple" vs.toArray 0)).push (seqObj "list" #[] 0)}
theorem qQ(hb:b≠a)(h:s.heap.get? b=some o):(cX s a vs).heap.get? b=some o:=
 a9 _ (a9 _ ((yA s.heap _ hb.symm).trans h))
theorem z5(ho:s.heap.get? a=some (seqObj "list" vs.toArray n))(h2:2<=vs.length)(h64:vs.length<64)
  (hk:∀Q:SortKind->Shared->Prop,Q κ (cX s a vs)->wpAny (model prog w) A (keyKind' vs.toArray) Q (λ_ _=>False) (cX s a vs))
  (hc:∀i j C,i<vs.length->j<vs.length->C (jU O key i j) (cX s a vs)->kas_ask prog w A κ vs i j C (cX s a vs))
  (h:∀p:Array Nat,p.Perm (List.range vs.length).toArray->fX O key p vs.length->P (.done (.ret .none)) { s with heap:=sortedHeap s.heap a vs (p.toList.map λi=>vs.getD i Value.none).toArray}) :
  wpAny (model prog w) A (Builtin.«list.sort» ⟨[.ref a],[]⟩) P E s:=by
 obtain⟨e1,Sf⟩:∃e1,(s.heap.update a (Obj.mapSeq λ_=>#[])).get? a=some (seqObj "list" #[] e1):=⟨_,get?_update_seq ho (λ_=>#[])⟩
 have Sh:(cX s a vs).heap.get? a=some (seqObj "list" #[] e1):=a9 _ (a9 _ Sf);have hz:vs.length<=sizeLine:=(by rw[lS];lia)
 rw[list_sort_plain];refine aS (listItems_at ho rfl (aS (listUpdate_at ho rfl (aS (seqEpoch_at Sf rfl (aS (wpAny_newTuple (aS (A9 (i9 ?_) (t7 _))) (by show vs.length<=_;exact hz))))) (by simpa using hz) (t7 _))))
 have hn : ¬ vs.toArray.size<2:=by rw[b0];lia
 rw[fI hn,fI hn];refine aS (oQ (hk (λk s0=>k=κ/\s0=cX s a vs) ⟨rfl,rfl⟩) ?_ λ_ _ z=>z.elim)
 rintro _ _ ⟨rfl,rfl⟩;obtain⟨p0,q1,q2,q3⟩:=Gv (n:=vs.length) ⋯;refine aS (oQ (kat_run (Q:=λst' s'=>s'=cX s a vs/\failedOf st'=none/\(arrOf st').map (·.2)=(p0.toList.map λi=>vs.getD i Value.none).toArray) (G:=λp s'=>s'=cX s a vs/\p=p0)
  rfl h2 h64 (λp st' s' _ har hf hg=>?_) (qO hc _ (Gw ⋯) ⟨rfl,q1⟩)) ?_ λ_ _ z=>z)
 . obtain⟨rfl,rfl⟩:=hg;exact⟨rfl,hf,kat_snds rfl har⟩
 .
  rintro⟨⟨⟩,st'⟩ s' ⟨rfl,hf,hout⟩;dsimp only at hf hout ⊢
  have aJ:(p0.toList.map λi=>vs.getD i Value.none).length=vs.length:=by rw[eC,nE,q2.size_eq];simp
  rw[hout];refine aS (seqEpoch_at Sh rfl (aS (listUpdate_at Sh rfl ?_ (t7 _) (by show (List.toArray _).size<=_;rw[b0];lia))))
  rw[hf];simp only[bne_self_eq_false];exact c8 (h p0 q2 q3)
theorem u6{β:Type}:∀l:List β,(l.zip l).map (·.2)=l
 | []=>rfl
 |x::l=>by rw[List.zip_cons_cons,List.map_cons,u6 l]
theorem z6(ho:s.heap.get? a=some (seqObj "list" vs.toArray n))(h2:vs.length<2)
  (h:P (.done (.ret .none)) { s with heap:=sortedHeap s.heap a vs vs.toArray}):wpAny (model prog w) A (Builtin.«list.sort» ⟨[.ref a],[]⟩) P E s:=by
 obtain⟨e1,Sf⟩:∃e1,(s.heap.update a (Obj.mapSeq λ_=>#[])).get? a=some (seqObj "list" #[] e1):=⟨_,get?_update_seq ho (λ_=>#[])⟩
 have Sh:(cX s a vs).heap.get? a=some (seqObj "list" #[] e1):=a9 _ (a9 _ Sf);have hz:vs.length<=sizeLine:=(by rw[lS];lia)
 rw[list_sort_plain];refine aS (listItems_at ho rfl (aS (listUpdate_at ho rfl (aS (seqEpoch_at Sf rfl (aS (wpAny_newTuple (aS (A9 (i9 ?_) (t7 _))) (by show vs.length<=_;exact hz))))) (by simpa using hz) (t7 _))))
 have hn:vs.toArray.size<2:=by rw[b0];lia
 dsimp only;rw[eR hn,eR hn];refine aS (c8 ?_);refine aS (c8 ?_);have hout:(arrOf (SortSt.mk' general' (vs.toArray.zip vs.toArray) #[] 7 none)).map (·.2)=vs.toArray:=by show (vs.toArray.zip vs.toArray).map (·.2)=vs.toArray;apply Array.toList_inj.mp;simp only[Array.toList_map,Array.toList_zip];exact u6 vs
 rw[hout];refine aS (seqEpoch_at Sh rfl (aS (listUpdate_at Sh rfl ?_ (t7 _) (by show vs.toArray.size<=_;rw[b0];lia))))
 rw[fI ⋯];exact c8 h
noncomputable def Gx(h:Heap)(vs:List Value):Heap:=((h.push (seqObj "list" #[] 0)).update h.objs.size (Obj.mapSeq (· ++ vs.toArray))).push (seqObj "list" vs.toArray 0)
theorem nk(h:Heap)(vs:List Value):((h.push (seqObj "list" #[] 0)).update h.objs.size (Obj.mapSeq (· ++ vs.toArray))).objs.size=h.objs.size+1:=(Heap.size_update ..).trans (size_push' ..)
theorem oZ(h:Heap)(vs:List Value):(Gx h vs).get? (h.objs.size+1)=some (seqObj "list" vs.toArray 0):=by have:=d0 ((h.push (seqObj "list" #[] 0)).update h.objs.size (Obj.mapSeq (· ++ vs.toArray))) (o:=seqObj "list" vs.toArray 0) rfl;rw[nk]at this;exact this
theorem qR(e:h.get? b=some o):(Gx h vs).get? b=some o/\b≠h.objs.size+1:=by have hb:=eJ e;refine⟨a9 _ ?_,i8 (Nat.lt_succ_of_lt hb)⟩;rw[yA _ _ (BI hb)];exact a9 _ e
theorem xm(hl:s.heap.IsList l vs.toArray\/IsTup s.heap l vs.toArray)(hz:vs.length<=sizeLine)
  (h:wpAny (model prog w) A.in1.in1 (Builtin.«list.sort» ⟨[.ref (s⁻¹+1)],[]⟩) (λf s'=>f=.done (.ret .none)/\Q (.ref (s⁻¹+1)) s') E { s with heap:=Gx s.heap vs}) :
  wpAny (model prog w) A (call (.builtin "sorted") [.ref l]) Q E s:=by
 refine Calls.call_function_entry kind_sorted plain_sorted entry_sorted (args_sorted1 _) ?_;have go:wpAny (model prog w) A.in1 (collect (.ref l)) (λvs' s'=>vs'=vs/\s'={ s with heap:=(s.heap.push (seqObj "list" #[] 0)).update s⁻¹ (Obj.mapSeq (· ++ vs.toArray))}) E s:=by
  rcases hl with hl |hl
  . exact collect_list hl ⟨rfl,rfl⟩ hz
  . exact gj hl ⟨rfl,rfl⟩ hz
 refine aS (c8 (aS (oQ go ?_ λ_ _ z=>z)))
 rintro _ _ ⟨rfl,rfl⟩;refine aS (A9 ?_ hz);rw[nk];refine aS (i9 (sB slot_list_sort ⟨_,oZ _ _,rfl⟩ entry_list_sort (oQ h (λf s' hf=>⟨_,hf.1,?_⟩) λ_ _ z=>z) (args_list_sort _)))
 exact c8 ⟨_,rfl,hf.2⟩
end
theorem nq:∀a:List Int,HT.lexLt a a=false
 | []=>rfl
 |x::a=>by rw[HT.cS,eR rfl,nq a]
theorem qT:∀a b c:List Int,HT.lexLt a b=true->HT.lexLt b c=true->HT.lexLt a c=true
 | [],[],_,h,_=>by symm
 |_::_,[],_,h,_=>by symm
 |_,_::_,[],_,h=>by symm
 | [],_::_,_::_,_,_=>rfl
 |x::a,y::b,z::c,h1,h2=>by
  rw[HT.cS]at h1 h2 ⊢
  by_cases e1:x=y
  .
   rw[eR e1]at h1;subst e1;by_cases e2:x=z
   .
    rw[eR e2]at h2 ⊢
    exact qT a b c h1 h2
   .
    rw[fI e2]at h2 ⊢
    exact h2
  .
   rw[fI e1]at h1;by_cases e2:y=z
   . rw[eR e2]at h2;subst e2;rw[fI e1];exact h1
   . rw[fI e2]at h2;rw[fI ⋯];exact i4 ⋯
theorem nB:∀a b:List Int,HT.lexLt a b=false->HT.lexLt b a=false->a=b
 | [],[],_,_=>rfl
 | [],_::_,h,_=>by symm
 |_::_,[],_,h=>by symm
 |x::a,y::b,h1,h2=>by
  rw[HT.cS]at h1 h2;by_cases e:x=y
  . subst e;rw[eR rfl]at h1 h2;rw[nB a b h1 h2]
  .
   rw[fI e]at h1;rw[fI (λz=>e z.symm)]at h2
   lia
def fC:iS (~~~0):=⟨HT.lexLt,nq,qT,nB⟩
section
variable{α:Type}(O:iS α)
noncomputable def xq(a:α):List α->List α
 | []=>[a]
 |b::l=>if O.lt b a then b::xq a l else a::b::l
def bT:List α->List α
 | []=>[]
 |a::l=>xq O a (bT l)
variable{O}
theorem iY(a:α):∀l:List α,(xq O a l).Perm (a::l)
 | []=>nV _
 |b::l=>by
  unfold xq;split
  . exact ((iY a l).cons b).trans (List.Perm.swap a b l)
  . exact nV _
theorem cY:∀l:List α,(bT O l).Perm l
 | []=>nV _
 |a::l=>(iY a _).trans ((cY l).cons a)
theorem jz(a:α):∀{l:List α},l.Pairwise O.le->(xq O a l).Pairwise O.le
 | [],_=>xI _ _
 |b::l,h=>by
  obtain⟨h1,h2⟩:=mE.mp h;unfold xq;cases e:O.lt b a with
  |true=>
   refine mE.mpr ⟨λx hx=>?_,jz a h2⟩
   rcases c6.mp ((iY a l).mem_iff.mp hx)with rfl |hx
   . exact iS.le_of_lt e
   . exact h1 x hx
  |false=>
   refine mE.mpr ⟨λx hx=>?_,h⟩
   rcases c6.mp hx with rfl |hx
   . exact e
   . exact iS.nj (show O.le a b from e) (h1 x hx)
theorem iE:∀l:List α,(bT O l).Pairwise O.le
 | []=>List.Pairwise.nil
 |a::l=>jz a (iE l)
theorem tB(hp:m.Perm l)(hs:m.Pairwise O.le):m=bT O l:=
 (hp.trans (cY l).symm).eq_of_pairwise (λx y _ _ h1 h2=>iS.uY h1 h2) hs (iE l)
theorem fD{β:Type}(ks:List β)(d:β):(List.range ks.length).map (λi=>ks.getD i d)=ks:=by
 refine List.ext_getElem ⋯ λi h1 h2=>?_
 simp[i7 h2]
theorem qU(hp:p.Perm (List.range ks.length).toArray)(hr:fX O (λi=>ks.getD i d) p ks.length):p.toList.map (λi=>ks.getD i d)=bT O ks:=by
 have hl:=At.mp hp;refine tB ((hl.map _).trans (by rw[fD])) ?_
 rw[List.pairwise_iff_getElem];intro i j hi hj hij;have hs:p.size=ks.length:=by rw[hp.size_eq];simp
 rw[eC,nE]at hi hj;have:=hr i j (Nat.le_of_lt hij) ⋯;unfold cN at this;have e1:p.getD i 0=p[i]:=by simp[hi]
 have e2:p.getD j 0=p[j]:=by simp[hj]
 rw[e1,e2]at this;simpa using this
end
open L2 PySem.W
section
theorem z7(hv:IntsAre vs ns):∀{ws:List Value}{ms: ~~~0} (i:Nat),IntsAre ws ms->fin=decide (ns.length<ms.length)->Q (HT.lexLt ns ms) s->KatLex prog w A true fin Q (vs.zip ws) i s:=by
 induction hv with
 |nil=>
  intro ws ms i hu hf h;refine kat_nil ?_;rw[hf];cases hu with
  |nil=>exact h
  |cons _=>exact h
 |@cons n t vs ns hv ih=>
  intro ws ms i hu hf h;cases hu with
  |nil=>refine kat_nil ?_;rw[hf];exact h
  |@cons m t' us ms hu=>
   refine kat_cons (wpAny_eqBool_int (kat_go (λe=>?_) (λe=>?_)))
   .
    have e':=eq_of_beq e;refine kat_yes (ih (i+1) hu (by rw[hf];simp) ?_)
    rw[HT.cS,eR e']at h;exact h
   .
    have e':n≠m:=λq=>by rw[q]at e;simp at e
    rw[HT.cS,fI e']at h;refine kat_no ?_;cases i with
    |zero=>exact oneLt_int h
    |succ i=>exact kat_one _ _ (lt_int h)
def z8(h:Heap)(v:Value)(ns: ~~~0):Prop:=∃a items,v=.ref a/\IsTup h a items/\IntsAre items.toList ns
theorem z8.keep(x:z8 h v ns)(k:∀b o,h.get? b=some o->h'.get? b=some o):z8 h' v ns:=let ⟨a,aq,e,t,i⟩:=x;⟨a,aq,e,t.keeps k,i⟩
inductive TupIs(h:Heap):List Value->List (~~~0)->Prop
 |nil:TupIs h [] []
 |cons {v:Value}{ns: ~~~0}{vs:List Value}{cH: ~~~5}:z8 h v ns->TupIs h vs cH->TupIs h (v::vs) (ns::cH)
theorem TupIs.keep(k:∀b o,h.get? b=some o->h'.get? b=some o)(t:TupIs h vs cH):TupIs h' vs cH:=by
 induction t with
 |nil=>exact .nil
 |cons a b ih=>exact .cons (a.keep k) ih
theorem TupIs.length(t:TupIs h vs cH):vs.length=cH.length:=by
 induction t with
 |nil=>rfl
 |cons a b ih=>exact congrArg (· + 1) ih
theorem TupIs.at(t:TupIs h vs cH)(hi:i<vs.length):z8 h (vs.getD i .none) (cH.getD i []):=by
 induction t generalizing i with
 |nil=>exact absurd hi (y6 _)
 |cons a b ih=>cases i with
  |zero=>exact a
  |succ i=>exact ih (yB hi)
theorem TupIs.firsts(t:TupIs h vs cH)(fJ:∀ns∈cH,ns≠[]):∃fs:List Value,KatTups h vs fs/\fs.length=vs.length/\∀v∈fs,∃i t,v=.int i t:=by
 induction t with
 |nil=>exact⟨[],.nil,rfl,λ_ z=>nomatch z⟩
 |@cons v ns vs cH a b ih=>
  obtain⟨fs,q1,q2,q3⟩:=ih λns hn=>fJ ns (a8 _ hn)
  obtain⟨a,items,e,⟨o,e1,e2,n,e3⟩,hi⟩:=a;subst e;obtain⟨items⟩:=items;cases items with
  |nil=>
   cases ns with
   |nil=>exact absurd rfl (fJ [] bP)
   |cons _ _=>cases hi
  |cons v items=>
   cases ns with
   |nil=>cases hi
   |cons m ns=>cases hi;exact⟨_::fs,KatTups.cons e1 e2 e3 rfl q1,by rw[i3,i3,q2],λv hv=>(c6.mp hv).elim (λz=>⟨_,_,z⟩) (q3 v)⟩
theorem xr:Looks M h (typeOf (.int i t)) (.type "int"):=.now
theorem qV(hl:s.heap.IsList l vs.toArray\/IsTup s.heap l vs.toArray)(ht:TupIs s.heap vs cH)(fJ:∀ns∈cH,ns≠[])(h64:vs.length<64)
  (h:∀p:List Nat,p.Perm (List.range vs.length)->p.map (λi=>cH.getD i [])=bT fC cH->Q (.ref (s⁻¹+1)) { s with heap:=sortedAll s.heap vs (p.map λi=>vs.getD i Value.none).toArray}) :
  wpAny (model prog w) A (call (.builtin "sorted") [.ref l]) Q E s:=by
 have hz:vs.length<=sizeLine:=by rw[lS];lia
 refine xm hl hz ?_;have aJ:=ht.length;by_cases h2:vs.length<2
 .
  refine z6 (oZ _ _) h2 ⟨rfl,?_⟩;have:=h (List.range vs.length) (nV _) (by
   rw[aJ]
   match cH,aJ with
   | [],_=>rfl
   | [x],_=>rfl
   |_::_::_,hl2=>rw[hl2,i3,i3]at h2;lia)
  rw[fD]at this;exact this
 .
  have keep:∀b o,s.heap.get? b=some o->(cX { s with heap:=Gx s.heap vs} (s⁻¹+1) vs).heap.get? b=some o:=λb o e=>qQ (qR (vs:=vs) e).2 (qR e).1
  have ht':=ht.keep keep;refine z5 (κ:=tuples' true) (O:=fC) (key:=λi=>cH.getD i []) (oZ _ _) ⋯ h64 (λQ' hq=>?_) (λi j C hi hj hC=>?_) λp hp hr=>⟨rfl,?_⟩
  . obtain⟨fs,q1,q2,q3⟩:=ht'.firsts fJ;exact kat_kind (T:=.type "int") q1 ⋯ (λv hv=>by obtain⟨i,t,rfl⟩:=q3 v hv;exact xr) ⋯ hq
  . obtain⟨a,aq,e,⟨o,e1,e2,n,e3⟩,q⟩:=ht'.at hi;obtain⟨b,lX,e',⟨o2,e4,e5,n2,e6⟩,q'⟩:=ht'.at hj;show wpAny _ _ (keyLt' (tuples' true) (vs.getD i Value.none) (vs.getD j Value.none)) C _ _;rw[e,e'];refine kat_lt e1 e3 e4 e6 (z7 q 0 q' ?_ hC);rw[<- q.length,<- q'.length];simp
  . rw[aJ]at hp hr;exact h p.toList (by rw[aJ];exact (At.mp hp).trans ⋯) (qU hp hr)
end
section
def lA:List D->Option (~~~5)
 | []=>some []
 |.tup l::ds=>match cU l,lA ds with |some (n::ns),some cH=>some ((n::ns)::cH) |_,_=>none
 |_::_=>none
inductive jA(K:Frag)(H:Hp):List V->List (~~~0)->Prop
 |nil:jA K H [] []
 |cons {a:Addr}{ns: ~~~0}{vs:List V}{cH: ~~~5}:fU K H a (ns.map V.int)->jA K H vs cH->jA K H (.ref a::vs) (ns::cH)
theorem jA.real(I:L2.Inv X ah Y H s)(t:jA X.K H xs cH):∀{aq:List Value},Vals xs aq->TupIs s.heap aq cH:=by
 induction t with
 |nil=>intro aq r;cases r;exact .nil
 |cons q _ ih=>
  intro aq r;cases r with
  |cons r rs=>cases r;obtain⟨lX,r2,p,_⟩:=I.tuple q;exact .cons ⟨_,_,rfl,p,by simpa using intsAre_of r2⟩ (ih rs)
theorem xu(h:Vals xs us):∀{i:Nat},i<xs.length->RelV (xs.getD i .non) (us.getD i .none):=by
 induction h with
 |nil=>intro i hi;exact absurd hi (y6 _)
 |cons r _ ih=>
  intro i hi;cases i with
  |zero=>exact r
  |succ i=>exact ih (by simpa using hi)
theorem nD(h:Vals xs us):∀{p:List Nat},(∀i∈p,i<xs.length)->Vals (p.map λi=>xs.getD i .non) (p.map λi=>us.getD i .none)
 | [],_=>.nil
 |i::p,hp=>.cons (xu h (hp i bP)) (nD h λj hj=>hp j (a8 _ hj))
theorem pg:cL X (.builtin "sorted") (λxs H Q=>∃p ys cH,xs=[.ref p]/\(bH X.K H p ys\/fU X.K H p ys)/\jA X.K H ys cH/\(∀ns∈cH,ns≠[])/\ys.length<64/\
  ∀q (o:List Nat),H q=none->(∀i∈o,i<ys.length)->o.map (λi=>cH.getD i [])=bT fC cH->Q (.ref q) (upd H q (.lst (o.map λi=>ys.getD i .non)))):=by
 intro ah s Y H xs us Q I r h;obtain⟨p,ys,cH,rfl,hq,ht,fJ,hl,q⟩:=h;obtain⟨u,rfl,rx⟩:=vals1 r;cases rx;have fin:∀aq:List Value,Vals ys aq->(s.heap.IsList p aq.toArray\/IsTup s.heap p aq.toArray)->wpAny (~~~2) X.A (call (.builtin "sorted") [.ref p]) (EP X ah Y Q) X.xe s:=λaq r' pl=>by
  have aJ:=r'.length;refine qV pl (ht.real I r') fJ ⋯ λo ho hs=>?_
  obtain⟨ep,he⟩:=sortedAll_at s.heap aq (o.map λi=>aq.getD i Value.none).toArray
  have hin:∀i∈o,i<ys.length:=λi hi=>by rw[aJ];exact tJ.mp (ho.mem_iff.mp hi)
  have Va:o.length=ys.length:=by rw[ho.length_eq,List.length_range,aJ]
  refine⟨.ref (s⁻¹+1),_,I.laid (λb ob e=>sortedAll_old e) (AE _) ?_,rfl,q _ o (I.hok.fresh (AE _)) hin hs⟩
  refine⟨by rw[eC,lS];lia,_,ep,nD r' hin,he⟩
 rcases hq with hq |hq
 . obtain⟨aq,r',pl,hz⟩:=I.list hq;exact fin aq r' (.inl pl.isList)
 . obtain⟨aq,r',pl,hz⟩:=I.tuple hq;exact fin aq r' (.inr pl)
theorem Gy(e:cU l=some ns):l=ns.map .int:=by
 induction l generalizing ns with
 |nil=>cases e;rfl
 |cons d l ih=>cases d with
  |int i=>
   have e:(match cU l with |some ns=>some (i::ns) |none=>none)=some ns:=e
   cases e2:cU l with
   |none=>rw[e2]at e;cases e
   |some ms=>rw[e2]at e;cases e;rw[List.map_cons,<- ih e2]
  |_=>cases e
theorem xx{K:Frag}{M:List Addr}{H:Hp}{l:List D}{xs:List V}{cH: ~~~5}(q:aG K M H l xs)(e:lA l=some cH):jA K H xs cH/\(∀ns∈cH,ns≠[])/\l=cH.map λns=>.tup (ns.map .int):=by
 induction l generalizing xs cH with
 |nil=>cases q;cases e;exact⟨.nil,λ_ z=>(nomatch z),rfl⟩
 |cons d l ih=>cases q with |cons r q=>cases d with
  |tup m=>
   unfold lA at e;split at e
   .
    rename_i n ns cH e1 e2;cases e;obtain⟨t1,t2,t3⟩:=ih q e2;cases r with
    |tup ha rr=>
     have:=dU rr e1;subst this;refine⟨.cons ha.sq t1,λx hx=>(c6.mp hx).elim (λz=>by rw[z];exact List.cons_ne_nil _ _) (t2 x),?_⟩
     rw[List.map_cons,<- t3,Gy e1]
   . cases e
  |_=>cases e
theorem aG.pick{K:Frag}{M:List Addr}{H:Hp}{ds:List D}{vs:List V}(h:aG K M H ds vs):∀{o:List Nat},(∀i∈o,i<vs.length)->aG K M H (o.map λi=>ds.getD i .non) (o.map λi=>vs.getD i .non)
 | [],_=>.nil
 |i::o,ho=>by
  refine .cons ?_ (h.pick λj hj=>ho j (a8 _ hj))
  have hi:=ho i bP;have hd:i<ds.length:=by rw[h.length];exact hi
  obtain⟨v,e1,e2⟩:=h.get (i:=i) (d:=ds[i]) (by simp[hd])
  have q1:ds.getD i .non=ds[i]:=by simp[hd]
  have q2:vs.getD i .non=v:=by rw[sR,e1];rfl
  show Rep K M H (ds.getD i .non) (vs.getD i .non);rw[q1,q2];exact e2
theorem tD{d:D}{l:List D}{cH: ~~~5}(hK:z.K=X.K)(h:dR d=some l)(hi:lA l=some cH)(hl:cH.length<64):CallD X z (.builtin "sorted") [d] (.new ((bT fC cH).map λns=>.tup (ns.map .int))):=by
 refine⟨_,pg,λg Y L M H vs Q s p k=>?_⟩
 obtain⟨v,rfl,pv⟩:=p.one;have main:∀(a:Addr) (xs:List V),aG z.K M H l xs->(bH X.K H a xs\/fU X.K H a xs)->∃p ys cH,[V.ref a]=[.ref p]/\(bH X.K H p ys\/fU X.K H p ys)/\jA X.K H ys cH/\(∀ns∈cH,ns≠[])/\ys.length<64/\
   ∀q (o:List Nat),H q=none->(∀i∈o,i<ys.length)->o.map (λi=>cH.getD i [])=bT fC cH->Q (.ref q) (upd H q (.lst (o.map λi=>ys.getD i .non))):=λa xs rr hq=>by
  obtain⟨t1,t2,t3⟩:=xx rr hi;have aJ:xs.length=cH.length:=by rw[<- rr.length,t3,eC]
  refine⟨a,xs,cH,rfl,hq,hK▸t1,t2,by lia,λq o hf hin hs=>?_⟩
  have e:((bT fC cH).map λns=>D.tup (ns.map .int))=o.map λi=>l.getD i .non:=by
   rw[<- hs,List.map_map];refine AF λi hi=>?_
   have:i<cH.length:=by rw[<- aJ];exact hin i hi
   rw[t3];simp[this]
  have Z6:=(rr.pick hin).stay (ak.aL (o:=.lst (o.map λi=>xs.getD i .non)) hf)
  refine k _ _ L (q::M) (s.aL hf) (ak.aL hf) ⟨q,_,rfl,bP,λhA=>s.fresh hf (s.sub q hA),s.bE hf,aA,?_⟩
  rw[e];exact Z6
 cases d with
 |lst m=>symm;obtain⟨a,xs,rfl,e1,e2⟩:=pv.list;exact main a xs e2 (.inl (bH.of e1))
 |tup m=>symm;obtain⟨a,xs,rfl,e1,e2⟩:=pv.tup;exact main a xs e2 (.inr (hK▸e1.sq))
 |fix m=>symm;obtain⟨a,xs,rfl,e1,e2⟩:=pv.fix;exact main a xs e2 (.inl (hK▸e1.sq))
 |_=>symm
end
open L2 PySem.W
open L2 PySem.W
open L2 PySem.W SeqAt
open L2 PySem.W SeqAt
open L2 PySem.W SeqAt
open L2 PySem.W SeqAt
section
theorem fV.of (h:∀(ah: ~~~1) (s:Shared) (Y:Sg) (L M:List Addr) (H:Hp) (Post:Value->Shared->Prop),L2.Inv X ah Y H s->S z g Y L M H->
  (∀v s1,(∀(R:It->Hp->Prop),(∀J H' aC M',S z g1 Y aC M' H'->ak M H M' H'->Jt J items z.K M' H'->R J H')->wpAny (~~~2) X.A (pyIter v) (PIE X ah Y tg R) X.xe s1)->Post v s1)->wpAny (~~~2) X.A (eval iter X.env) Post X.xe s):fV X z tg iter g items g1:=
 ⟨λY H R=>∃L M,S z g Y L M H/\(∀J H' aC M',S z g1 Y aC M' H'->ak M H M' H'->Jt J items z.K M' H'->R J H'),by rintro ah s Y H R I ⟨L,M,st,k⟩;exact h ah s Y L M H _ I st λv s1 q=>q R k,λY L M H R s k=>⟨L,M,s,k⟩⟩
end
open L2 PySem.W SeqAt
section
theorem tE(hit:s.heap.IsTupleIter it t i)(ht:s.heap.IsTuple t items)(hx:items[i]?=some x)(hQ:∀h',h'.IsTupleIter it t (i+1)->Heap.SameBut it s.heap h'->Q x { s with heap:=h'}):wpAny (model prog w) A (Builtin.SmallTypes.nextOf (.ref it)) Q E s:=by obtain⟨o,ho,hc,hd⟩:=id hit;obtain⟨ol,Va,_,nl,hdl⟩:=ht;refine aS (oC hit.typeIs t9 (sB t9 hit.typeIs F.entry_tuple_iterator_next ?_ (F.args_tuple_iterator_next_1 _)));show wpAny _ _ (field (.ref it) 0 >>= _) _ _ s;refine aS (nS ho hd rfl ?_);refine aS (nS ho hd rfl ?_);refine aS (wE Va hdl ?_);simp only[wT,hx];refine aS (wpAny_setField ho hd ⋯ (c8 ⟨x,rfl,c8 (hQ _ ⟨_,Heap.get?_update_self _ ho (Obj.isFreed_of_fields (Obj.data_mapFields hd _)),(Obj.cls_mapFields ..).trans hc,?_⟩ (Heap.SameBut.update ..))⟩));rw[Obj.data_mapFields hd];simp[rawInt]
theorem mq(hh:A.handled=none)(hit:s.heap.IsTupleIter it t i)(ht:s.heap.IsTuple t items)(hx:items[i]?=none)
  (hE:∀h' e,Heap.ExtBut it s.heap h'->(∃o,h'.get? e=some o/\o.cls=.type "StopIteration")->E (.ref e) { s with heap:=h'}):wpAny (model prog w) A (Builtin.SmallTypes.nextOf (.ref it)) Q E s:=by
 obtain⟨o,ho,hc,hd⟩:=id hit;obtain⟨ol,Va,_,nl,hdl⟩:=ht;refine aS (oC hit.typeIs t9 (sB t9 hit.typeIs F.entry_tuple_iterator_next ?_ (F.args_tuple_iterator_next_1 _)));show wpAny _ _ (field (.ref it) 0 >>= _) _ _ s;refine aS (nS ho hd rfl ?_);refine aS (nS ho hd rfl ?_);refine aS (wE Va hdl ?_);simp only[wT,hx];refine aS (wpAny_rule (aS (wpAny_setField ho hd ⋯ ?_)));refine aS ?_;refine aS (lL (aS (wpAny_of_eq (by first |rfl | (simp only[firstArgMember];rfl)) (lL ?_ (by size_fits)))) (by size_fits))
 refine aS (wpAny_handled ?_)
 first |rw[show A.in1.handled=none from hh] |rw[hh]
 exact aS (c8 (wpAny_throw (hE _ _ (((Heap.SameBut.update ..).extBut.push _).push _) ⟨_,d0 _ rfl,rfl⟩)))
theorem MJ(hh:A.handled=none)(it t:Addr)(fJ:t≠it)(items:Array Value):Draws prog w A it [it,t] items.size (λi v=>items[i]?=some v) (λi h=>h.IsTupleIter it t i/\h.IsTuple t items) where
 live:=λ_ _ st=>let ⟨o,ho,_⟩:=st.1;⟨o,ho⟩
 frame:=λ_ _ _ st hk=>by
  obtain⟨⟨o,ho,r⟩,⟨o',ho',r'⟩⟩:=st;exact⟨⟨o,hk it ⋯ o ho,r⟩,⟨o',hk t ⋯ o' ho',r'⟩⟩
 item:=λi s Q E hi st hQ=>tE st.1 st.2 (x:=items[i]) (by simp[hi]) λh' W4 hs'=>hQ _ h' s.toks (by simp[hi]) ⟨W4,IsTup.extBut st.2 hs'.extBut fJ⟩ hs'
 done:=λs Q E st hE=>mq hh st.1 st.2 ⋯ hE
end
open L2 PySem.W SeqAt
def p8(tp:Bool)(K:Frag)(H:Hp)(a:Addr)(xs:List V):Prop:=match tp with |true=>fU K H a xs |false=>bH K H a xs
def DG(tp:Bool)(h:Heap)(it a:Addr)(i:Nat):Prop:=match tp with |true=>h.IsTupleIter it a i |false=>h.IsListIter it a i
def Vb(tp:Bool)(h:Heap)(a:Addr)(aq:List Value):Prop:=match tp with |true=>h.IsTuple a aq.toArray |false=>h.IsList a aq.toArray
section
theorem p8.real(I:L2.Inv X ah Y H s)(h:p8 tp X.K H a xs):∃aq:List Value,Vals xs aq/\Vb tp s.heap a aq/\xs.length<=sizeLine:=by
 cases tp with
 |true=>exact I.tuple h
 |false=>obtain⟨aq,r,pl,hz⟩:=I.list h;exact⟨aq,r,pl.isList,hz⟩
theorem p8.inj(I:L2.Inv X ah Y H s)(h:p8 tp X.K H a xs)(h':p8 tp X.K H a ys):xs=ys:=by
 cases tp with
 |true=>exact I.mJ h h'
 |false=>exact I.qi h h'
theorem DG.obj(x:DG tp h it a i):∃o vs,h.get? it=some o/\o.data=.fields vs:=by
 cases tp with
 |true=>obtain⟨o,e,_,d⟩:=(show h.IsTupleIter it a i from x);exact⟨o,_,e,d⟩
 |false=>obtain⟨o,e,_,d⟩:=(show h.IsListIter it a i from x);exact⟨o,_,e,d⟩
theorem DG.keep(x:DG tp h it a i)(k:∀o,h.get? it=some o->h'.get? it=some o):DG tp h' it a i:=by
 cases tp with
 |true=>obtain⟨o,e,d⟩:=(show h.IsTupleIter it a i from x);exact⟨o,k o e,d⟩
 |false=>obtain⟨o,e,d⟩:=(show h.IsListIter it a i from x);exact⟨o,k o e,d⟩
theorem pq(hh:A.handled=none)(fJ:a≠it)(aq:List Value):Draws prog w A it [it,a] aq.length (λi v=>aq[i]?=some v) (λi h=>DG tp h it a i/\Vb tp h a aq):=by
 cases tp with
 |true=>have:=MJ (prog:=prog) (w:=w) hh it a fJ aq.toArray;simp only[List.getElem?_toArray]at this;exact this
 |false=>have:=Draws.list (prog:=prog) (w:=w) hh it a fJ aq.toArray;simp only[List.getElem?_toArray]at this;exact this
end
open L2 PySem.W SeqAt
section
theorem MK(hc:X.calm=true)(hN:X.N.Nodup)(hi:X.N[i]?=some x)(hj:X.N[j]?=some y)(hij:i≠j)(hx:X.env.scope.names.lookup x=some .local)(hy:X.env.scope.names.lookup y=some .local)
  (ha:cJ X z [a,b] g [.dat d1,.dat d2] g1) (hbi:i∉z.bor) (W5:j∉z.bor) (hw:swappedStores [.Tuple [.Name x px,.Name y py] kt pt] (.Tuple [a,b] k2 Kp) X.env=pure (some [x,y])) (hs:swapsWithSole [.Tuple [.Name x px,.Name y py] kt pt] (.Tuple [a,b] k2 Kp) pos.line X.env=pure false) :
  gH X z (.Assign [.Tuple [.Name x px,.Name y py] kt pt] (.Tuple [a,b] k2 Kp) pos) g .nx ((g1.set i (.dat d1)).set j (.dat d2)):=by
 obtain⟨t,q,k⟩:=ha;refine⟨_,Ko hc hN hi hj hij hx hy q hw hs,λY L M H E s kk=>k Y L M H _ s λvs H' aC M' s' st R=>?_⟩
 cases R with
 |dat r R=>
  cases R with
  |dat r' R=>cases R;obtain⟨bq,s2⟩:=s'.eH (i:=i) hbi r;obtain⟨iR,s3⟩:=s2.eH (i:=j) W5 r';exact⟨_,_,rfl,kk _ iR M' H' s3 st⟩
end
end Ev
namespace HT
open PySem PyProof.Rows
section
theorem tF(n:Nat):Builtin.Slice.slicePlaces ((n:Int) - 1) (-1) (-1)=n:=by unfold Builtin.Slice.slicePlaces;split <;> lia
theorem iZ{sl:Addr}{vs:Value}{n:Nat}{Q:Int×Int×Nat->Shared->Prop}(hs:s.heap.IsSliceOf sl .none .none vs)(ps:IsPart vs (some (-1)))
  (h:Q ((n:Int) - 1,-1,n) s):wpAny (model prog w) A (Builtin.Slice.sliceApplied (.ref sl) (pure (n:Int))) Q E s:=by
 obtain⟨os,hos,hcs,hds⟩:=id hs;refine aS (aS (nS hos hds rfl (aS (nS hos hds rfl (aS (nS hos hds rfl (c8 ?_)))))));refine aS (gA ps ?_);refine aS (slicePart_none (aS (slicePart_none (aS (c8 ?_)))));show wpAny _ _ (match Builtin.Slice.sliceAdjust none none (-1) (n:Int)with | (lo,hi)=>pure (lo,(-1:Int),Builtin.Slice.slicePlaces lo hi (-1))) _ _ s
 show wpAny _ _ (pure ((n:Int) - 1,(-1:Int),Builtin.Slice.slicePlaces ((n:Int) - 1) (-1) (-1))) _ _ s;rw[tF];exact c8 h
theorem z9(xs:Array Value):((List.range xs.size).filterMap λ(m:Nat)=>xs[(((xs.size:Int) - 1)+(m:Int) * -1).toNat]?).toArray=xs.toList.reverse.toArray:=by
 have e:(λ(m:Nat)=>xs[(((xs.size:Int) - 1)+(m:Int) * -1).toNat]?)=λm=>xs[xs.size - 1 - m]?:=by
  funext m
  congr 1
  lia
 rw[e];have e2:(List.range xs.size).filterMap (λm=>xs[xs.size - 1 - m]?)=((List.range xs.size).map λk=>xs.size - 1 - k).filterMap (xs[·]?):=by rw[List.filterMap_map];rfl
 rw[e2,PySem.W.krv_range,List.filterMap_reverse,PySem.W.krv_all]
theorem iF(ht:IsTup s.heap t items)(hs:s.heap.IsSliceOf sl .none .none vs)(ps:IsPart vs (some (-1)))
  (h:Q (.ref s⁻¹) { s with heap:=s.heap.push { cls:=.type "tuple",data:=.seq items.toList.reverse.toArray}})
  (uC:items.size<=sizeLine):wpAny (model prog w) A (getItem (.ref t) (.ref sl)) Q E s:=by
 have ie:sizeOk (.seq items.toList.reverse.toArray):=by show items.toList.reverse.toArray.size<=sizeLine;rw[b0,xL];exact uC
 obtain⟨os,hos,hcs,hds⟩:=id hs;have Rg:s.TypeIs (.ref sl) "slice" :=⟨os,hos,hcs⟩;unfold getItem
 try with_reducible refine i9 ?_
 first |refine aS (c8 ?_) |skip
 refine aS (wpAny_sequenceKey ht.typeIs ⋯ ?_);refine aS (oC ht.typeIs mB
  (sB mB ht.typeIs entry_tuple_getitem ?_ (args_tuple_getitem _ _)))
 show wpAny _ _ (Builtin.Tuple.tupleItemsOf (.ref t) >>= _) _ _ s;refine aS (tupleItemsOf_ ht ?_);refine aS (BM Rg ?_);refine aS (iZ hs ps ?_);show wpAny _ _ (if ((items.size:Int) - 1==0&&(-1:Int)==1&&items.size==items.size)=true then _ else _) _ _ s
 rw[fI (by intro q;rw[eM,eM]at q;exact absurd (eq_of_beq q.1.2) ⋯),z9]
 first
  |exact aS (lL (c8 ⟨_,rfl,c8 h⟩) ie)
  |exact aS (lL (aS (c8 (c8 ⟨_,rfl,c8 h⟩))) ie)
  |exact aS (aS (lL (c8 (c8 ⟨_,rfl,c8 h⟩)) ie))
  |exact aS (aS (lL (c8 ⟨_,rfl,c8 h⟩) ie))
end
end HT
namespace Ev
open L2
section
noncomputable abbrev m1(j:Nat)(p1 p3:Pos):Expr:=.UnaryOp .USub (.Constant (.int 1) j p1) p3
theorem tG{e:Expr}{te:TE}{r:V->Hp->VK->Prop}(he:PE X e te)
  (hr:∀(ah: ~~~1) (s:Shared) (Y:L2.St) (H:Hp) (x:V) (v vs:Value) (sl:Addr) (Q:VK),L2.Inv X ah Y H s->RelV x v->s.heap.IsSliceOf sl .none .none vs->IsPart vs (some (-1))->r x H Q->
   ∃T id,typeLookup (.type T) "__getitem__"=pure (some (.builtin id))/\s.TypeIs v T/\wpAny (~~~2) X.A (getItem v (.ref sl)) (EP X ah Y Q) X.xe s)
  (pm:∀(ah: ~~~1) (s:Shared) (Y:L2.St) (H:Hp),L2.Inv X ah Y H s->wpAny (~~~2) X.A (eval (m1 j p1 p3) X.env) (λu s'=>L2.Inv X ah Y H s'/\IsPart u (some (-1))) X.xe s) :
  PE X (.Subscript e (.Slice none none (some (m1 j p1 p3)) p2) pos) (λY H Q=>te Y H λx H1=>r x H1 Q):=by
 intro ah s Y H Q I h;refine Subscript_ (bG (he ah s Y H _ I h) ?_);rintro v s1 ⟨x,H1,I1,r1,q1⟩;refine wpAny_Slice ?_;refine c8 (c8 ?_);refine PySem.evalPart_some_step (bG (pm ah s1 Y H1 I1) ?_);rintro u s2 ⟨I2,pu⟩;have I4:L2.Inv X ah Y H1 { s2 with heap:=s2.heap.push { cls:=.type "slice",data:=.fields #[.none,.none,u]}}:=I2.kept λb ob q=>a9 _ q
 obtain⟨T,id,hT,ht,hg⟩:=hr ah { s2 with heap:=s2.heap.push { cls:=.type "slice",data:=.fields #[.none,.none,u]}} Y H1 x v u s2⁻¹ Q I4 r1 (Heap.IsSliceOf.new ..) pu q1;exact tail_any ht hT hg (by with_unfolding_all rfl)
theorem W6(ah: ~~~1)(s:Shared)(Y:L2.St)(H:Hp)(I:L2.Inv X ah Y H s):wpAny (~~~2) X.A (eval (m1 j p1 p3) X.env) (λu s'=>L2.Inv X ah Y H s'/\IsPart u (some (-1))) X.xe s:=
 bG ((yM sI (gw)) ah s Y H (λv H'=>v=.int (-1)/\H'=H) I ⟨1,rfl,rfl,rfl⟩) (by
  rintro u s' ⟨v,H',I',r,e1,e2⟩;subst e1 e2;obtain⟨t,rfl⟩:=r;exact⟨I',.int _ t⟩)
theorem Gz{r:R}{l:List D}(hK:z.K=X.K)(h:au X z a g r g1)(hp:pk r g1=some (.lst l)):au X z (.Subscript a (.Slice none none (some (m1 j p1 p3)) p2) pos) g (.new l.reverse) g1:=by
 obtain⟨t,q,k⟩:=h;refine⟨_,tG (r:=λx H Q=>∃b xs,x=.ref b/\bH X.K H b xs/\∀p,H p=none->Q (.ref p) (upd H p (.lst xs.reverse))) q (λah s Y H x v vs sl Q I rx hs ps hx=>?_) W6,λY L M H Q s kk=>k Y L M H _ s λv H1 aR M1 s1 bN R=>?_⟩
 .
  obtain⟨b,xs,rfl,hx,hq⟩:=hx;cases rx;obtain⟨aq,r,ht,hz⟩:=I.list hx;have aJ:=r.length;refine⟨"list",_,slot_list_getitem.lookup,ht.isList.typeIs,?_⟩;refine wpAny_getItem_list_slice ht.isList hs .none .none ps ⋯ ?_ (by rw[b0,<- aJ];exact hz)
  rw[PySem.W.krv_pick];refine⟨.ref s⁻¹,_,I.laid (λb ob q=>a9 _ q) (dC _) ?_,rfl,hq _ (I.hok.fresh (dC _))⟩
  exact⟨by rw[xL];exact hz,aq.reverse,0,r.reverse,d0 _ rfl⟩
 .
  obtain⟨b,xs,rfl,e1,e2⟩:=(s1.pk (ak.refl _ _) R hp).list;refine⟨b,xs,rfl,bH.of e1,λp hp=>?_⟩
  exact kk _ _ aR (p::M1) (s1.aL hp) (bN.trans (ak.aL hp)) ⟨p,xs.reverse,rfl,bP,λhA=>s1.fresh hp (s1.sub p hA),s1.bE hp,aA,e2.reverse.stay (ak.aL hp)⟩
theorem GC{l:List D}(hK:z.K=X.K)(h:au X z a g (.dat (.tup l)) g1):au X z (.Subscript a (.Slice none none (some (m1 j p1 p3)) p2) pos) g (.dat (.tup l.reverse)) g1:=by
 obtain⟨t,q,k⟩:=h;refine⟨_,tG (r:=λx H Q=>∃b xs,x=.ref b/\fU X.K H b xs/\∀p,H p=none->Q (.ref p) (upd H p (.tup xs.reverse))) q (λah s Y H x v vs sl Q I rx hs ps hx=>?_) W6,λY L M H Q s kk=>k Y L M H _ s λv H1 aR M1 s1 bN R=>?_⟩
 .
  obtain⟨b,xs,rfl,hx,hq⟩:=hx;cases rx;obtain⟨aq,r,ht,hz⟩:=I.tuple hx;have aJ:=r.length;refine⟨"tuple",_,PyProof.Rows.slot_tuple_getitem.lookup,ht.typeIs,?_⟩;refine HT.iF ht hs ps ?_ (by rw[b0,<- aJ];exact hz)
  refine⟨.ref s⁻¹,_,I.laid (λb ob q=>a9 _ q) (dC _) ?_,rfl,hq _ (I.hok.fresh (dC _))⟩
  exact⟨by rw[xL];exact hz,aq.reverse,r.reverse,dB.new _ _⟩
 .
  cases R with
  |@tup _ b xs e1 e2=>exact⟨b,xs,rfl,hK▸e1.sq,λp hp=>kk _ _ aR M1 (s1.laid hp) (bN.trans (ak.laid hp)) (.tup (.inl ⟨s1.fresh hp,.inl aA⟩) (e2.reverse.stay (ak.laid hp)))⟩
theorem MN:au X z (.Dict [] [] pos) g (.dat .emp) g:=by
 refine⟨λY H Q=>∀p,H p=none->Q (.ref p) (upd H p (.dK [])),λah s Y H Q I h=>wpAny_Dict_empty ⟨.ref s⁻¹,_,I.laid (λb ob q=>a9 _ q) (dC _) ?_,rfl,h _ (I.hok.fresh (dC _))⟩,λY L M H Q s k p hp=>k _ _ L M (s.laid hp) (ak.laid hp) (.emp (s.fresh hp) aA)⟩
 refine⟨t7 _,?_,[],?_,Heap.DictOf.new _⟩
 .
  have h1:=(I.ok.mod.glob.keeps I.bk).lt;refine Bool.eq_false_iff.mpr λq=>?_
  have q:=eq_of_beq q;rw[q]at h1;exact absurd h1 ⋯
 . exact .nil
end
open L2 PySem.W SeqAt
section
structure P9(r tI tO i j a b:Addr):Prop where
 n1:tI≠r/\tO≠r/\i≠r/\j≠r/\a≠r/\b≠r
 n2:tI≠tO/\i≠tO/\j≠tO/\a≠tO/\b≠tO
 n3:tI≠i/\tI≠j/\i≠j
 n4:a≠i/\b≠i/\a≠j/\b≠j
section
theorem Aa{Q:Value->Shared->Prop}(N:P9 r tI tO i j a b)(D1:Draws prog w A i [i,a] n f S1)(D2:Draws prog w A j [j,b] m g S2)(hk1:k<n)(hk2:k<m)
  (er:IsZip s.heap r tI tO .none) (eI:IsPair s.heap tI (.ref i) (.ref j)) (eO:IsPair s.heap tO c d) (t1:S1 k s.heap) (t2:S2 k s.heap)
  (hQ:∀u v h' tk,f k u->g k v->IsZip h' r tI tO (rawInt s⁻¹)->IsPair h' tO u v->S1 (k+1) h'->S2 (k+1) h'->IsPair h' s⁻¹ u v->h'.objs.size=s⁻¹+1->
   (∀x o,x≠r->x≠tO->x≠i->x≠j->s.heap.get? x=some o->h'.get? x=some o)->Q (.ref s⁻¹) { s with heap:=h',toks:=tk}) :
  wpAny (model prog w) A (Builtin.«zip.__next__» ⟨[.ref r],[]⟩) (λfin s'=>∃v,fin=.done (.ret v)/\Q v s') E s:=by
 obtain⟨⟨p1,p2,p3,p4,p5,p6⟩,⟨q1,q2,q3,q4,q5⟩,⟨u1,u2,u3⟩,⟨v1,v2,v3,v4⟩⟩:=N;refine aS (m:=field (.ref r) 2) (nS er rfl rfl ?_);refine aS (nS er rfl rfl (aS (wE eI rfl ?_)));refine aS ?_;refine aS (nS er rfl rfl (c8 ?_));refine aS (wpAny_rule (aS (nS er rfl rfl (aS (v0 er ⋯ λha DK ka=>?_)))))
 replace DK:IsZip ha r tI tO .ellipsis:=DK;refine aS ?_;have Vc:=D1.frame k _ _ t1 λx hx o e=>(ka.2 x (by rcases c6.mp hx with z |z;exact z▸p3;exact (dE.mp z)▸p5)).trans e
 have W7:=D2.frame k _ _ t2 λx hx o e=>(ka.2 x (by rcases c6.mp hx with z |z;exact z▸p4;exact (dE.mp z)▸p6)).trans e
 refine aS (aS (Bn (aS (D1.item k { s with heap:=ha} _ _ hk1 Vc λu hb Vd fu Yy kb=>c8 ?_))))
 have Si:=(kb.2 _ (oS q2)).trans ((ka.2 _ p2).trans eO);refine aS (wE Si rfl (aS (wpAny_updateSeq_pair Si λhc Ve kc=>?_)))
 replace Ve:IsPair hc tO u d:=Ve;refine aS (wpAny_letGo (c8 ?_));have Z7:=D1.frame _ _ _ Yy λx hx o e=>(kc.2 x (by rcases c6.mp hx with z |z;exact z▸q2;exact (dE.mp z)▸q4)).trans e
 have W8:=D2.frame k _ _ W7 λx hx o e=>by
  have hx:x=j\/x=b:=by rcases c6.mp hx with z |z;exact .inl z;exact .inr (dE.mp z)
  rw[kc.2 x (by rcases hx with rfl |rfl;exact q3;exact q5),kb.2 x (by rcases hx with rfl |rfl;exact oS u3;exact v2)]
  exact e
 refine aS (aS (Bn (aS (D2.item k { s with heap:=hc,toks:=Vd} _ _ hk2 W8 λv hd Z8 gv Z9 kd=>c8 ?_))))
 have Yz:=(kd.2 _ (oS q3)).trans Ve;refine aS (wE Yz rfl (aS (wpAny_updateSeq_pair Yz λhe Vf ke=>?_)))
 replace Vf:IsPair he tO u v:=Vf;refine aS (wpAny_letGo (c8 (c8 ?_)));refine aS (wE Vf rfl (aS (wpAny_newTuple ?_)));have sz:he.objs.size=s⁻¹:=by rw[ke.1,kd.1,kc.1,kb.1];exact ka.1
 have YB:IsZip he r tI tO .ellipsis:=by show he.get? r=_;rw[ke.2 _ (oS p2),kd.2 _ (oS p4),kc.2 _ (oS p2),kb.2 _ (oS p3)];exact DK
 have old:∀x o,x≠r->x≠tO->x≠i->x≠j->s.heap.get? x=some o->he.get? x=some o:=λx o x1 x2 x3 x4 e=>by
  rw[ke.2 _ x2,kd.2 _ x4,kc.2 _ x2,kb.2 _ x3];exact (ka.2 _ x1).trans e
 have t1e:=D1.frame _ _ _ Z7 λx hx o e=>by
  have hx:x=i\/x=a:=by rcases c6.mp hx with z |z;exact .inl z;exact .inr (dE.mp z)
  rw[ke.2 x (by rcases hx with rfl |rfl;exact q2;exact q4),kd.2 x (by rcases hx with rfl |rfl;exact u3;exact v3)]
  exact e
 have t2e:=D2.frame _ _ _ Z9 λx hx o e=>(ke.2 x (by rcases c6.mp hx with z |z;exact z▸q3;exact (dE.mp z)▸q5)).trans e
 refine aS ?_;have erf:IsZip (he.push { cls:=.type "tuple",data:=.seq #[u,v]}) r tI tO .ellipsis:=a9 _ YB;refine aS (v0 erf ⋯ λhg W9 kg=>?_)
 replace W9:IsZip hg r tI tO (rawInt he.objs.size):=W9;refine v0 W9 ⋯ λhh Vg kh=>?_
 replace Vg:IsZip hh r tI tO (rawInt he.objs.size):=Vg;have up:∀x o,x≠r->he.get? x=some o->hh.get? x=some o:=λx o x1 e=>by rw[kh.2 _ x1,kg.2 _ x1];exact a9 _ e
 have YC:=eJ YB;have new:IsPair hh he.objs.size u v:=by show hh.get? _=_;rw[kh.2 _ (BI YC),kg.2 _ (BI YC)];exact d0 _ rfl
 have YD:hh.objs.size=he.objs.size+1:=by rw[kh.1,kg.1,x5]
 have fr1:∀x o,x=i\/x=a->he.get? x=some o->hh.get? x=some o:=λx o hx e=>up x o (by rcases hx with rfl |rfl;exact p3;exact p5) e
 have fr2:∀x o,x=j\/x=b->he.get? x=some o->hh.get? x=some o:=λx o hx e=>up x o (by rcases hx with rfl |rfl;exact p4;exact p6) e
 rw[sz]at Vg new YD;refine c8 ⟨_,rfl,?_⟩;rw[sz];exact hQ u v hh Z8 fu gv Vg (up _ _ p2 Vf) (D1.frame _ _ _ t1e λx hx o e=>fr1 x o (by rcases c6.mp hx with z |z;exact .inl z;exact .inr (dE.mp z)) e)
  (D2.frame _ _ _ t2e λx hx o e=>fr2 x o (by rcases c6.mp hx with z |z;exact .inl z;exact .inr (dE.mp z)) e) new YD λx o x1 x2 x3 x4 e=>up x o x1 (old x o x1 x2 x3 x4 e)
theorem GD(N:P9 r tI tO i j a b)(D1:Draws prog w A i [i,a] n f S1)(D2:Draws prog w A j [j,b] m g S2)(hk:k=n\/(k<n/\k=m))
  (er:IsZip s.heap r tI tO .none) (eI:IsPair s.heap tI (.ref i) (.ref j)) (eO:IsPair s.heap tO c d) (t1:S1 k s.heap) (t2:S2 k s.heap)
  (hE:∀h' e tk,(∀x o,x≠r->x≠tO->x≠i->x≠j->s.heap.get? x=some o->h'.get? x=some o)->(∃o,h'.get? e=some o/\o.cls=.type "StopIteration")->E (.ref e) { s with heap:=h',toks:=tk}) :
  wpAny (model prog w) A (Builtin.«zip.__next__» ⟨[.ref r],[]⟩) Q E s:=by
 obtain⟨⟨p1,p2,p3,p4,p5,p6⟩,⟨q1,q2,q3,q4,q5⟩,⟨u1,u2,u3⟩,⟨v1,v2,v3,v4⟩⟩:=N;refine aS (m:=field (.ref r) 2) (nS er rfl rfl ?_);refine aS (nS er rfl rfl (aS (wE eI rfl ?_)));refine aS ?_;refine aS (nS er rfl rfl (c8 ?_));refine aS (wpAny_rule (aS (nS er rfl rfl (aS (v0 er ⋯ λha DK ka=>?_)))))
 replace DK:IsZip ha r tI tO .ellipsis:=DK;refine aS ?_;have Vc:=D1.frame k _ _ t1 λx hx o e=>(ka.2 x (by rcases c6.mp hx with z |z;exact z▸p3;exact (dE.mp z)▸p5)).trans e
 have W7:=D2.frame k _ _ t2 λx hx o e=>(ka.2 x (by rcases c6.mp hx with z |z;exact z▸p4;exact (dE.mp z)▸p6)).trans e
 have stop:∀(hb:Heap) (e:Addr) (tk:Nat),IsZip hb r tI tO .ellipsis->(∃o,hb.get? e=some o/\o.cls=.type "StopIteration")->e≠r:=by rintro hb e tk z ⟨o,h1,h2⟩ q;rw[q,z]at h1;cases h1;exact absurd (show Value.type "zip"=.type "StopIteration" from h2) ⋯
 rcases hk with rfl |⟨hk1,rfl⟩
 .
  refine aS (aS (Bn (aS (D1.done { s with heap:=ha} _ _ Vc λhb e kb ex=>?_))))
  have YF:=kb _ _ (oS p3) DK;have Xa:=stop hb e s.toks YF ex;obtain⟨oe,x1,x2⟩:=ex;refine v0 YF ⋯ λhc _ kc=>?_
  exact hE hc e s.toks (λx o y1 y2 y3 y4 z=>(kc.2 _ y1).trans (kb _ _ y3 ((ka.2 _ y1).trans z))) ⟨oe,(kc.2 _ Xa).trans x1,x2⟩
 .
  refine aS (aS (Bn (aS (D1.item k { s with heap:=ha} _ _ hk1 Vc λu hb Vd fu Yy kb=>c8 ?_))))
  have Si:=(kb.2 _ (oS q2)).trans ((ka.2 _ p2).trans eO);refine aS (wE Si rfl (aS (wpAny_updateSeq_pair Si λhc Ve kc=>?_)))
  refine aS (wpAny_letGo (c8 ?_));have W8:=D2.frame k _ _ W7 λx hx o e=>by
   have hx:x=j\/x=b:=by rcases c6.mp hx with z |z;exact .inl z;exact .inr (dE.mp z)
   rw[kc.2 x (by rcases hx with rfl |rfl;exact q3;exact q5),kb.2 x (by rcases hx with rfl |rfl;exact oS u3;exact v2)]
   exact e
  refine aS (aS (Bn (aS (D2.done { s with heap:=hc,toks:=Vd} _ _ W8 λhd e kd ex=>?_))))
  have YG:=kd _ _ (oS p4) (by rw[kc.2 _ (oS p2),kb.2 _ (oS p3)];exact DK)
  have Xa:=stop hd e s.toks YG ex;obtain⟨oe,x1,x2⟩:=ex;refine v0 YG ⋯ λhe _ ke=>?_
  exact hE he e Vd (λx o y1 y2 y3 y4 z=>(ke.2 _ y1).trans (kd _ _ y4 (by rw[kc.2 _ y2,kb.2 _ y3];exact (ka.2 _ y1).trans z))) ⟨oe,(ke.2 _ Xa).trans x1,x2⟩
end
section
theorem Ad{Q:Option Value->Shared->Prop}(N:P9 r tI tO i j a b)(D1:Draws prog w A.in1 i [i,a] n f S1)(D2:Draws prog w A.in1 j [j,b] m g S2)(hk1:k<n)(hk2:k<m)
  (er:IsZip s.heap r tI tO .none) (eI:IsPair s.heap tI (.ref i) (.ref j)) (eO:IsPair s.heap tO c d) (t1:S1 k s.heap) (t2:S2 k s.heap)
  (hQ:∀u v h' tk,f k u->g k v->IsZip h' r tI tO (rawInt s⁻¹)->IsPair h' tO u v->S1 (k+1) h'->S2 (k+1) h'->IsPair h' s⁻¹ u v->h'.objs.size=s⁻¹+1->
   (∀x o,x≠r->x≠tO->x≠i->x≠j->s.heap.get? x=some o->h'.get? x=some o)->Q (some (.ref s⁻¹)) { s with heap:=h',toks:=tk}):wpAny (model prog w) A (pyNext (.ref r)) Q E s:=by
 have ty:s.TypeIs (.ref r) "zip" :=⟨_,er,rfl⟩;exact aS (wpAny_attempt (oC ty F.slot_zip_next (sB F.slot_zip_next ty F.entry_zip_next
  (Aa N D1 D2 hk1 hk2 er eI eO t1 t2 λu v h' tk b1 b2 b3 b4 b5 b6 b7 b8 b9=>c8 (hQ u v h' tk b1 b2 b3 b4 b5 b6 b7 b8 b9)) (F.args_zip_next_1 _))))
theorem qW(N:P9 r tI tO i j a b)(D1:Draws prog w A.in1 i [i,a] n f S1)(D2:Draws prog w A.in1 j [j,b] m g S2)(hk:k=n\/(k<n/\k=m))
  (er:IsZip s.heap r tI tO .none) (eI:IsPair s.heap tI (.ref i) (.ref j)) (eO:IsPair s.heap tO c d) (t1:S1 k s.heap) (t2:S2 k s.heap)
  (hQ:∀h' tk,(∀x o,x≠r->x≠tO->x≠i->x≠j->s.heap.get? x=some o->h'.get? x=some o)->Q none { s with heap:=h',toks:=tk}):wpAny (model prog w) A (pyNext (.ref r)) Q E s:=by
 have ty:s.TypeIs (.ref r) "zip" :=⟨_,er,rfl⟩;refine aS (wpAny_attempt (oC ty F.slot_zip_next (sB F.slot_zip_next ty F.entry_zip_next
  (GD N D1 D2 hk er eI eO t1 t2 λh' e tk kp ex=>?_) (F.args_zip_next_1 _))))
 obtain⟨o,x1,x2⟩:=ex;exact aS (wpAny_isInstance ⟨o,x1,x2⟩ isSubtype_stop (c8 (hQ _ tk kp)))
end
end
open L2 PySem.W SeqAt
section
theorem Inv.MP{h':Heap}{t':Nat}{ch:List Addr}(I:L2.Inv X ah Y H s)(hf:∀b∈ch,gZ X ah H b)(k:∀b o,b∉ch->s.heap.get? b=some o->h'.get? b=some o):L2.Inv X ah Y H { s with heap:=h',toks:=t'}:=by
 have nH:∀b u,H b=some u->b∉ch:=λb u e z=>by rw[(hf b z).1]at e;cases e
 refine I.step (λb hb=>?_) (λb o _ _ hc e _=>k b o hc e) (λb o _ _ hc e _=>⟨o.slots,k b o hc e⟩) (λ_ _ _ _ n=>n) (λb o hc e=>⟨o,k b o hc e⟩) (λ_ _ e=>e) (λ_ _ _ e=>e) (λb ps e=>⟨#[],by rw[e];simp⟩) (λm hm=>?_) (λb u e=>?_) I.bare
 . obtain⟨f0,f1,f2,f3,f4,f5⟩:=hf b hb;exact⟨f3,f1,f4,f5⟩
 . obtain⟨o,es,ep,ho,rr⟩:=hm;exact⟨o,es,ep,k _ o (λz=>(hf _ z).2.1 rfl) ho,rr⟩
 .
  refine (I.hok b u e).stay (λc w hc q=>k c w (λz=>?_) q) (λ_ q=>q) λ_ _ q=>q
  rcases hc with rfl |hc
  . exact nH _ _ e z
  . exact nH _ _ hc z
theorem Inv.MT{h':Heap}{t':Nat}{ch:List Addr}{xs:List V}{aq:List Value}(I:L2.Inv X ah Y H s)(hf:∀b∈ch,gZ X ah H b)(k:∀b o,b∉ch->s.heap.get? b=some o->h'.get? b=some o)(hz:xs.length<=sizeLine)(rv:Vals xs aq)(ht:dB h' s⁻¹ aq.toArray) :
  L2.Inv X ah Y (upd H s⁻¹ (.tup xs)) { s with heap:=h',toks:=t'}:=by
 have nH:∀b u,H b=some u->b∉ch:=λb u e z=>by rw[(hf b z).1]at e;cases e
 have fr:=I.hok.fresh (dC _);have nn:∀b u,H b=some u->b≠s⁻¹:=λb u e z=>by rw[z,fr]at e;cases e
 refine I.step (λb hb=>?_) (λb o _ _ hc e _=>k b o hc e) (λb o _ _ hc e _=>⟨o.slots,k b o hc e⟩) (λb o _ e n=>by rw[az (i8 (eJ e))];exact n) (λb o hc e=>⟨o,k b o hc e⟩) (λb _ e=>by rw[az (nn _ _ e)];exact e) (λb _ _ e=>by rw[az (nn _ _ e)];exact e) (λb ps e=>⟨#[],by rw[az (nn _ _ e),e];simp⟩) (λm hm=>?_) (λb u e=>?_) I.bare
 . obtain⟨f0,f1,f2,f3,f4,f5⟩:=hf b hb;exact⟨f3,f1,f4,f5⟩
 . obtain⟨o,es,ep,ho,rr⟩:=hm;exact⟨o,es,ep,k _ o (λz=>(hf _ z).2.1 rfl) ho,rr⟩
 .
  by_cases hb:b=s⁻¹
  . subst hb;rw[aA]at e;cases e;exact⟨hz,aq,rv,ht⟩
  .
   rw[az hb]at e;refine (I.hok b u e).stay (λc w hc q=>k c w (λz=>?_) q) (λc q=>by rw[az (nn _ _ q)];exact q) λc _ q=>by rw[az (nn _ _ q)];exact q
   rcases hc with rfl |hc
   . exact nH _ _ e z
   . exact nH _ _ hc z
end
theorem p8.Jy(I:L2.Inv X ah Y H s)(h:p8 tp X.K H u us)(f:gZ X ah H c):u≠c:=λz=>by
 subst z;have YH:∀o,X.K.lookup u=some o->False:=λo e=>by
  have e0:=I.ok.mod.Uz u o e;rcases f.2.2.2.1 with q |q
  . exact I.ok.sC u o e0 q
  . exact absurd (eP (eJ (I.ok.bs u o e0).1) q) (oT _)
 cases tp with
 |true=>
  rcases (show fU X.K H u us from h)with (h |⟨o,h⟩) |h
  . rw[f.1]at h;symm
  . rw[f.1]at h;symm
  . obtain⟨o,_,_,h,_⟩:=h;exact YH _ h
 |false=>
  rcases (show bH X.K H u us from h)with (h |⟨o,h⟩) |h
  . rw[f.1]at h;symm
  . rw[f.1]at h;symm
  . obtain⟨o,_,_,h,_⟩:=h;exact YH _ h
noncomputable def YJ(tp:Bool)(K:Frag)(a b:Addr):It:=
 ⟨λi H=>∃xs ys x y,p8 tp K H a xs/\p8 tp K H b ys/\xs[i]?=some x/\ys[i]?=some y,λi H x H'=>∃p u v,(∀xs,p8 tp K H a xs->xs[i]?=some u)/\(∀ys,p8 tp K H b ys->ys[i]?=some v)/\H p=none/\x=.ref p/\H'=upd H p (.tup [u,v]),
  λi H=>∃xs ys,p8 tp K H a xs/\p8 tp K H b ys/\(i=xs.length\/(i<xs.length/\i=ys.length))⟩
theorem Ae{P:Program}{w:World}{K:Frag}{tp:Bool}{es:List Expr}{k:Nat}{pos:Pos}(r tI tO i j a b:Addr)(A1:tI≠r/\tO≠r/\i≠r/\j≠r)(A2:tI≠tO/\i≠tO/\j≠tO)(A3:tI≠i/\tI≠j/\i≠j) :
  Turn P w K (.Tuple es k pos) (YJ tp K a b) [r,tI,tO,i,j] r (λn h=>IsZip h r tI tO .none/\IsPair h tI (.ref i) (.ref j)/\(∃c d,IsPair h tO c d)/\DG tp h i a n/\DG tp h j b n) where
 mem:=by simp
 obj:=λn h st x hx=>by
  obtain⟨er,eI,⟨c,d,eO⟩,t1,t2⟩:=st;simp only[c6,i5,Ap]at hx;rcases hx with rfl |rfl |rfl |rfl |rfl
  . exact⟨_,er,λv z=>nomatch (show Data.fields _=Data.cell v from z)⟩
  . exact⟨_,eI,λv z=>nomatch (show Data.seq _ _=Data.cell v from z)⟩
  . exact⟨_,eO,λv z=>nomatch (show Data.seq _ _=Data.cell v from z)⟩
  . obtain⟨o,vs,e1,e2⟩:=t1.obj;exact⟨o,e1,λv z=>by rw[e2]at z;cases z⟩
  . obtain⟨o,vs,e1,e2⟩:=t2.obj;exact⟨o,e1,λv z=>by rw[e2]at z;cases z⟩
 keep:=λn h h' st kp=>by
  obtain⟨er,eI,⟨c,d,eO⟩,t1,t2⟩:=st;exact⟨kp r ⋯ _ er,kp tI ⋯ _ eI,⟨c,d,kp tO ⋯ _ eO⟩,t1.keep λo q=>kp i ⋯ o q,t2.keep λo q=>kp j ⋯ o q⟩
 item:=by
  intro X hP hw hK hc n ah s Y H E I hf st hg;subst hP hw hK;obtain⟨er,eI,⟨c,d,eO⟩,t1,t2⟩:=st;obtain⟨xs,ys,x,y,qx,qy,gx,gy⟩:=hg;obtain⟨Sj,rx,Sl,zx⟩:=qx.real I;obtain⟨Sq,ry,Ss,zy⟩:=qy.real I;have nf:∀{u:Addr}{us:List V}{c:Addr},p8 tp X.K H u us->c∈[r,tI,tO,i,j]->u≠c:=λh hc=>p8.Jy I h (hf _ hc)
  have N:P9 r tI tO i j a b:=⟨⟨A1.1,A1.2.1,A1.2.2.1,A1.2.2.2,nf qx ⋯,nf qy ⋯⟩,⟨A2.1,A2.2.1,A2.2.2,nf qx ⋯,nf qy ⋯⟩,A3,⟨nf qx ⋯,nf qy ⋯,nf qx ⋯,nf qy ⋯⟩⟩;have l1:n<Sj.length:=by rw[<- rx.length];exact (dA.mp gx).1
  have l2:n<Sq.length:=by rw[<- ry.length];exact (dA.mp gy).1
  refine Ad N (pq (A:=X.A.in1) (I.ok.hd hc) (nf qx ⋯) Sj) (pq (A:=X.A.in1) (I.ok.hd hc) (nf qy ⋯) Sq) l1 l2 er eI eO ⟨t1,Sl⟩ ⟨t2,Ss⟩ λu v h1 tk fu gv DK eO1 s1 s2 new sz kp=>⟨_,rfl,?_⟩
  refine wpAny_letOwnedTupleGo_zip DK λh2 er2 k2=>?_
  obtain⟨u',e1,ru⟩:=rx.get gx;obtain⟨v',e2,rv⟩:=ry.get gy;rw[fu]at e1;cases e1;rw[gv]at e2;cases e2;have pr:=BI (eJ er);have kk:∀x o,x∉[r,tO,i,j]->s.heap.get? x=some o->h2.get? x=some o:=λx o hx e=>by
   simp only[c6,i5,Ap,not_or]at hx;exact (k2.2 x hx.1).trans (kp x o hx.1 hx.2.1 hx.2.2.1 hx.2.2.2 e)
  have J:=Inv.MT (t':=tk) I (λc hc=>hf c (by simp only[c6,i5]at hc ⊢;rcases hc with h |h |h |h <;> simp[h])) kk (by rw[lS];show 2<=16777216;decide) (.cons ru (.cons rv .nil)) ⟨_,(k2.2 _ pr).trans new,⟨rfl,_,rfl⟩,rfl⟩
  have eI2:=kk _ _ (by simp[A1.1,A2.1,A3.1,A3.2.1]) eI
  refine⟨.ref s⁻¹,_,J,rfl,⟨_,x,y,λzs hz=>by rw[hz.inj I qx];exact gx,λzs hz=>by rw[hz.inj I qy];exact gy,I.hok.fresh (dC _),rfl,rfl⟩,⟨er2,eI2,⟨u,v,(k2.2 _ A1.2.1).trans eO1⟩,s1.1.keep λo q=>(k2.2 _ A1.2.2.1).trans q,s2.1.keep λo q=>(k2.2 _ A1.2.2.2).trans q⟩,λc hc=>?_⟩
  have hcn:c≠s⁻¹:=λz=>by
   have:∃o,s.heap.get? c=some o:=by
    simp only[c6,i5,Ap]at hc;rcases hc with rfl |rfl |rfl |rfl |rfl
    . exact⟨_,er⟩
    . exact⟨_,eI⟩
    . exact⟨_,eO⟩
    . obtain⟨o,_,e,_⟩:=t1.obj;exact⟨o,e⟩
    . obtain⟨o,_,e,_⟩:=t2.obj;exact⟨o,e⟩
   obtain⟨o,e⟩:=this;exact absurd (eJ e) (by rw[z];exact oT _)
  rw[az hcn];exact (hf c hc).1
 done:=by
  intro X hP hw hK hc n ah s Y H E I hf st hg;subst hP hw hK;obtain⟨er,eI,⟨c,d,eO⟩,t1,t2⟩:=st;obtain⟨xs,ys,qx,qy,hn⟩:=hg;obtain⟨Sj,rx,Sl,zx⟩:=qx.real I;obtain⟨Sq,ry,Ss,zy⟩:=qy.real I;have nf:∀{u:Addr}{us:List V}{c:Addr},p8 tp X.K H u us->c∈[r,tI,tO,i,j]->u≠c:=λh hc=>p8.Jy I h (hf _ hc)
  have N:P9 r tI tO i j a b:=⟨⟨A1.1,A1.2.1,A1.2.2.1,A1.2.2.2,nf qx ⋯,nf qy ⋯⟩,⟨A2.1,A2.2.1,A2.2.2,nf qx ⋯,nf qy ⋯⟩,A3,⟨nf qx ⋯,nf qy ⋯,nf qx ⋯,nf qy ⋯⟩⟩;refine qW N (pq (A:=X.A.in1) (I.ok.hd hc) (nf qx ⋯) Sj) (pq (A:=X.A.in1) (I.ok.hd hc) (nf qy ⋯) Sq) (by rw[<- rx.length,<- ry.length];exact hn) er eI eO ⟨t1,Sl⟩ ⟨t2,Ss⟩ λh1 tk kp=>⟨rfl,?_⟩
  exact Inv.MP I (ch:=[r,tO,i,j]) (λc hc=>hf c (by simp only[c6,i5]at hc ⊢;rcases hc with h |h |h |h <;> simp[h])) λx o hx e=>by
   simp only[c6,i5,Ap,not_or]at hx;exact kp x o hx.1 hx.2.1 hx.2.2.1 hx.2.2.2 e
 self:=λA n s Q E st h=>wpAny_pyIter_zip st.1 h
open L2 PySem.W SeqAt
section
noncomputable abbrev Sv(h:Heap)(a:Addr):Heap:=h.push { cls:=.type "tuple_iterator",data:=.fields #[.ref a,.int 0 0]}
abbrev Vh(h:Heap)(a b:Addr):Heap:=(Sv h a).push { cls:=.type "tuple_iterator",data:=.fields #[.ref b,.int 0 0]}
abbrev Vi(h:Heap)(a b:Addr):Heap:=(Vh h a b).push { cls:=.type "tuple",data:=.seq #[.ref h.objs.size,.ref (Sv h a).objs.size]}
abbrev Vj(h:Heap)(a b:Addr):Heap:=(Vi h a b).push { cls:=.type "tuple",data:=.seq #[.none,.none]}
abbrev Qa (h:Heap) (a b:Addr):Heap:=(Vj h a b).push { cls:=.type "zip",data:=.fields #[.none,.bool false,.bool false,.ref (Vh h a b).objs.size,.ref (Vi h a b).objs.size]}
theorem tH(a b:Addr)(xs ys:Array Value) :
  Meets (Builtin.«zip.__new__» ⟨[.type "zip",.ref a,.ref b],[]⟩) (λ_ R s=>s.heap.IsTuple a xs/\s.heap.IsTuple b ys/\R (.ok (.ret (.ref (Vj s.heap a b).objs.size))) { s with heap:=Qa s.heap a b}):=
 .of_wp λprog w A R s h=>by
  obtain⟨hp,g,d,tk,os⟩:=s;obtain⟨ta,tb,h⟩:=h;have hsub:=sub_zip;have T1:Heap.IsTuple (Shared.heap ⟨hp,g,d,tk,os⟩) a xs:=ta;have T2:Heap.IsTuple (Shared.heap ⟨Sv hp a,g,d,tk,os⟩) b ys:=by obtain⟨o,e,rr⟩:=tb;exact⟨o,a9 _ e,rr⟩
  wp_walk using wpAny_pyIter_tuple T1,wpAny_pyIter_tuple T2
  exact⟨_,rfl,h⟩
theorem xA(ta:s.heap.IsTuple a xs)(tb:s.heap.IsTuple b ys)
  (h:∀h',IsZip h' (s⁻¹+4) (s⁻¹+2) (s⁻¹+3) .none->IsPair h' (s⁻¹+2) (.ref s⁻¹) (.ref (s⁻¹+1))->
   IsPair h' (s⁻¹+3) .none .none->h'.IsTupleIter s⁻¹ a 0->h'.IsTupleIter (s⁻¹+1) b 0->h'.objs.size=s⁻¹+5->
   (∀c o,s.heap.get? c=some o->h'.get? c=some o)->Q (.ref (s⁻¹+4)) { s with heap:=h'}) :
  wpAny (model prog w) A (call (.type "zip") [.ref a,.ref b]) Q E s:=by
 refine callType_new F.called_zip ⋯ (F.typeCall_zip_2 _ _) (F.newCall_zip_2 _ _) (λobj=>F.args_object_init_3 obj _ _) F.entry_zip_new (tH a b xs ys) ⟨ta,tb,?_⟩
 have s1:(Sv s.heap a).objs.size=s⁻¹+1:=x5 ..;have s2:(Vh s.heap a b).objs.size=s⁻¹+2:=by rw[x5,s1]
 have s3:(Vi s.heap a b).objs.size=s⁻¹+3:=by rw[x5,s2]
 have s4:(Vj s.heap a b).objs.size=s⁻¹+4:=by rw[x5,s3]
 have o5:(Qa s.heap a b).get? (Vj s.heap a b).objs.size=some _:=d0 _ rfl;have o4:(Qa s.heap a b).get? (Vi s.heap a b).objs.size=some _:=a9 _ (d0 _ rfl);have o3:(Qa s.heap a b).get? (Vh s.heap a b).objs.size=some _:=a9 _ (a9 _ (d0 _ rfl));have o2:(Qa s.heap a b).get? (Sv s.heap a).objs.size=some _:=a9 _ (a9 _ (a9 _ (d0 _ rfl)));have o1:(Qa s.heap a b).get? s⁻¹=some _:=a9 _ (a9 _ (a9 _ (a9 _ (d0 _ rfl))));rw[s4]at o5 ⊢
 rw[s2,s3]at o5;rw[s2,s1]at o3;rw[s3]at o4;rw[s1]at o2;exact⟨⟨_,o5,rfl⟩,h _ o5 o3 o4 ⟨_,o1,rfl,rfl⟩ ⟨_,o2,rfl,rfl⟩ (by rw[x5,s4]) λc o e=>a9 _ (a9 _ (a9 _ (a9 _ (a9 _ e))))⟩
end
noncomputable def pA(l m:List D):List D:=(l.zip m).map λp=>.tup [p.1,p.2]
theorem Af{l m:List D}{n:Nat}{d:D}(h:(pA l m)[n]?=some d):∃x y,l[n]?=some x/\m[n]?=some y/\d=.tup [x,y]:=by
 unfold pA at h;rw[sT]at h;cases e:(l.zip m)[n]? with
 |none=>rw[e]at h;symm
 |some q=>rw[e]at h;symm;obtain⟨h1,h2⟩:=List.getElem?_zip_eq_some.mp e;exact⟨q.1,q.2,h1,h2,rfl⟩
theorem Ag(l m:List D):(pA l m).length=min l.length m.length:=by simp[pA]
section
def isTup:D->Bool
 |.tup _=>true
 |_=>false
theorem Rep.YK{K:Frag}{M:List Addr}{H:Hp}{d:D}{v:V}{l:List D}(r:Rep K M H d v)(h:dR d=some l):∃a xs,v=.ref a/\aG K M H l xs/\∀M2 H2,ak M H M2 H2->p8 (isTup d) K H2 a xs:=by
 cases r with
 |@lst _ a xs hb rr=>symm;exact⟨a,xs,rfl,rr,λM2 H2 st=>bH.of (st _ _ hb.2 hb.1).1⟩
 |@tup _ a xs hb rr=>
  symm;refine⟨a,xs,rfl,rr,λM2 H2 st=>?_⟩
  have:TupAt K M2 H2 a xs:=by
   rcases hb with ⟨na,hr⟩ |hk
   . exact .inl (st.rd na hr)
   . exact .inr hk
  exact this.sq
 |@fix _ a xs hb rr=>
  symm;refine⟨a,xs,rfl,rr,λM2 H2 st=>?_⟩
  have:kI K M2 H2 a xs:=by
   rcases hb with ⟨na,o,hr⟩ |hk
   . exact .inl ⟨(st _ _ hr na).2,o,(st _ _ hr na).1⟩
   . exact .inr hk
  exact this.sq
 |_=>symm
theorem xB(ta:Vb tp s.heap a xs)(tb:Vb tp s.heap b ys)
  (h:∀h',IsZip h' (s⁻¹+4) (s⁻¹+2) (s⁻¹+3) .none->IsPair h' (s⁻¹+2) (.ref s⁻¹) (.ref (s⁻¹+1))->
   IsPair h' (s⁻¹+3) .none .none->DG tp h' s⁻¹ a 0->DG tp h' (s⁻¹+1) b 0->h'.objs.size=s⁻¹+5->
   (∀c o,s.heap.get? c=some o->h'.get? c=some o)->Q (.ref (s⁻¹+4)) { s with heap:=h'}):wpAny (model prog w) A (call (.type "zip") [.ref a,.ref b]) Q E s:=by
 cases tp with
 |true=>exact xA ta tb h
 |false=>exact call_zip_2 ta tb h
theorem M7{d1 d2:D}{l m:List D}(hK:z.K=X.K)(ha:cJ X z [e1,e2] g [.dat d1,.dat d2] g1)(h1:dR d1=some l)(h2:dR d2=some m)(hkd:isTup d1=isTup d2)(hg:Gl X "zip")(hm:X.mg "zip"=none)(gX:starEach [e1,e2] X.env=(false,eval e1 X.env)::starEach [e2] X.env)(su:(backTo rp (starEach [e2] X.env)).any (·.1)=false) :
  fV X z (.Tuple es k pos) (.Call (.Name "zip" p) [e1,e2] [] rp) g (pA l m) g1:=by
 refine fV.of λah s Y L M H Post I stt kk=>?_
 refine Call_ (fc I hg hm boot_zip (nK (ha.run I stt λvs us s1 H1 aR M1 I1 r1 q1 q2 q3=>?_) gX su))
 cases q3 with
 |dat rp1 R=>cases R with
  |dat DN R=>
   cases R;obtain⟨u1,u2,rfl,ru1,ru2⟩:=vals2 r1;obtain⟨a,xs,rfl,YL,YM⟩:=rp1.YK h1;obtain⟨b,ys,rfl,Jx,Xc⟩:=DN.YK h2;cases ru1;cases ru2;rw[<- hkd]at Xc;have sa:=hK▸YM M1 H1 (ak.refl _ _);have sb:=hK▸Xc M1 H1 (ak.refl _ _);obtain⟨Sj,_,Sl,_⟩:=sa.real I1;obtain⟨Sq,_,Ss,_⟩:=sb.real I1;refine xB Sl Ss λh' er eI eO t1 t2 uC hk=>kk _ _ λR kR=>?_
   refine wpAny_pyIter_zip er ?_;have I2:=I1.kept (t':=s1.toks) hk;refine⟨_,[s1⁻¹+4,s1⁻¹+2,s1⁻¹+3,s1⁻¹,s1⁻¹+1],_,YJ (isTup d1) X.K a b,H1,rfl,I2,Ae (s1⁻¹+4) (s1⁻¹+2) (s1⁻¹+3) s1⁻¹ (s1⁻¹+1) a b (by refine⟨?_,?_,?_,?_⟩ <;> (intro q;have q:=q;lia)) (by refine⟨?_,?_,?_⟩ <;> (intro q;have q:=q;lia)) (by refine⟨?_,?_,?_⟩ <;> (intro q;have q:=q;lia)),⟨er,eI,⟨_,_,eO⟩,t1,t2⟩,λc hc=>?_,kR _ H1 aR M1 q1 q2 λM2 H2 aP=>?_⟩
   .
    have hle:s1⁻¹<=c:=by simp only[c6,i5,Ap]at hc;rcases hc with rfl |rfl |rfl |rfl |rfl <;> lia
    exact I1.v7 hle (I1.hok.fresh hle)
   .
    have s1':=hK▸YM M2 H2 aP;have s2':=hK▸Xc M2 H2 aP;have R1:=YL.stay aP;have R2:=Jx.stay aP;refine⟨λn d hd=>?_,xs,ys,s1',s2',?_⟩
    .
     obtain⟨x,y,f1,f2,rfl⟩:=Af hd;obtain⟨vx,e2,e3⟩:=R1.get f1;obtain⟨vy,e4,e5⟩:=R2.get f2;refine⟨⟨xs,ys,vx,vy,s1',s2',e2,e4⟩,λw H' hy z' g' σ' aC hz' s'=>?_⟩
     obtain⟨p,u,v,w1,w2,w3,rfl,rfl⟩:=hy;have w1:=w1 xs s1';have w2:=w2 ys s2';rw[e2]at w1;cases w1;rw[e4]at w2;cases w2;exact⟨s'.laid w3,ak.laid w3,.tup (.inl ⟨s'.fresh w3,.inl aA⟩) (.cons (e3.stay (ak.laid w3)) (.cons (e5.stay (ak.laid w3)) .nil))⟩
    . rw[Ag,YL.length,Jx.length];lia
end
end Ev
namespace L2
def u9(T:List Addr)(H:Hp):Prop:=∀b,(b∈T/\H b=some (.yj #[]))\/(b∉T/\(H b=none\/∃o xs,H b=some (.jG o (.lst xs))))
theorem xC{P:Program}{w:World}{K:Frag}{mg mb:Str->Option Value}{CX:yP}{k:Nat}{fa a:Addr}{fd:FuncData}{x:Str}{sp:Sp}{s₁:Shared}{vs:List Value}{ns: ~~~0}{T:List Addr}
  (KX:K.In s₁.heap) (hT:∀q∈T,(∃c,s₁.heap.TableAt c q #[])/\K.lookup q=none) (hns:s₁.heap.Ns mainGlobals mg) (hb:s₁.heap.Ns builtinsNs mb) (hbb:∀x:Str,x≠ "__name__" ->mb x=bootBuiltins x) (hlim:s₁.heap.NoLimit) (hg:s₁.gens = #[])
  (ha:s₁.heap.get? a=some { cls:=.type "list",data:=.seq vs.toArray}) (hi:IntsAre vs ns) (hl:ns.length<=sizeLine) (hr:eW k callerA)
  (F:∀base:Heap,K.In base->base.Ns mainGlobals mg->lZ P w K mg base CX k fa fd [x] sp) (hbind:∀(s:Shared) (u:Value),BindsTo s fd ⟨[u],[]⟩ [(x,u)])
  (P4:∀H:Hp,u9 T H->bH K H a (ns.map V.int)->sp [.ref a] H (λv _=>v=.bl true) λ_ _ _=>False)
  (Xd:∀H e s',CX [] H s₁ (λ_ _ _=>False) e s'->False) :
  codeAny (model P w) callerA (.call (.ref fa) ⟨[.ref a],[]⟩) (λr s'=>r=.ok (.ret (.bool true))/\OldK s₁.heap s'.heap/\s'.os=s₁.os/\AllBare s'.gens) s₁:=by
 have rv:=mU hi;have lenV:=hi.length;have aT:a∉T:=λh=>by
  obtain⟨⟨c,_,e⟩,_⟩:=hT a h;rw[ha]at e;cases e
 have core:∀H:Hp,u9 T H->bH K H a (ns.map V.int)->kC P w H s₁.heap->(∀b,H b≠none->b=a\/b∈T)->(H a≠none->K.lookup a=none)->
   codeAny (model P w) callerA (.call (.ref fa) ⟨[.ref a],[]⟩) (λr s'=>r=.ok (.ret (.bool true))/\OldK s₁.heap s'.heap/\s'.os=s₁.os/\AllBare s'.gens) s₁:=by
  intro H hO hS hok hA hK;have vd:∀{b:Addr}{o:Obj},s₁.heap.get? b=some o->H b=none->(nZ s₁.heap H).get? b=some o:=λe n=>yE e n
  have Rc:∀{b:Addr}{o:Obj}{es:Array DictEntry}{ep:Nat},s₁.heap.get? b=some o->o.data=.dict es ep->H b=none:=λ{b o es ep} e d=>by
   cases q:H b with
   |none=>rfl
   |some u=>
    rcases hA b (by rw[q];simp)with e' |e'
    . subst e';rw[ha]at e;cases e;have d':=d;cases d'
    . obtain⟨⟨c,_,e2⟩,_⟩:=hT b e';rw[e]at e2;cases e2;have d':=d;cases d'
  have Vk:∀{b:Addr}{m:Str->Option Value},s₁.heap.Ns b m->(nZ s₁.heap H).Ns b m:=λ{b m} ⟨o,es,ep,e,d,r⟩=>⟨o,es,ep,vd e (Rc e d),d,r⟩
  have Jz:K.In (nZ s₁.heap H):=λb o e=>vd (KX b o e) (by
   cases q:H b with
   |none=>rfl
   |some u=>
    rcases hA b (by rw[q];simp)with e' |e'
    . subst e';rw[hK (by rw[q];simp)]at e;cases e
    .
     rw[(hT b e').2]at e;cases e)
  have hM:Mod K mg (nZ s₁.heap H):=⟨Jz,Vk hns,⟨mb,Vk hb,hbb⟩,let ⟨mc,h1,h2⟩:=hlim;⟨mc,Vk h1,h2⟩⟩
  have e0:Es P w K mg (nZ s₁.heap H) callerA [] s₁ H:=⟨rfl,hM,λb o e=>Eg e,Nat.le_of_eq (vZ _ _),trivial,λb hb=>absurd (show b∈([]:List Addr)from hb) ⋯,hok,.of_eq hg⟩
  refine codeAny_mono ((F _ Jz (Vk hns)).run callerA [] s₁ H ⟨[.ref a],[]⟩ [.ref a] [.ref a] _ _ hr e0 (hbind s₁ (.ref a)) (.cons rfl .nil) (P4 H hO hS)) λr s' h=>?_
  cases r with
  |error e=>exact (Xd H e s' h).elim
  |ok fl=>
   cases fl with
   |next=>exact False.elim h
   |brk=>exact False.elim h
   |cont=>exact False.elim h
   |ret u=>
    obtain⟨v,H',os,bare,un,Sw,r',q⟩:=h;have q':=q;subst q';obtain rfl:u=Value.bool true:=r';have tabs:∀b∈T,∀o,s₁.heap.get? b=some o->∃more,o={ cls:=.none,data:=.fields #[]}/\s'.heap.get? b=some { cls:=.none,data:=.fields more}:=λb hb o e=>by
     obtain⟨⟨c,_,e2⟩,_⟩:=hT b hb;rw[e]at e2;cases e2;rcases hO b with ⟨_,z⟩ |⟨z,_⟩
     . obtain⟨more,z2⟩:=un.nY b _ z;exact⟨_,rfl,Sw b _ z2⟩
     . exact absurd hb z
    have aE:∀b,b∉T->∀o,s₁.heap.get? b=some o->s'.heap.get? b=some o:=λb hb o e=>by
     cases q:H b with
     |none=>exact un.keep b o e q (by intro z;exact absurd (show b∈([]:List Addr)from z) ⋯) ⋯
     |some u=>
      rcases hO b with ⟨z,_⟩ |⟨_,z⟩
      . exact absurd z hb
      .
       rcases z with z |⟨ob,xs,z⟩
       . rw[q]at z;cases z
       . have z2:=un.nX b ob _ z;obtain⟨e1,_⟩:=hok b _ z;obtain⟨e2,_⟩:=Sw b _ z2;rw[e]at e1;cases e1;exact e2
    refine⟨rfl,⟨λb o e=>?_,λb o e=>?_⟩,os,bare⟩
    .
     by_cases hb:b∈T
     . obtain⟨more,rfl,e2⟩:=tabs b hb o e;obtain⟨⟨c,t⟩,_⟩:=hT b hb;exact .inr (.inl ⟨t.isCodeTable,rfl,#[],more,rfl,by rw[e2];simp⟩)
     . exact .inl (aE b hb o e)
    .
     by_cases hb:b∈T
     . obtain⟨more,rfl,e2⟩:=tabs b hb o e;exact⟨_,e2⟩
     . exact⟨_,aE b hb o e⟩
 have Ah:∀b∈T,s₁.heap.get? b=some { cls:=.none,data:=.fields #[]}:=λb hb=>by
  obtain⟨⟨c,_,e2⟩,_⟩:=hT b hb;exact e2
 cases hk:K.lookup a with
 |some o=>
  have e:=KX a o hk;rw[ha]at e;cases e;refine core (λb=>if b∈T then some (.yj #[])else none) (λb=>?_) (.inr ⟨_,vs.toArray,_,hk,rfl,rfl,rfl,by rw[b0,lenV];exact hl,by simpa using rv⟩) (λb u z=>?_) (λb z=>?_) λz=>absurd (fI aT) z
  .
   by_cases hb:b∈T
   . exact .inl ⟨hb,eR hb⟩
   . exact .inr ⟨hb,.inl (fI hb)⟩
  .
   by_cases hb:b∈T
   . have z':=(eR hb).symm.trans z;cases z';exact Ah b hb
   . have z':=(fI hb).symm.trans z;cases z'
  .
   by_cases hb:b∈T
   . exact .inr hb
   . exact absurd (fI hb) z
 |none=>
  refine core (λb=>if b∈T then some (.yj #[])else if b=a then some (.jG { cls:=.type "list",data:=.seq vs.toArray} (.lst (ns.map V.int)))else none) (λb=>?_) (.inl (.inr ⟨{ cls:=.type "list",data:=.seq vs.toArray},(fI aT).trans (eR rfl)⟩)) (λb u z=>?_) (λb z=>?_) λ_=>hk
  .
   by_cases hb:b∈T
   . exact .inl ⟨hb,eR hb⟩
   .
    refine .inr ⟨hb,?_⟩;by_cases hb2:b=a
    . exact .inr ⟨_,_,(fI hb).trans (eR hb2)⟩
    . exact .inl ((fI hb).trans (fI hb2))
  .
   by_cases hb:b∈T
   . have z':=(eR hb).symm.trans z;cases z';exact Ah b hb
   .
    have z1:=(fI hb).symm.trans z;by_cases hb2:b=a
    . have z':=(eR hb2).symm.trans z1;cases z';subst hb2;exact⟨ha,by rw[eC];exact hl,vs,_,rv,ha⟩
    . have z':=(fI hb2).symm.trans z1;cases z'
  .
   by_cases hb:b∈T
   . exact .inr hb
   .
    by_cases hb2:b=a
    . exact .inl hb2
    . exact absurd ((fI hb).trans (fI hb2)) z
end L2
namespace Ev
open L2
abbrev Xe(p:Addr)(o:Obj):HO:=.ext λh=>h.get? p=some o
end Ev
namespace PySem
end PySem
namespace Ev
open L2
noncomputable def Sx(K:Frag)(C D:Addr):Bool:=match K.lookup C with
 |some ⟨_,_,.cls cd,_⟩=>cd.mro.contains (.ref D)
 |_=>false
section
variable{g g':G}
theorem Slots.Ai{K:Frag}{i:Nat}{v:Option V}(q:Slots K M H g Y L)(e:g[i]?=some .no):Slots K M H g (Y.set i v) L:=by
 induction q generalizing i with
 |nil=>exact .nil
 |no q ih=>cases i with
  |zero=>exact .no q
  |succ i=>exact .no (ih e)
 |dat r q ih=>cases i with
  |zero=>cases e
  |succ i=>exact .dat r (ih e)
 |own a b q ih=>cases i with
  |zero=>cases e
  |succ i=>exact .own a b (ih e)
theorem S.Ai(s:S z g Y L M H)(e:g[i]?=some .no):S z g (Y.set i v) L M H where
 sl:=s.sl.Ai e
 nd:=s.nd
 sub:=s.sub
 own:=λj a l e1 e2=>s.own j a l e1 (by
  rw[dL (λq=>by rw[<- q,e]at e1;cases e1)]at e2;exact e2)
 live:=s.live
 keep:=s.keep
 ju:=s.ju
 m0:=s.m0
 bm:=s.bm
 jv:=λp hp=>by
  obtain⟨h1,l,h2⟩:=s.jv p hp;exact⟨by rw[dL (λq=>by rw[<- q,e]at h2;cases h2)];exact h1,l,h2⟩
 tab:=s.tab
 tm:=s.tm
 tt:=s.tt
end
end Ev
namespace L2
end L2
namespace Ev
open L2
structure Lt where
 params:Arguments
 body:Expr
 scope:Scope
 pos:Pos
noncomputable abbrev Lt.ex(l:Lt):Expr:=.Lambda l.params l.body l.scope l.pos
def Sy(X:Cx)(qn:Str)(M:List Addr)(H:Hp)(l:Lt)(v:V):Prop:=∃p c' Zr cl,v=.ref p/\p∉M/\c'∉M/\H p=some (Xe p (PySem.W.kla_obj "<lambda>" qn l.params l.body l.scope cl ((X.mg "__name__").getD .none) c' Zr))/\H c'=some (Ry qn c')/\
 (∀x c,cl.lookup x=some c->X.env.cells.lookup x=some c/\(x,NameKind.free)∈l.scope.names)/\∀y∈l.scope.names,y.2=.free->∃c,cl.lookup y.1=some c
inductive pB(X:Cx)(qn:Str)(M:List Addr)(H:Hp):List Lt->List V->Prop
 |nil:pB X qn M H [] []
 |cons {l:Lt}{ls:List Lt}{v:V}{vs:List V}:Sy X qn M H l v->pB X qn M H ls vs->pB X qn M H (l::ls) (v::vs)
section
theorem S.tK(s:S z g Y L M H)(hm:a∈M)(hA:a∉L)(h0:z.H0 a=none)(h:H a=some (.lst xs)):S z g Y L M (upd H a (.lst xs')):=s.K8 hm hA h0 h trivial trivial
end
open L2 PySem.W
noncomputable def jG:Slot->Slot
 |.own l=>.dat (.lst l)
 |s=>s
noncomputable def flat:D->Bool
 |.non=>true
 |.bl _=>true
 |.int _=>true
 |.str _=>true
 |_=>false
theorem Rep.flat{K:Frag}{M M':List Addr}{H H':Hp}{d:D}{v:V}(r:Rep K M H d v)(h:Ev.flat d=true):Rep K M' H' d v:=by
 cases r with
 |non=>exact .non
 |bl b=>exact .bl b
 |int i=>exact .int i
 |str x=>exact .str x
 |_=>symm
section
variable{g g':G}
theorem Slots.Xf{K:Frag}(q:Slots K M H g Y L){a:Addr}(h:a∈L):∃(i:Nat) (l:List D) (xs:List V),g[i]?=some (Slot.own l)/\Y[i]?=some (some (V.ref a))/\H a=some (.lst xs):=by
 induction q with
 |nil=>symm
 |no _ ih=>obtain⟨i,l,xs,h1,h2,h3⟩:=ih h;exact⟨i+1,l,xs,h1,h2,h3⟩
 |dat _ _ ih=>obtain⟨i,l,xs,h1,h2,h3⟩:=ih h;exact⟨i+1,l,xs,h1,h2,h3⟩
 |own e _ _ ih=>
  rcases c6.mp h with rfl |h
  . exact⟨0,_,_,rfl,rfl,e⟩
  . obtain⟨i,l,xs,h1,h2,h3⟩:=ih h;exact⟨i+1,l,xs,h1,h2,h3⟩
theorem Slots.jG{K:Frag}{M0:List Addr}(q:Slots K M H g Y L)(hl:∀m∈M0,m∈M)(hn:∀a∈L,a∉M0):Slots K M0 H (g.map Ev.jG) Y []:=by
 induction q with
 |nil=>exact .nil
 |no _ ih=>exact .no (ih hn)
 |dat r _ ih=>exact .dat (r.stay (ak.less hl)) (ih hn)
 |own e r _ ih=>exact .dat (.lst ⟨hn _ bP,e⟩ (r.stay (ak.less hl))) (ih λa ha=>hn a (a8 _ ha))
theorem GF{i:Nat}{l:List D}(h:(g.map Ev.jG)[i]?=some (.own l)):False:=by
 rw[sT]at h;cases e:g[i]? with
 |none=>rw[e]at h;symm
 |some u=>rw[e]at h;cases u <;> symm
theorem S.h0(s:S z g Y L M H)(hb:z.bor=[])(h:a∈L):z.H0 a=none:=by
 obtain⟨i,l,xs,h1,h2,_⟩:=s.sl.Xf h;rcases s.own i a l h1 h2 with ⟨q,_⟩ |q
 . rw[hb]at q;cases q
 . exact q
theorem S.Aj(s:S z g Y L M H)(hb:z.bor=[]):S z (g.map Ev.jG) Y [] (M.filter λm=>decide (m∉L)) H where
 sl:=s.sl.jG (λm hm=>(eQ.mp hm).1) λa ha hm=>by have:=(eQ.mp hm).2;simp at this;exact this ha
 nd:=AB
 sub:=λa h=>nomatch h
 own:=λi a l e _=>(GF e).elim
 live:=λm hm=>s.live m (eQ.mp hm).1
 keep:=s.keep
 ju:=λm hm=>eQ.mpr ⟨s.ju m hm,by
  have:m∉L:=λh=>s.m0 m hm (s.h0 hb h)
  simpa using this⟩
 m0:=s.m0
 bm:=s.bm
 jv:=λp hp=>by
  have:p.1∈z.bor:=oP hp;rw[hb]at this;cases this
 tab:=s.tab
 tm:=s.tm
 tt:=s.tt
theorem S.Sz(s:S z g Y L M H)(hb:z.bor=[]){g1:G}{σ1:Sg}(s1:S z g1 σ1 aR M1 H1)(st:ak (M.filter λm=>decide (m∉L)) H M1 H1):S z g Y L (L++M1) H1/\ak M H (L++M1) H1:=by
 have nA:∀a∈L,a∉M.filter λm=>decide (m∉L):=λa ha hm=>by have:=(eQ.mp hm).2;simp at this;exact this ha
 have stM:ak M H (L++M1) H1:=λb o e hb'=>by
  have h1:=st b o e λhm=>hb' (eQ.mp hm).1
  refine⟨h1.1,λhm=>?_⟩
  rcases gL.mp hm with hm |hm
  . exact hb' (s.sub b hm)
  . exact h1.2 hm
 have lists:∀a∈L,∃xs,H1 a=some (.lst xs):=λa ha=>by
  obtain⟨_,_,xs,_,_,e⟩:=s.sl.Xf ha;exact⟨xs,(st a _ e (nA a ha)).1⟩
 refine⟨⟨s.sl.stay stM λa ha o e=>(st a o e (nA a ha)).1,s.nd,λa ha=>fA _ ha,s.own,λm hm=>?_,s1.keep,λm hm=>fN _ (s1.ju m hm),s.m0,s.bm,s.jv,s1.tab,s.tm,s.tt⟩,stM⟩
 rcases gL.mp hm with hm |hm
 . obtain⟨xs,e⟩:=lists m hm;exact .inl ⟨_,e,trivial⟩
 . exact s1.live m hm
theorem GJ(hb:z.bor=[])(hf:Ev.flat d=true)(h:au X z e (g.map Ev.jG) (.dat d) g1):au X z e g (.dat d) g:=by
 obtain⟨t,q,k⟩:=h;refine⟨t,q,λY L M H Q s kk=>k Y [] _ H Q (s.Aj hb) λv H1 aR M1 s1 st R=>?_⟩
 obtain⟨a,b⟩:=s.Sz hb s1 st;exact kk v H1 L _ a b (Rep.flat R hf)
theorem aG.flat{K:Frag}{l:List D}{xs:List V}(r:aG K M H l xs)(h:l.all Ev.flat=true):aG K M1 H1 l xs:=by
 induction l generalizing xs with
 |nil=>cases r;exact .nil
 |cons d l ih=>
  cases r with
  |cons r t=>rw[List.all_cons,eM]at h;exact .cons (Rep.flat r h.1) (ih t h.2)
theorem Ak{X:Cx}{e:Expr}{l:List D}{g1:G}(hb:z.bor=[])(hf:l.all Ev.flat=true)(h:au X z e (g.map Ev.jG) (.new l) g1):au X z e g (.new l) g:=by
 obtain⟨t,q,k⟩:=h;refine⟨t,q,λY L M H Q s kk=>k Y [] _ H Q (s.Aj hb) λv H1 aR M1 s1 st R=>?_⟩
 obtain⟨a,b⟩:=s.Sz hb s1 st;obtain⟨p,xs,rfl,r1,r2,r3,r4,r5⟩:=R;refine kk _ H1 L _ a b ⟨p,xs,rfl,fN _ r1,λhp=>?_,r3,r4,aG.flat r5 hf⟩
 obtain⟨_,_,ys,_,_,e⟩:=s.sl.Xf hp;exact (st p _ e λhm=>by have:=(eQ.mp hm).2;simp at this;exact this hp).2 r1
end
def LL(X:Cx)(z:Z)(g:G)(qn:Str)(ic:Nat)(M0:List Addr)(H0:Hp)(ls:List Lt)(Y:Sg)(H:Hp):Prop:=
 ∃L M a vs,S z g Y L M H/\ak M0 H0 M H/\Y[ic]?=some (some (.ref a))/\a∈M/\a∉L/\z.H0 a=none/\H a=some (.lst vs)/\pB X qn M H ls vs
inductive Qc(X:Cx):List Stmt->List TS->Prop
 |nil:Qc X [] []
 |cons {s:Stmt}{ss:List Stmt}{t:TS}{ts:List TS}:PS X s t->Qc X ss ts->Qc X (s::ss) (t::ts)
def M8:List TS->TS->TS
 | [],u=>u
 |t::ts,u=>QH t (M8 ts u)
theorem Qc.YQ{X:Cx}{ss aE:List Stmt}{ts:List TS}{u:TS}(h:Qc X ss ts)(hu:n6 X aE u):n6 X (ss++aE) (M8 ts u):=by
 induction h with
 |nil=>exact hu
 |cons a _ ih=>exact bR a ih
def xD(X:Cx)(z:Z)(ss:List Stmt)(g:G)(f:Fl)(g':G):Prop:=
 ∃ts,Qc X ss ts/\∀(u:TS) Y L M H (E:Ends),S z g Y L M H->mX z M H { E with nx:=u E} g' f->M8 ts u E Y H
theorem xD.bk{X:Cx}{z:Z}{ss aE:List Stmt}{g g1 g':G}{f:Fl}(h:xD X z ss g .nx g1)(h2:cV X z aE g1 f g'):cV X z (ss++aE) g f g':=by obtain⟨t2,q2,k2⟩:=h2;obtain⟨t,q,k⟩:=h;exact⟨_,q.YQ q2,λY L M H E s kE=>k t2 Y L M H E s λσ' aC M' H' s' st=>k2 σ' aC M' H' E s' (kE.trans st)⟩
theorem xD.end{X:Cx}{z:Z}{ss aE:List Stmt}{g g':G}{f:Fl}(h:xD X z ss g f g')(hn:f≠.nx):cV X z (ss++aE) g f g':=by
 obtain⟨t,q,k⟩:=h;refine⟨_,q.YQ cQ,λY L M H E s kE=>k _ Y L M H E s ?_⟩
 cases f with
 |nx=>exact absurd rfl hn
 |rt r=>exact kE
 |bk=>exact kE
 |ct=>exact kE
inductive dG(z:Z)(L M:List Addr)(H:Hp):List Addr->List (List D)->Prop
 |nil:dG z L M H [] []
 |cons {p:Addr}{as:List Addr}{xs:List V}{l:List D}{ll:List (List D)}:p∈M->p∉L->z.H0 p=none->H p=some (.lst xs)->aG z.K M H l xs->dG z L M H as ll->dG z L M H (p::as) (l::ll)
section
theorem dG.stay(h:dG z L M H as ll)(st:ak M H M' H')(k:∀p∈as,p∈M'/\H' p=H p):dG z L M' H' as ll:=by
 induction h with
 |nil=>exact .nil
 |cons h1 h2 h3 h4 h5 _ ih=>obtain⟨k1,k2⟩:=k _ bP;exact .cons k1 h2 h3 (k2.trans h4) (h5.stay st) (ih λp hp=>k p (a8 _ hp))
theorem dG.mem(h:dG z L M H as ll):∀p∈as,p∈M/\p∉L/\z.H0 p=none/\∃xs,H p=some (.lst xs):=by
 induction h with
 |nil=>intro p h;symm
 |cons h1 h2 h3 h4 _ _ ih=>intro p hp;rcases c6.mp hp with rfl |hp;exact⟨h1,h2,h3,_,h4⟩;exact ih p hp
theorem dG.get(h:dG z L M H as ll):∀{i:Nat}{l:List D},ll[i]?=some l->∃p xs,as[i]?=some p/\H p=some (.lst xs)/\aG z.K M H l xs:=by
 induction h with
 |nil=>intro i l e;cases e
 |cons h1 h2 h3 h4 h5 _ ih=>intro i l e;cases i with
  |zero=>cases (show some _=some l from e);exact⟨_,_,rfl,h4,h5⟩
  |succ i=>exact ih e
theorem dG.push(h:dG z L M H as ll)(h1:p∈M)(h2:p∉L)(h3:z.H0 p=none)(h4:H p=some (.lst xs))(h5:aG z.K M H l xs):dG z L M H (as++[p]) (ll++[l]):=by
 induction h with
 |nil=>exact .cons h1 h2 h3 h4 h5 .nil
 |cons a b c d e _ ih=>exact .cons a b c d e ih
end
def Rows(z:Z)(g:G)(iy:Nat)(M0:List Addr)(H0:Hp)(ll:List (List D))(Y:Sg)(H:Hp):Prop:=
 ∃L M a as,S z g Y L M H/\ak M0 H0 M H/\Y[iy]?=some (some (.ref a))/\a∈M/\a∉L/\z.H0 a=none/\H a=some (.lst (as.map .ref))/\a∉as/\as.Nodup/\dG z L M H as ll
theorem S.ve:∀(ps:List Addr) {M:List Addr},S z g Y L M H->(∀p∈ps,p∉L/\z.H0 p=none)->∃M',S z g Y L M' H/\(∀m∈M',m∈M)/\∀p∈ps,p∉M'
 | [],M,s,_=>⟨M,s,λ_ h=>h,λ_ h=>nomatch h⟩
 |p::ps,M,s,h=>by
  obtain⟨h1,h2⟩:=h p bP;obtain⟨M',s',k1,k2⟩:=S.ve ps (s.drop h2 h1) λq hq=>h q (a8 _ hq)
  refine⟨M',s',λm hm=>(eQ.mp (k1 m hm)).1,λq hq=>?_⟩
  rcases c6.mp hq with rfl |hq
  . intro hm;have:=(eQ.mp (k1 _ hm)).2;simp at this
  . exact k2 q hq
end Ev
namespace HT
open PySem PyProof.Rows
end HT
namespace Ev
open L2
section
variable{X:Cx}{z:Z}{tg iter kx vx:Expr}{scope:Scope}{pos:Pos}{N':List Str}{k:Nat}{T:Tg}{items:List D}{g g1 gE:G}{ks: ~~~5}{ds:List D}
theorem Al(ns: ~~~0):(ns.map (Sum.inl:Int->Key)).map kV=ns.map V.int:=by rw[List.map_map];rfl
noncomputable def SJ: ~~~5->List D->~~~0->Option D
 |k::ks,d::ds,n=>if k=n then some d else SJ ks ds n
 |_,_,_=>none
theorem qX{K:Frag}{M:List Addr}{H:Hp}{n: ~~~0}{d:D}:∀{ks: ~~~5}{ds:List D}{vs:List V},aG K M H ds vs->SJ ks ds n=some d->∃v,atK ((ks.map (List.map Sum.inl)).zip vs) (n.map Sum.inl)=some v/\Rep K M H d v
 | [],_,_,_,h=>by symm
 |_::_,[],_,_,h=>by symm
 |k::ks,x::ds,_,r,h=>by
  cases r with
  |cons a b=>
   unfold SJ at h;unfold atK;rw[List.map_cons,List.zip_cons_cons,List.find?_cons];by_cases e:k=n
   . rw[eR e]at h;symm;subst e;exact⟨_,by rw[i4 (show (k.map Sum.inl,_).1=k.map (Sum.inl:Int->Key)from rfl)];rfl,a⟩
   .
    rw[fI e]at h;obtain⟨v,v1,v2⟩:=qX b h;refine⟨v,?_,v2⟩;rw[show decide ((k.map (Sum.inl:Int->Key),_).1=n.map Sum.inl)=false from hV λq=>e ((List.map_inj_right λa b e=>Sum.inl.inj e).mp q)]
    exact v1
theorem M9{l:List D}{n: ~~~0}{d:D}(hK:z.K=X.K)(hu:X.A.units+1<cLine)(hi:cU l=some n)(h:SJ ks ds n=some d):K9 X z (.uR ks ds) (.tup l) (.dat d):=by
 refine⟨_,Fq hu,λg Y L M H v1 v2 Q s q1 q2 kk=>?_⟩
 obtain⟨b,ys,rfl,hb,rb⟩:=q2.tup;have e:=dU rb hi;subst e;cases q1 with
 |of q1=>cases q1 with
  |uR na ha hl rr=>obtain⟨v,e1,e2⟩:=qX rr h;exact⟨_,b,_,n.map Sum.inl,v,rfl,rfl,ha,by rw[Al];exact hK▸hb.sq,e1,kk _ H L M s (ak.refl _ _) e2⟩
end
section
variable{X:Cx}{z:Z}{g g1:G}{pos:Pos}
theorem Nb(h0:0<=j)(h1:j<=1000000)(h2:i.natAbs<2 ^ 64):gD X z (binaryOp .LShift) (.int i) (.int j) (.dat (.int (i * 2 ^ j.toNat))):=by
 refine⟨λx y H Q=>x=.int i/\y=.int j/\Q (.int (i * 2 ^ j.toNat)) H,λah s Y H x y v u Q I r1 r2 h=>?_,λg Y L M H v1 v2 Q s q1 q2 kk=>⟨q1.int,q2.int,kk _ H L M s (ak.refl _ _) (.int _)⟩⟩
 obtain⟨rfl,rfl,q⟩:=h;obtain⟨t,rfl⟩:=r1;obtain⟨t',rfl⟩:=r2;exact lshift_int_small h0 h1 h2 ⟨.int _,H,I.tok _,⟨_,rfl⟩,q⟩
end
open L2 PySem.W SeqAt
open L2 PySem.W SeqAt
open L2 PySem.W SeqAt
open L2 PySem.W SeqAt
open L2 PySem.W
def tx(l:List Nat):Str:=⟨l.toArray⟩
theorem Am(x:Str):tx x.cps.toList=x:=rfl
theorem fE(l:List Nat):(tx l).cps.toList=l:=rfl
theorem bU(l:List Nat):(tx l).length=l.length:=by simp[tx,Str.length]
theorem tL(l m:List Nat):tx l++tx m=tx (l++m):=by show Str.append (tx l) (tx m)=_;simp[tx,Str.append]
noncomputable def fF:List D->Option (List (List Nat))
 | []=>some []
 |.str x::l=>match fF l with |some m=>some (x.cps.toList::m) |none=>none
 |_=>none
def dS(l:List Nat):D:=.str (tx l)
theorem lB:∀{l:List D}{m:List (List Nat)},fF l=some m->l=m.map dS
 | [],m,h=>by symm;rfl
 |.str x::l,m,h=>by
  unfold fF at h;split at h
  . rename_i m' e;symm;rw[lB e];rfl
  . symm
 |.non::_,_,h |.bl _::_,_,h |.int _::_,_,h |.tup _::_,_,h |.lst _::_,_,h |.fix _::_,_,h |.emp::_,_,h |.uQ _::_,_,h |.uR _ _::_,_,h=>by symm
theorem fO:∀m:List (List Nat),fF (m.map dS)=some m
 | []=>rfl
 |l::m=>by
  show (match fF (m.map dS)with |some m=>some ((tx l).cps.toList::m) |none=>none)=_
  rw[fO m];rfl
theorem nF{K:Frag}{M:List Addr}{H:Hp}:∀m:List (List Nat),aG K M H (m.map dS) (m.map λl=>V.str (tx l))
 | []=>.nil
 |l::m=>.cons (.str (tx l)) (nF m)
theorem jc{K:Frag}{M:List Addr}{H:Hp}:∀{m:List (List Nat)}{xs:List V},aG K M H (m.map dS) xs->xs=m.map λl=>V.str (tx l)
 | [],_,h=>by symm;rfl
 |l::m,_,h=>by
  cases h with
  |cons a b=>rw[jc b];cases a;rfl
theorem lC:∀{m:List (List Nat)}{us:List Value},Vals (m.map λl=>V.str (tx l)) us->StrsAre us (m.map tx)
 | [],_,h=>by symm;exact .nil
 |l::m,_,h=>by
  cases h with
  |cons a b=>obtain⟨t,rfl⟩:=a;exact .cons _ t (lC b)
theorem qY:∀{m:List (List Nat)}{us:List Value},StrsAre us (m.map tx)->Vals (m.map λl=>V.str (tx l)) us
 | [],_,h=>by symm;exact .nil
 |l::m,_,h=>by
  cases h with
  |cons _ t b=>exact .cons ⟨t,rfl⟩ (qY b)
noncomputable def xE(a:List Nat):List (List Nat)->List (List Nat)
 | []=>[a]
 |b::l=>if b<a then b::xE a l else a::b::l
def aM:List (List Nat)->List (List Nat)
 | []=>[]
 |a::l=>xE a (aM l)
def qZ(a b:List Nat):Prop:=¬ b<a
theorem jd(a:List Nat):∀l,(xE a l).Perm (a::l)
 | []=>nV _
 |b::l=>by
  unfold xE;split
  . exact ((jd a l).cons b).trans (List.Perm.swap a b l)
  . exact nV _
theorem eK:∀l,(aM l).Perm l
 | []=>nV _
 |a::l=>(jd a _).trans ((eK l).cons a)
theorem qZ.trans{a b c:List Nat}(h1:qZ a b)(h2:qZ b c):qZ a c:=List.le_trans (l₁:=a) (l₂:=b) (l₃:=c) h1 h2
theorem qZ.anti{a b:List Nat}(h1:qZ a b)(h2:qZ b a):a=b:=List.le_antisymm (as:=a) (bs:=b) h1 h2
theorem jB(a:List Nat):∀{l:List (List Nat)},l.Pairwise qZ->(xE a l).Pairwise qZ
 | [],_=>xI _ _
 |b::l,h=>by
  obtain⟨h1,h2⟩:=mE.mp h;unfold xE;split
  .
   rename_i hab;refine mE.mpr ⟨λx hx=>?_,jB a h2⟩
   rcases c6.mp ((jd a l).mem_iff.mp hx)with rfl |hx
   . exact List.lt_asymm hab
   . exact h1 x hx
  .
   rename_i hab;refine mE.mpr ⟨λx hx=>?_,h⟩
   rcases c6.mp hx with rfl |hx
   . exact hab
   . exact qZ.trans hab (h1 x hx)
theorem eL:∀l,(aM l).Pairwise qZ
 | []=>List.Pairwise.nil
 |a::l=>jB a (eL l)
theorem lD{l m:List (List Nat)}(hp:m.Perm l)(hs:m.Pairwise qZ):m=aM l:=
 (hp.trans (eK l).symm).eq_of_pairwise (λx y _ _ h1 h2=>qZ.anti h1 h2) hs (eL l)
theorem tM(l:List (List Nat)):aM (aM l)=aM l:=(lD (nV _) (eL l)).symm
theorem SM:∀(p:Str) (l:List Str),risingS p l=true->(p::l).Pairwise λa b=>qZ a.cps.toList b.cps.toList
 |p,[],_=>xI _ _
 |p,x::r,h=>by
  have h:(!ltCps x.cps.toList p.cps.toList&&risingS x r)=true:=h;rw[eM,Bool.not_eq_true',ltCps_eq]at h;have q:=SM x r h.2;have h1:qZ p.cps.toList x.cps.toList:=of_decide_eq_false h.1;refine mE.mpr ⟨λy hy=>?_,q⟩
  rcases c6.mp hy with rfl |hy
  . exact h1
  . exact qZ.trans h1 ((mE.mp q).1 y hy)
theorem Xg(l:List Str)(h:sortedS l=true):(l.map λx=>x.cps.toList).Pairwise qZ:=by
 rw[List.pairwise_map];cases l with
 |nil=>exact .nil
 |cons x l=>exact SM x l h
section
variable{X:Cx}{z:Z}
theorem pC:cL X (.builtin "sorted") (λxs H Q=>∃p m,xs=[.ref p]/\bH X.K H p (m.map λl=>V.str (tx l))/\m.length<64/\∀q,H q=none->Q (.ref q) (upd H q (.lst ((aM m).map λl=>V.str (tx l))))):=by
 intro ah s Y H xs us Q I r h;obtain⟨p,m,rfl,hq,hl,q⟩:=h;obtain⟨u,rfl,rx⟩:=vals1 r;cases rx;obtain⟨aq,r',pl,hz⟩:=I.list hq;have aJ:=r'.length;rw[eC]at aJ;refine sorted_strs pl.isList (lC r') ⋯ λout ss' a1 a2 a3=>?_
 have b1:=Xg ss' a3;have b2:(ss'.map λx=>x.cps.toList).Perm m:=by
  have:=a2.map λx:Str=>x.cps.toList
  rw[List.map_map]at this;have e:((λx:Str=>x.cps.toList) ∘ tx)=id:=funext λl=>fE l
  rw[e,List.map_id]at this;exact this
 have e:=lD b2 b1;have e2:ss'=(aM m).map tx:=by
  rw[<- e,List.map_map];have:(tx ∘ λx:Str=>x.cps.toList)=id:=funext λx=>Am x
  rw[this,List.map_id]
 subst e2;obtain⟨ep,he⟩:=sortedAll_at s.heap aq out;have aJ:=(eK m).length_eq;refine⟨.ref (s⁻¹+1),_,I.laid (λb o e=>sortedAll_old e) (AE _) ?_,rfl,q _ (I.hok.fresh (AE _))⟩
 refine⟨by rw[eC,lS];lia,out.toList,ep,qY a1,?_⟩
 rw[he]
theorem tN{l:List D}{m:List (List Nat)}(hi:fF l=some m)(hl:m.length<64):CallD X z (.builtin "sorted") [.lst l] (.new ((aM m).map dS)):=by
 refine⟨_,pC,λg Y L M H vs Q s p k=>?_⟩
 obtain⟨v,rfl,pv⟩:=p.one;obtain⟨a,xs,rfl,e1,e2⟩:=pv.list;rw[lB hi]at e2;have:=jc e2;subst this;exact⟨a,m,rfl,bH.of e1,hl,λq hq=>k _ _ L (q::M) (s.aL hq) (ak.aL hq) ⟨q,_,rfl,bP,λhA=>s.fresh hq (s.sub q hA),s.bE hq,aA,nF _⟩⟩
theorem GK{x y:Str}(h:x.length+y.length<=16777216):gD X z (binaryOp .Add) (.str x) (.str y) (.dat (.str (x++y))):=
 ⟨_,sL,λg Y L M H v1 v2 Q s p1 p2 kk=>⟨x,y,p1.str,p2.str,by rw[lS];exact h,kk _ H L M s (ak.refl _ _) (.str _)⟩⟩
def vf(b:Bool):Int:=if b=true then 1 else 0
theorem GL{i:Int}{b:Bool}:gD X z (binaryOp .Add) (.int i) (.bl b) (.dat (.int (i+vf b))):=by
 refine⟨λx y H Q=>x=.int i/\y=.bl b/\Q (.int (i+vf b)) H,?_,λg Y L M H v1 v2 Q s p1 p2 kk=>⟨p1.int,p2.bl,kk _ H L M s (ak.refl _ _) (.int _)⟩⟩
 rintro ah s Y H x y v u Q I rx ry ⟨rfl,rfl,q⟩;obtain⟨t,rfl⟩:=rx;cases ry;exact add_int_bool ⟨.int (i+vf b),H,I.tok _,⟨_,rfl⟩,q⟩
theorem GP{i:Int}{b:Bool}:gD X z (binaryOp .Sub) (.int i) (.bl b) (.dat (.int (i - vf b))):=by
 refine⟨λx y H Q=>x=.int i/\y=.bl b/\Q (.int (i - vf b)) H,?_,λg Y L M H v1 v2 Q s p1 p2 kk=>⟨p1.int,p2.bl,kk _ H L M s (ak.refl _ _) (.int _)⟩⟩
 rintro ah s Y H x y v u Q I rx ry ⟨rfl,rfl,q⟩;obtain⟨t,rfl⟩:=rx;cases ry;exact PySem.IntBool.sub_int_bool ⟨.int (i - vf b),H,I.tok _,⟨_,rfl⟩,q⟩
theorem GQ{x:Str}{i:Int}{c:Nat}(hl:x.length<=16777216)(h:dD x.cps.toList i=some c):K9 X z (.str x) (.int i) (.dat (.str (tx [c]))):=
 ⟨_,KY,λg Y L M H v1 v2 Q s q1 q2 kk=>⟨x,i,c,q1.str,q2.int,by rw[lS];exact hl,h,kk _ H L M s (ak.refl _ _) (.str _)⟩⟩
theorem GR{x:Str}(hl:x.length<=16777216):CallD X z (.builtin "len") [.str x] (.dat (.int x.length)):=by
 refine⟨_,oK,λg Y L M H vs Q s p k=>?_⟩
 obtain⟨v,rfl,pv⟩:=p.one;exact⟨x,by rw[pv.str],by rw[lS];exact hl,k _ H L M s (ak.refl _ _) (.int _)⟩
noncomputable def GX(x y:Str):Bool:=!(Builtin.Str.occurrences y x 0 y.length 1).isEmpty
theorem xF{x y:Str}:gD X z (compareOp .NotIn) (.str x) (.str y) (.dat (.bl (!GX x y))):=
 ⟨_,ou,λg Y L M H v1 v2 Q s p1 p2 kk=>⟨x,y,p1.str,p2.str,kk _ H L M s (ak.refl _ _) (.bl _)⟩⟩
end
open PySem.Builtin PySem.Builtin.Str
theorem Ao(n:Nat)(hi:Option Int):HT.bA n n hi<=n:=by
 cases hi with
 |none=>exact dC _
 |some v=>
  show (if v<0 then (v+(n:Int)).toNat else min v.toNat n)<=n
  split <;> lia
theorem SN(n:Nat)(lo hi:Option Int):strSliceIndices lo hi 1 n=(List.range (HT.bA n n hi - HT.bA n 0 lo)).map (HT.bA n 0 lo + ·):=by
 rw[<- sliceRange_one];unfold strSliceIndices;dsimp only
 congr 1
 .
  cases lo with
  |none=>rfl
  |some v=>
   show (if (1:Int) > 0 then _ else _)=(((if v<0 then (v+(n:Int)).toNat else min v.toNat n):Nat):Int)
   rw[eR ⋯];split <;> lia
 .
  cases hi with
  |none=>rfl
  |some v=>
   show (if (1:Int) > 0 then _ else _)=(((if v<0 then (v+(n:Int)).toNat else min v.toNat n):Nat):Int)
   rw[eR ⋯];split <;> lia
theorem tQ(x:Str)(lo hi:Option Int):(strSliceIndices lo hi 1 x.length).filterMap (x.cps[·]?)=bQ x.cps.toList lo hi:=by
 have hl:x.cps.toList.length=x.length:=by simp[Str.length]
 rw[SN];unfold bQ;rw[hl];have hb:=Ao x.length hi;by_cases h:HT.bA x.length 0 lo<=HT.bA x.length x.length hi
 . have:=StrLaws.picks x.cps.toList (HT.bA x.length x.length hi - HT.bA x.length 0 lo) (HT.bA x.length 0 lo) ⋯;simpa using this
 . rw[Nat.sub_eq_zero_of_le ⋯];simp
theorem GZ(x:Str){lo hi:Option Int}(h:(strSliceIndices lo hi 1 x.length).length=x.length):bQ x.cps.toList lo hi=x.cps.toList:=by
 have hl:x.cps.toList.length=x.length:=by simp[Str.length]
 rw[SN,eC,List.length_range]at h;have hb:=Ao x.length hi;unfold bQ;rw[hl];by_cases h0:x.length=0
 . rw[h0]at hl;rw[x0 hl];simp
 .
  have h1:HT.bA x.length 0 lo=0:=by lia
  rw[h1,List.drop_zero,List.take_of_length_le ⋯]
theorem vg{α:Type}(l:List α)(lo hi:Option Int):(bQ l lo hi).length<=l.length:=by unfold bQ;rw[u4,AD];lia
theorem lE{v:Value}{o:Option Int}(h:IsPart v o):∃p:Option (Int×Tok),v=partValue p/\o=p.map (·.1):=by
 cases h with
 |none=>exact⟨none,rfl,rfl⟩
 |int i t=>exact⟨some (i,t),rfl,rfl⟩
section
variable{X:Cx}{z:Z}{g g1 g2 g3:G}{a:Expr}{lo hi:Option Expr}{p1 p2 p3 pos:Pos}{j:Nat}
def Xh:V->Option Int->Option Int->Hp->VK->Prop:=λx lo hi H Q=>∃y:Str,x=.str y/\y.length<=16777216/\Q (.str (tx (bQ y.cps.toList lo hi))) H
theorem Nc:Ri X Xh:=by
 intro ah s Y H x v vl vu lo hi sl Q I rx hs pl pu h;obtain⟨y,rfl,hy,q⟩:=h;obtain⟨t,rfl⟩:=rx;obtain⟨l,rfl,rfl⟩:=lE pl;obtain⟨u,rfl,rfl⟩:=lE pu;refine⟨"str",_,F.slot_str_getitem.lookup,typeIs_str s y t,?_⟩;refine wpAny_getItem_str_slice (l:=l) (u:=u) (st:=none) hs rfl ?_;have e:=tQ y (l.map (·.1)) (u.map (·.1));have e2:slicePicked y l u none=strSliceIndices (l.map (·.1)) (u.map (·.1)) 1 y.length:=rfl;unfold sliceMade;rw[e2];split
 . rename_i hw;rw[eM]at hw;rw[GZ y (eq_of_beq hw.2)]at q;exact⟨.str y,H,I,⟨_,rfl⟩,q⟩
 .
  rw[e];have hl:y.cps.toList.length=y.length:=by simp[Str.length]
  have:=vg y.cps.toList (l.map (·.1)) (u.map (·.1));exact⟨by rw[lS];show (tx _).length<=_;rw[bU];lia,.str _,H,I.tok _,⟨_,rfl⟩,q⟩
theorem xG{x:Str}{i j:Option Int}(hx:x.length<=16777216)(h:au X z a g (.dat (.str x)) g1)(h1:kW X z lo g1 i g2)(h2:kW X z hi g2 j g3):au X z (.Subscript a (.Slice lo hi none p2) pos) g (.dat (.str (tx (bQ x.cps.toList i j)))) g3:=by
 obtain⟨t,q,k⟩:=h;obtain⟨t1,q1,k1⟩:=h1;obtain⟨t2,q2,k2⟩:=h2;refine⟨_,ig Nc q q1 q2,λY L M H Q s kk=>k Y L M H _ s λv H1 aR M1 s1 bN R=>k1 Y aR M1 H1 _ s1 λH2 bq M2 s2 aP=>k2 Y bq M2 H2 _ s2 λH3 iR M3 s3 eV=>?_⟩
 have R':=R;cases R';exact⟨x,rfl,hx,kk _ _ iR M3 s3 ((bN.trans aP).trans eV) (.str _)⟩
theorem picked_rev(x:Str):(strSliceIndices none none (-1) x.length).filterMap (x.cps[·]?)=x.cps.toList.reverse:=by rw[PyProof.Rows.picked_rev,PySem.W.krv_range,List.filterMap_reverse];have:=PySem.W.krv_all x.cps;rw[show x.length=x.cps.size from rfl,this]
theorem G0{x:Str}(hx:x.length<=16777216)(h:au X z a g (.dat (.str x)) g1):au X z (.Subscript a (.Slice none none (some (m1 j p1 p3)) p2) pos) g (.dat (.str (tx x.cps.toList.reverse))) g1:=by
 obtain⟨t,q,k⟩:=h;refine⟨_,tG (r:=λx H Q=>∃y:Str,x=.str y/\y.length<=16777216/\Q (.str (tx y.cps.toList.reverse)) H) q (λah s Y H x v vs sl Q I rx hs ps hx=>?_) W6,λY L M H Q s kk=>k Y L M H _ s λv H1 aR M1 s1 bN R=>?_⟩
 .
  obtain⟨y,rfl,hy,hq⟩:=hx;obtain⟨t,rfl⟩:=rx;obtain⟨u,rfl,e⟩:=lE ps;refine⟨"str",_,F.slot_str_getitem.lookup,typeIs_str s y t,?_⟩;have e1:(u.map (·.1)).getD 1 = -1:=by rw[<- e];rfl
  refine wpAny_getItem_str_slice (l:=none) (u:=none) (st:=u) hs (by rw[e1];rfl) ?_
  have e2:slicePicked y none none u=strSliceIndices none none (-1) y.length:=by unfold slicePicked;rw[e1];rfl
  unfold sliceMade;rw[e2,e1,fI ⋯,picked_rev];have hl:y.cps.toList.length=y.length:=by simp[Str.length]
  exact⟨by rw[lS];show (tx _).length<=_;rw[bU,xL];lia,.str _,H,I.tok _,⟨_,rfl⟩,hq⟩
 . have R':=R;cases R';exact⟨x,rfl,hx,kk _ _ aR M1 s1 bN (.str _)⟩
end
def mw(x:Str):List D:=x.cps.toList.map λc=>D.str (tx [c])
noncomputable def YS(x:Str):It:=⟨λi _=>i<x.cps.size,λi H y H'=>H'=H/\∃c,x.cps[i]?=some c/\y=.str (tx [c]),λi _=>x.cps.size<=i⟩
theorem rm{P:Program}{w:World}{K:Frag}{tg:Expr}{ty:String}{x:Str}{t:Tok}(it:Addr)(hty:["enumerate", "zip", "dict_itemiterator", "dict_reverseitemiterator", "odict_iterator", "itertools.zip_longest", "itertools.pairwise"].contains ty=false)
  (nxt:∀(A:Around) (E:Value->Shared->Prop) (s:Shared) (i c:Nat) (Q:Option Value->Shared->Prop),s.heap.IsStrIter it ty x t i->x.cps[i]?=some c->(∀h',h'.IsStrIter it ty x t (i+1)->Heap.SameBut it s.heap h'->Q (some (.str ⟨#[c]⟩ s.toks)) { s with heap:=h',toks:=s.toks+1})->wpAny (model P w) A (pyNext (.ref it)) Q E s)
  (fin:∀(A:Around) (E:Value->Shared->Prop) (s:Shared) (i:Nat) (Q:Option Value->Shared->Prop),A.handled=none->s.heap.IsStrIter it ty x t i->x.cps[i]?=none->(∀h',Heap.ExtBut it s.heap h'->Q none { s with heap:=h'})->wpAny (model P w) A (pyNext (.ref it)) Q E s)
  (slf:∀(A:Around) (i:Nat) (s:Shared) (Q:Value->Shared->Prop) (E:Value->Shared->Prop),s.heap.IsStrIter it ty x t i->Q (.ref it) s->wpAny (model P w) A (pyIter (.ref it)) Q E s) :
  Turn P w K tg (YS x) [it] it (λi h=>h.IsStrIter it ty x t i) where
 mem:=by simp
 obj:=λi h st b hb=>by
  have e:b=it:=by simpa using hb
  subst e;obtain⟨o,e,c,d⟩:=st;exact⟨o,e,λv z=>by rw[d]at z;cases z⟩
 keep:=λi h h' st k=>let ⟨o,e,c⟩:=st;⟨o,k it ⋯ o e,c⟩
 item:=by
  intro X hP hw hK hc i ah s Y H E I hf st hg;subst hP hw hK;have hg:i<x.cps.size:=hg;obtain⟨f0,f1,f2,f3,f4,f5⟩:=hf it ⋯;refine nxt _ _ s i x.cps[i] _ st (by simp[hg]) λh' st' sb=>?_
  have I1:=I.turned (t':=s.toks+1) (λb o hb e=>(sb.2 b hb).trans e) f0 f1 f3 f4 f5
  obtain⟨o,e,c,d⟩:=id st';exact⟨_,rfl,uK e c d hty ⟨.str (tx [x.cps[i]]),H,I1,⟨_,rfl⟩,⟨rfl,x.cps[i],by simp[hg],rfl⟩,st',λb hb=>(hf b hb).1⟩⟩
 done:=by intro X hP hw hK hc i ah s Y H E I hf st hg;subst hP hw hK;have hg:x.cps.size<=i:=hg;obtain⟨f0,f1,f2,f3,f4,f5⟩:=hf it ⋯;exact fin _ _ s i _ (I.ok.hd hc) st (by simp[hg]) λh' eb=>⟨rfl,I.turned (λb o hb e=>eb b o hb e) f0 f1 f3 f4 f5⟩
 self:=λA i s Q E st h=>slf A i s Q E st h
section
variable{X:Cx}{z:Z}{g g1:G}{tg iter e:Expr}{tl:TE}{jn:Nat}{ap cp kp:Pos}
def Xi(tl:TE):TI:=λY H R=>tl Y H λy H1=>∃x:Str,y=.str x/\R (YS x) H1
theorem Aq(hl:PE X iter tl):PI X tg iter (Xi tl):=by
 intro ah s Y H R I h;refine bG (hl ah s Y H _ I h) ?_;rintro v s1 ⟨y,H1,I1,r1,x,rfl,q⟩;obtain⟨t,rfl⟩:=r1;have fp:∀b∈[s1⁻¹],gZ X ah H1 b:=λb hb=>by
  have e:b=s1⁻¹:=by simpa using hb
  subst e;exact I1.v7 (dC _) (I1.hok.fresh (dC _))
 cases ha:x.cps.all (· < 128)with
 |false=>refine wpAny_pyIter_wide ha ⟨s1⁻¹,[s1⁻¹],_,_,H1,rfl,I1.kept λb o e=>a9 _ e,rm (ty:= "str_iterator") (t:=t) _ ⋯ (λA E s i c Q a b d=>wpAny_pyNext_wide_item a b d) (λA E s i Q a b d e=>wpAny_pyNext_wide_end a b d e) (λA i s Q E a b=>wpAny_pyIter_striter_wide a b),⟨_,d0 _ rfl,rfl,rfl⟩,fp,q⟩
 |true=>refine wpAny_pyIter_ascii ha ⟨s1⁻¹,[s1⁻¹],_,_,H1,rfl,I1.kept λb o e=>a9 _ e,rm (ty:= "str_ascii_iterator") (t:=t) _ ⋯ (λA E s i c Q a b d=>wpAny_pyNext_ascii_item a b d) (λA E s i Q a b d e=>wpAny_pyNext_ascii_end a b d e) (λA i s Q E a b=>wpAny_pyIter_striter_ascii a b),⟨_,d0 _ rfl,rfl,rfl⟩,fp,q⟩
theorem Nf{x:Str}(h:au X z iter g (.dat (.str x)) g1):fV X z tg iter g (mw x) g1:=by
 obtain⟨t,q,k⟩:=h;refine⟨_,Aq q,λY L M H R s kk=>k Y L M H _ s λv H1 aR M1 s1 bN r=>?_⟩
 have r':=r;cases r';refine⟨x,rfl,kk _ H1 aR M1 s1 bN λM2 H2 aP=>⟨λn d hd=>?_,by show x.cps.size<=(mw x).length;simp[mw]⟩⟩
 unfold mw at hd;rw[sT]at hd;obtain⟨c,hc,rfl⟩:=AO.mp hd;have hc':x.cps[n]?=some c:=by simpa using hc
 refine⟨(Array.getElem?_eq_some_iff.mp hc').1,λy H' hy z' g' σ' aC _ s'=>?_⟩
 obtain⟨rfl,c2,e,rfl⟩:=hy;rw[hc']at e;cases e;exact⟨s',ak.refl _ _,.str _⟩
theorem tR(x:Str){acc:Array Value}(h:ItemsOf (SignAt x) acc x.cps.size):Vals (x.cps.toList.map λc=>V.str (tx [c])) acc.toList:=by
 have key:∀(l:List Nat) (vs:List Value),l.length=vs.length->(∀(j:Nat) (v:Value),vs[j]?=some v->∃c u,l[j]?=some c/\v=.str ⟨#[c]⟩ u)->Vals (l.map λc=>V.str (tx [c])) vs:=by
  intro l
  induction l with
  |nil=>intro vs hl _;cases vs with |nil=>exact .nil |cons _ _=>simp at hl
  |cons c l ih=>
   intro vs hl h;cases vs with
   |nil=>simp at hl
   |cons v vs=>
    obtain⟨c',u,e,rfl⟩:=h 0 v rfl;cases (show some c=some c' from e)
    exact .cons ⟨u,rfl⟩ (ih vs (by simpa using hl) λj v hj=>h (j+1) v hj)
 refine key _ _ (by simp[h.1]) λj v hj=>?_
 obtain⟨c,u,e,r⟩:=h.2 j v (by simpa using hj)
 exact⟨c,u,by simpa using e,r⟩
theorem tT(hc:X.calm=true):cL X (.type "list") (λxs H Q=>∃x:Str,xs=[.str x]/\x.length<=16777216/\∀l,H l=none->Q (.ref l) (upd H l (.lst (x.cps.toList.map λc=>V.str (tx [c]))))):=by
 intro ah s Y H xs us Q I r h;obtain⟨x,rfl,hx,q⟩:=h;obtain⟨u,rfl,rx⟩:=vals1 r;obtain⟨t,rfl⟩:=rx;refine call_list_str (I.ok.hd hc) x t (λh' tk acc' c' kp e it=>?_) (by rw[lS];exact hx)
 refine⟨.ref s⁻¹,_,I.laid kp (dC _) ?_,rfl,q _ (I.hok.fresh (dC _))⟩;exact⟨by rw[eC,lS];simpa [Str.length]using hx,acc'.toList,c',tR x it,by rw[e]⟩
theorem Ar{x:Str}(hc:X.calm=true)(hl:x.length<=16777216):CallD X z (.type "list") [.str x] (.new (mw x)):=by
 refine⟨_,tT hc,λg Y L M H vs Q s p k=>?_⟩
 obtain⟨v,rfl,pv⟩:=p.one;refine⟨x,by rw[pv.str],hl,λq hq=>k _ _ L (q::M) (s.aL hq) (ak.aL hq) ⟨q,_,rfl,bP,λhA=>s.fresh hq (s.sub q hA),s.bE hq,aA,?_⟩⟩
 have key:∀(M':List Addr) (H':Hp) (l:List Nat),aG z.K M' H' (l.map λc=>D.str (tx [c])) (l.map λc=>V.str (tx [c])):=λM' H' l=>by
  induction l with
  |nil=>exact .nil
  |cons c l ih=>exact .cons (.str _) ih
 exact key _ _ _
theorem vh:∀m:List (List Nat),Str.join Str.empty (m.map tx)=tx m.flatten
 | []=>rfl
 | [l]=>by show tx l=_;simp
 |l::l'::m=>by
  show tx l++Str.empty++Str.join Str.empty ((l'::m).map tx)=_;rw[vh (l'::m),show Str.empty=tx []from rfl,tL,tL]
  simp
theorem G3:U3 X "str.join" (λx xs H Q=>∃(p:Addr) (m:List (List Nat)),x=.str Str.empty/\xs=[.ref p]/\bH X.K H p (m.map λl=>V.str (tx l))/\(m.map List.length).sum<=16777216/\Q (.str (tx m.flatten)) H):=by
 rintro ah s Y H x xs v us Q I rx rv ⟨p,m,rfl,rfl,hq,hl,q⟩;obtain⟨t,rfl⟩:=rx;obtain⟨u,rfl,ru⟩:=rv.one;cases ru;obtain⟨aq,r',pl,hz⟩:=I.list hq;refine join_list (x:=Str.empty) pl.isList (lC r') ?_ λt' k=>?_
 .
  have e:((m.map tx).map λx=>x.length)=m.map List.length:=by rw[List.map_map];exact AF λl _=>bU l
  rw[e];simpa [Str.empty,Str.length]using hl
 . refine⟨.str (tx m.flatten),H,I.tok _,⟨t',?_⟩,q⟩;show Value.str (Txt.join Str.empty (m.map tx)) t'=_;unfold Txt.join;rw[StrLaws.glued_eq_join,vh]
theorem G4{r:R}{l:List D}{m:List (List Nat)}(hK:z.K=X.K)(h:au X z e g r g1)(hp:pk r g1=some (.lst l))(hm:fF l=some m)(hl:(m.map List.length).sum<=16777216)(gX:starEach [e] X.env=(false,eval e X.env)::starEach [] X.env)(hline:(ap.endLine==cp.line)=true)
  (hfew:((backTo cp (starEach [e] X.env)).all (λx=>!x.1)&&(backToKw cp (keywordEach [] X.env)).all (λx=>x.1.isSome)&&decide ([e].length+([]:List Keyword).length+(if ([]:List Keyword).isEmpty then 0 else 1)<30))=true) :
  au X z (.Call (.Attribute (.Constant (.str Str.empty) jn kp) "join" ap) [e] [] cp) g (.dat (.str (tx m.flatten))) g1:=by
 obtain⟨t,q,k⟩:=h;refine⟨_,mR F.plainAttrs_str F.slot_str_join F.type_str_join G3 yF (bD q bZ gX) rfl hfew hline gX rfl,λY L M H Q s kk=>?_⟩
 refine⟨rfl,k Y L M H _ s λv H1 aR M1 s1 bN R=>?_⟩
 obtain⟨b,xs,rfl,e1,e2⟩:=(s1.pk (ak.refl _ _) R hp).list;rw[lB hm]at e2;have:=jc e2;subst this;exact⟨b,m,rfl,rfl,bH.of e1,hl,kk _ H1 aR M1 s1 bN (.str _)⟩
end
def bM(g:G):Bool:=g.all λs=>match s with |.own _=>false |_=>true
theorem Slots.Ng{K:Frag}{M:List Addr}{H:Hp}{g:G}{Y:Sg}{L:List Addr}(q:Slots K M H g Y L):bM g=true->L=[]:=by
 induction q with
 |nil=>intro _;rfl
 |no _ ih=>intro h;exact ih (by simpa [bM]using h)
 |dat _ _ ih=>intro h;exact ih (by simpa [bM]using h)
 |own _ _ _ ih=>intro h;simp[bM]at h
theorem gK{g:G}{i:Nat}{d:D}(h:bM g=true):bM (g.set i (.dat d))=true:=by
 unfold bM at *;rw[tP]at *;intro s hs;rcases List.mem_or_eq_of_mem_set hs with q |q
 . exact h s q
 . rw[q]
section
variable{z:Z}{g:G}{Y:Sg}{L M M3 M1:List Addr}{H H1:Hp}{ps:List Addr}
theorem Slots.forget{K:Frag}{d:D}:∀{g:G}{Y:Sg}{L:List Addr}{i:Nat},Slots K M H (g.set i (.dat d)) Y L->g[i]?=some .no->Slots K M H g Y L
 | [],_,_,_,_,e=>by cases e
 |s::g,Y,L,0,q,e=>by
  cases (show some s=some .no from e)
  cases q with
  |dat _ q=>exact .no q
 |s::g,Y,L,i+1,q,e=>by
  have e':g[i]?=some .no:=e;cases q with
  |no q=>exact .no (q.forget e')
  |dat r q=>exact .dat r (q.forget e')
  |own h r q=>exact .own h r (q.forget e')
theorem S.forget{d:D}{i:Nat}(s:S z (g.set i (.dat d)) Y L M H)(e:g[i]?=some .no):S z g Y L M H:=by
 have hi:=(dA.mp e).1;have un:∀(j:Nat) (l:List D),g[j]?=some (.own l)->(g.set i (.dat d))[j]?=some (.own l):=λj l h=>by
  rw[dL (λz=>by subst z;rw[e]at h;symm)];exact h
 have nu:∀(j:Nat) (l:List D),(g.set i (.dat d))[j]?=some (.own l)->g[j]?=some (.own l):=λj l h=>by
  by_cases q:i=j
  . subst q;rw[fR hi]at h;symm
  . rw[dL q]at h;exact h
 exact⟨s.sl.forget e,s.nd,s.sub,λj a l h1 h2=>s.own j a l (un j l h1) h2,s.live,s.keep,s.ju,s.m0,s.bm,λp hp=>let ⟨q1,l,q2⟩:=s.jv p hp;⟨q1,l,nu _ _ q2⟩,s.tab,s.tm,s.tt⟩
theorem S.open(s:S z g Y [] M H)(hps:∀p∈ps,p∈M/\∃xs,H p=some (.lst xs))(n3:∀p∈ps,p∉M3)(sub:∀m∈M3,m∈M){g1:G}{σ1:Sg}{A1:List Addr}(s1:S z g1 σ1 A1 M1 H1)(bN:ak M3 H M1 H1) :
  S z g Y [] (ps++M1) H1/\ak M H (ps++M1) H1/\∀p∈ps,H1 p=H p:=by
 have kp:∀p∈ps,H1 p=H p:=λp hp=>by
  obtain⟨xs,e⟩:=(hps p hp).2;rw[e];exact (bN p _ e (n3 p hp)).1
 have stM:ak M H (ps++M1) H1:=λb o e hb=>by
  have h1:=bN b o e λhm=>hb (sub b hm)
  refine⟨h1.1,λhm=>?_⟩
  rcases gL.mp hm with hm |hm
  . exact hb (hps b hm).1
  . exact h1.2 hm
 refine⟨⟨s.sl.stay stM λa ha=>(nomatch ha),s.nd,λa ha=>(nomatch ha),s.own,λm hm=>?_,s1.keep,λm hm=>fN _ (s1.ju m hm),s.m0,s.bm,s.jv,s1.tab,s.tm,s.tt⟩,stM,kp⟩
 rcases gL.mp hm with hm |hm
 . obtain⟨xs,e⟩:=(hps m hm).2;exact .inl ⟨.lst xs,by rw[kp m hm];exact e,trivial⟩
 . exact s1.live m hm
end
def RA(z:Z)(g:G)(iy:Nat)(M0:List Addr)(H0:Hp)(a:Addr)(as:List Addr)(ll:List (List D))(Y:Sg)(H:Hp):Prop:=
 ∃M,S z g Y [] M H/\ak M0 H0 M H/\Y[iy]?=some (some (.ref a))/\a∈M/\z.H0 a=none/\H a=some (.lst (as.map .ref))/\a∉as/\as.Nodup/\dG z [] M H as ll
section
variable{X:Cx}{z:Z}{g:G}{iy:Nat}{M0:List Addr}{H0:Hp}{a:Addr}{as:List Addr}{ll:List (List D)}{Y:Sg}{H:Hp}
theorem RA.shut(h:RA z g iy M0 H0 a as ll Y H):∃M3,S z g Y [] M3 H/\∀{g1:G}{σ1:Sg}{A1 M1:List Addr}{H1:Hp},S z g1 σ1 A1 M1 H1->ak M3 H M1 H1->RA z g iy M0 H0 a as ll Y H1:=by
 obtain⟨M,s,st,e1,hm,h0,ha,na,nd,rl⟩:=h;obtain⟨M3,s3,k3,k4⟩:=S.ve (a::as) s λp hp=>by
  rcases c6.mp hp with rfl |hp
  . exact⟨(λz=>nomatch z),h0⟩
  . exact⟨(rl.mem p hp).2.1,(rl.mem p hp).2.2.1⟩
 refine⟨M3,s3,λ{g1 σ1 A1 M1 H1} s1 bN=>?_⟩
 obtain⟨q1,q2,q3⟩:=s.open (ps:=a::as) (λp hp=>by
  rcases c6.mp hp with rfl |hp
  . exact⟨hm,_,ha⟩
  .
   exact⟨(rl.mem p hp).1,(rl.mem p hp).2.2.2⟩) k4 k3 s1 bN
 exact⟨_,q1,st.trans q2,e1,fA _ bP,h0,by rw[q3 a bP];exact ha,na,nd,rl.stay q2 λp hp=>⟨fA _ (a8 _ hp),q3 p (a8 _ hp)⟩⟩
theorem RA.tr{e:Expr}{b:Bool}{g':G}(ht:bx X z e g b g'):∃t,PT X e t/\∀{Y:Sg}{H M0 H0 a as ll}{Q:Bool->Hp->Prop},RA z g iy M0 H0 a as ll Y H->(∀H',RA z g iy M0 H0 a as ll Y H'->Q b H')->t Y H Q:=by
 obtain⟨t,q,k⟩:=ht;refine⟨t,q,λ{Y H M0 H0 a as ll Q} h kq=>?_⟩
 obtain⟨M3,s3,over⟩:=h.shut;exact k Y [] M3 H Q s3 λH' aC M' s' st'=>kq H' (over s' st')
theorem RA.ev{e:Expr}{x:Str}{g':G}(he:au X z e g (.dat (.str x)) g'):∃t,PE X e t/\∀{Y:Sg}{H M0 H0 a as ll}{Q:VK},RA z g iy M0 H0 a as ll Y H->(∀H',RA z g iy M0 H0 a as ll Y H'->Q (.str x) H')->t Y H Q:=by
 obtain⟨t,q,k⟩:=he;refine⟨t,q,λ{Y H M0 H0 a as ll Q} h kq=>?_⟩
 obtain⟨M3,s3,over⟩:=h.shut;exact k Y [] M3 H Q s3 λv H' aC M' s' st' R=>by
  have R':=R;cases R';exact kq H' (over s' st')
theorem RA.forget{d:D}{i:Nat}(h:RA z (g.set i (.dat d)) iy M0 H0 a as ll Y H)(e:g[i]?=some .no):RA z g iy M0 H0 a as ll Y H:=by obtain⟨M,s,r⟩:=h;exact⟨M,s.forget e,r⟩
theorem RA.Nh{x:Str}{i:Nat}(hn:bM g=true)(h:RA z g iy M0 H0 a as ll Y H)(hi:i≠iy)(hb:z.bor=[]):RA z (g.set i (.dat (.str x))) iy M0 H0 a as ll (Y.set i (some (.str x))) H:=by
 obtain⟨M,s,st,e1,r⟩:=h;obtain⟨aC,s'⟩:=s.eH (i:=i) (d:=.str x) (by rw[hb];exact λz=>nomatch z) (.str x)
 have:=s'.sl.Ng (gK hn);subst this;exact⟨M,s',st,by rw[dL hi];exact e1,r⟩
theorem RA.more(h:RA z g iy M0 H0 a as ll Y H){p:Addr}(hp:H p=none):RA z g iy M0 H0 a (as++[p]) (ll++[[]]) Y (upd (upd H p (.lst [])) a (.lst (as.map .ref++[.ref p]))):=by
 obtain⟨M,s,st,e1,hm,h0,ha,na,nd,rl⟩:=h;have pa:p≠a:=λe=>by rw[e,ha]at hp;cases hp
 have Qd:∀q∈as,q≠p:=λq hq e=>by
  obtain⟨_,_,_,xs,hx⟩:=rl.mem q hq;rw[e,hp]at hx;cases hx
 have hD1:upd H p (.lst []) a=some (.lst (as.map .ref)):=by rw[az (oS pa)];exact ha
 have s4:=s.aL (xs:=[]) hp;have s5:=s4.tK (xs':=as.map .ref++[.ref p]) (a8 _ hm) (λz=>nomatch z) h0 hD1
 have eV:ak M H (p::M) (upd H p (.lst [])):=ak.aL hp;have p7:ak (p::M) (upd H p (.lst [])) (p::M) (upd (upd H p (.lst [])) a (.lst (as.map .ref++[.ref p]))):=ak.write (a8 _ hm);refine⟨p::M,s5,(st.trans eV).trans p7,e1,a8 _ hm,h0,by rw[aA,kS];rfl,λh=>?_,?_,?_⟩
 .
  rcases gL.mp h with h |h
  . exact na h
  . exact pa (dE.mp h).symm
 .
  refine t5.mpr ⟨nd,d6.mpr ⟨by simp,AB⟩,λq hq r hr e=>?_⟩
  rw[dE.mp hr]at e;exact Qd q hq e
 .
  have r1:=rl.stay (eV.trans p7) λq hq=>⟨a8 _ (rl.mem q hq).1,by rw[az (show q≠a from λe=>na (by rw[<- e];exact hq)),az (Qd q hq)]⟩
  exact r1.push bP (λh=>nomatch h) (s.bE hp) (by rw[az pa];exact aA) .nil
theorem dG.split{z:Z}{M:List Addr}{H:Hp}{l:List D}:∀{as:List Addr}{ll:List (List D)},dG z [] M H as (ll++[l])->∃as' p xs,as=as'++[p]/\dG z [] M H as' ll/\p∈M/\z.H0 p=none/\H p=some (.lst xs)/\aG z.K M H l xs
 |_,[],h=>by
  cases h with
  |cons h1 h2 h3 h4 h5 h6=>cases h6;exact⟨[],_,_,rfl,.nil,h1,h3,h4,h5⟩
 |_,l0::ll,h=>by
  cases h with
  |cons h1 h2 h3 h4 h5 h6=>obtain⟨as',p,xs,rfl,r⟩:=dG.split h6;exact⟨_::as',p,xs,rfl,.cons h1 h2 h3 h4 h5 r.1,r.2⟩
theorem RA.less{l:List D}{i:Nat}(hn:bM g=true)(h:RA z g iy M0 H0 a as (ll++[l]) Y H)(hi:i≠iy)(hb:z.bor=[]):∃as' p,as=as'++[p]/\RA z (g.set i (.dat (.lst l))) iy M0 H0 a as' ll (Y.set i (some (.ref p))) (upd H a (.lst (as'.map .ref))):=by
 obtain⟨M,s,st,e1,hm,h0,ha,na,nd,rl⟩:=h;obtain⟨as',p,xs,rfl,r1,r2,r3,r4,r5⟩:=rl.split;refine⟨as',p,rfl,?_⟩;have hap:a≠p:=λe=>na (by rw[e];simp)
 obtain⟨YT,_,Xj⟩:=t5.mp nd;have Qd:p∉as':=λq=>Xj p q p ⋯ rfl
 have s1:=s.tK (xs':=as'.map .ref) hm (λz=>nomatch z) h0 ha
 have bN:ak M H M (upd H a (.lst (as'.map .ref))):=ak.write hm;have s2:=s1.drop (p:=p) r3 (λz=>nomatch z)
 have less:∀m∈M.filter (λm=>decide (m≠p)),m∈M:=λm hm=>(eQ.mp hm).1
 have aP:ak M (upd H a (.lst (as'.map .ref))) (M.filter λm=>decide (m≠p)) (upd H a (.lst (as'.map .ref))):=ak.less less
 have np:p∉M.filter (λm=>decide (m≠p)):=λz=>by simpa using (eQ.mp z).2
 have hpH:upd H a (.lst (as'.map .ref)) p=some (.lst xs):=by rw[az (oS hap)];exact r4
 have YW:∀q∈M,q≠p->q∈M.filter (λm=>decide (m≠p)):=λq hq e=>eQ.mpr ⟨hq,i4 e⟩
 obtain⟨aC,s3⟩:=s2.eH (i:=i) (d:=.lst l) (by rw[hb];exact λz=>nomatch z) (v:=.ref p) (.lst ⟨np,hpH⟩ (r5.stay (bN.trans aP)))
 have:=s3.sl.Ng (gK hn);subst this;refine⟨_,s3,(st.trans bN).trans aP,by rw[dL hi];exact e1,YW a hm hap,h0,aA,λz=>na (fA _ z),YT,?_⟩
 exact r1.stay (bN.trans aP) λq hq=>⟨YW q (r1.mem q hq).1 (λe=>Qd (e▸hq)),az (λe=>na (by rw[<- e];exact fA _ hq))⟩
theorem RA.grow{l:List D}{x:Str}(h:RA z g iy M0 H0 a as (ll++[l]) Y H):∃as' p xs,as=as'++[p]/\H p=some (.lst xs)/\xs.length=l.length/\RA z g iy M0 H0 a as (ll++[l++[.str x]]) Y (upd H p (.lst (xs++[.str x]))):=by
 obtain⟨M,s,st,e1,hm,h0,ha,na,nd,rl⟩:=h;obtain⟨as',p,xs,rfl,r1,r2,r3,r4,r5⟩:=rl.split;have hap:a≠p:=λe=>na (by rw[e];simp)
 obtain⟨YT,_,Xj⟩:=t5.mp nd;have Qd:p∉as':=λq=>Xj p q p ⋯ rfl
 refine⟨as',p,xs,rfl,r4,r5.length.symm,M,s.tK r2 (λz=>nomatch z) r3 r4,st.trans (ak.write r2),e1,hm,h0,by rw[az hap];exact ha,na,nd,?_⟩
 have q1:=r1.stay (ak.write (o:=.lst (xs++[V.str x])) r2) λq hq=>⟨(r1.mem q hq).1,az (λe=>Qd (by rw[<- e];exact hq))⟩
 exact q1.push r2 (λh=>nomatch h) r3 aA ((r5.stay (ak.write r2)).append (.cons (.str x) .nil))
theorem dG.len{z:Z}{L M:List Addr}{H:Hp}{as:List Addr}{ll:List (List D)}(h:dG z L M H as ll):as.length=ll.length:=by
 induction h with
 |nil=>rfl
 |cons _ _ _ _ _ _ ih=>exact congrArg (· + 1) ih
end
structure Vr(X:Cx)(y:Str)(i:Nat):Prop where
 ix:X.N[i]?=some y
 vis:ym X.env.scope y
 db:(y==(~~~3))=false
 cd:(y==("__classdict__":Str))=false
theorem Vr.pe{X:Cx}{y:Str}{i:Nat}{p:Pos}(v:Vr X y i):PE X (.Name y p) (QC i):=e9 v.ix v.vis v.db v.cd
theorem Au{α:Type}(l:List α)(p:α):dD (l++[p]) (-1)=some p:=by
 have e:(-1+((l.length+1:Nat):Int)).toNat=l.length:=by lia
 unfold L2.dD L2.pZ;rw[fI ⋯,hZ,u8,eR ⋯,e];simp
section
variable{X:Cx}{z:Z}{g g1 g2 g':G}{y sg br:Str}{iy bO cz:Nat}{py yq pb ap xH cp tU lp ep yr pos sp up ip bp bp2 rp DN p1 p2 p3 p4 p5 DP:Pos}{jn j2 j3 j4:Nat}{C1 C2 C3 J:Expr}{orl:List Stmt}
noncomputable abbrev SQ(y:Str)(py ap lp cp ep:Pos):Stmt:=.Expr (.Call (.Attribute (.Name y py) "append" ap) [.List [] lp] [] cp) ep
noncomputable abbrev SX(y br:Str)(pb py ap cp pos:Pos):Stmt:=.Assign [.Name br pb] (.Call (.Attribute (.Name y py) "pop" ap) [] [] cp) pos
noncomputable abbrev JB (y:Str) (py:Pos) (jn:Nat) (ip up sp ap:Pos) (J:Expr) (cp ep:Pos):Stmt:=.Expr (.Call (.Attribute (.Subscript (.Name y py) (.UnaryOp .USub (.Constant (.int 1) jn ip) up) sp) "append" ap) [J] [] cp) ep
noncomputable abbrev S0(y:Str)(p1 py p2:Pos):Expr:=.Call (.Name "len" p1) [.Name y py] [] p2
noncomputable abbrev tV(jn:Nat)(p pos:Pos):Stmt:=.Return (some (.Constant (.bool false) jn p)) pos
theorem Ni(vy:Vr X y iy)(hline:(ap.endLine==cp.line)=true):∃t,PS X (SQ y py ap lp cp ep) t/\∀{g:G}{Y H M0 H0 a as ll}{E:Ends},RA z g iy M0 H0 a as ll Y H->ll.length<1000->(∀H' as',RA z g iy M0 H0 a as' (ll++[[]]) Y H'->E.nx Y H')->t E Y H:=by
 refine⟨_,n8 (mR oD AH AI fL vy.pe (bD (oz bZ) bZ rfl) rfl rfl hline rfl rfl) rfl,λ{g Y H M0 H0 a as ll E} h hl kE=>?_⟩
 obtain⟨M,s,st,e1,hm,h0,ha,na,nd,rl⟩:=id h;have aJ:=rl.len;refine⟨.ref a,e1,.inl ⟨rfl,_,bH.of ha⟩,t7 _,λp hp=>?_⟩
 have pa:p≠a:=λe=>by rw[e,ha]at hp;cases hp
 refine⟨a,as.map .ref,.ref p,rfl,rfl,by rw[az (oS pa)];exact ha,by rw[eC,lS];lia,kE _ _ (h.more hp)⟩
theorem Nj(hN:X.N.Nodup)(vy:Vr X y iy)(nb:qK X br cz)(Xk:cz≠iy)(hb:z.bor=[])(hline:(ap.endLine==cp.line)=true):∃t,PS X (SX y br pb py ap cp pos) t/\∀{g:G}{Y H M0 H0 a as ll l}{E:Ends},bM g=true->RA z g iy M0 H0 a as (ll++[l]) Y H->(∀H' as' σ',RA z (g.set cz (.dat (.lst l))) iy M0 H0 a as' ll σ' H'->E.nx σ' H')->t E Y H:=by
 refine⟨_,oh nb.nd nb.ix nb.lc (yT oD AY AZ yV vy.pe rfl hline) rfl nb.fn,λ{g Y H M0 H0 a as ll l E} hn h kE=>?_⟩
 obtain⟨M,s,st,e1,hm,h0,ha,na,nd,rl⟩:=id h;obtain⟨as',p,rfl,h2⟩:=h.less hn Xk hb;refine⟨.ref a,e1,.inl ⟨rfl,_,bH.of ha⟩,a,_,.ref p,rfl,rfl,ha,?_,?_⟩
 . rw[kS,AL,hZ,u8,Nat.add_sub_cancel,eD (dC _)];simp
 .
  have e:((as'++[p]).map V.ref).dropLast=as'.map .ref:=by rw[kS,AL,tS]
  rw[e];exact kE _ _ _ h2
theorem G5(vy:Vr X y iy){x:Str}(hj:au X z J g (.dat (.str x)) g')(gX:starEach [J] X.env=(false,eval J X.env)::starEach [] X.env)
  (hfew:((backTo cp (starEach [J] X.env)).all (λx=>!x.1)&&(backToKw cp (keywordEach [] X.env)).all (λx=>x.1.isSome)&&decide ([J].length+([]:List Keyword).length+(if ([]:List Keyword).isEmpty then 0 else 1)<30))=true) (hline:(ap.endLine==cp.line)=true)
  (hsw:swapsWith (.Call (.Attribute (.Subscript (.Name y py) (.UnaryOp .USub (.Constant (.int 1) jn ip) up) sp) "append" ap) [J] [] cp) none ep.line X.env=pure false) :
  ∃t,PS X (JB y py jn ip up sp ap J cp ep) t/\∀{Y H M0 H0 a as ll l}{E:Ends},RA z g iy M0 H0 a as (ll++[l]) Y H->l.length<1000->(∀H' as',RA z g iy M0 H0 a as' (ll++[l++[.str x]]) Y H'->E.nx Y H')->t E Y H:=by
 obtain⟨tj,qj,kj⟩:=RA.ev (iy:=iy) hj;refine⟨_,n8 (mR oD AH AI fL (yR jS vy.pe (yM sI gw) (λ_ _=>rfl)) (bD qj bZ gX) rfl hfew hline gX rfl) hsw,λ{Y H M0 H0 a as ll l E} h hl kE=>?_⟩
 obtain⟨M,s,st,e1,hm,h0,ha,na,nd,rl⟩:=id h;obtain⟨as',p,xs,e5,hp,hxl,_⟩:=h.grow (x:=x);refine⟨.ref a,e1,1,rfl,a,as.map .ref,-1,.ref p,rfl,rfl,bH.of ha,by rw[e5,kS];exact Au _ _,.inl ⟨rfl,xs,bH.of hp⟩,kj h λH' h'=>?_⟩
 obtain⟨as2,p2,xs2,e6,hp2,Xl,h3⟩:=h'.grow (x:=x);have e7:p2=p:=by rw[e5]at e6;have:=congrArg List.getLast? e6;simpa using this.symm
 subst e7;exact⟨p2,xs2,.str x,rfl,rfl,hp2,by rw[Xl,lS];lia,kE _ _ h3⟩
abbrev sIn (y br:Str) (C3 J:Expr) (pb py ap cp pos DP p5 rp yq:Pos) (j3 jn:Nat) (ip up sp xH tU yr:Pos):List Stmt:=[SX y br pb py ap cp pos,.If C3 [tV j3 p5 rp] [] DP,JB y yq jn ip up sp xH J tU yr]
abbrev JC (C2:Expr) (y:Str) (p1 py p2:Pos) (j4:Nat) (p3 p4 bp:Pos):Expr:=.BoolOp .And [C2,.Compare (S0 y p1 py p2) [.Gt] [.Constant (.int 1) j4 p3] p4] bp
theorem pD{b:Bool}(vy:Vr X y iy)(Nk:Gl X "len")(hml:X.mg "len"=none)(h2:bx X z C2 g b g'):∃t,PT X (JC C2 y p1 py p2 j4 p3 p4 bp) t/\∀{Y H M0 H0 a as ll}{Q:Bool->Hp->Prop},RA z g iy M0 H0 a as ll Y H->(∀H',RA z g iy M0 H0 a as ll Y H'->Q (b&&decide (1<ll.length)) H')->t Y H Q:=by
 obtain⟨t2,q2,k2⟩:=RA.tr (iy:=iy) h2;refine⟨_,(pw_and q2 (pw_and1 (uM Jq (dM g8 Nk hml rfl (bD vy.pe bZ rfl)) gw rfl))).pt,λ{Y H M0 H0 a as ll Q} h kq=>k2 h λH' h'=>?_⟩
 cases b with
 |false=>exact kq H' h'
 |true=>
  obtain⟨M,s,st,e1,hm,h0,ha,na,nd,rl⟩:=id h';have aJ:=rl.len;refine⟨.ref a,e1,.ref a,ll.length,rfl,.inl ⟨_,bH.of ha,by rw[eC,aJ]⟩,(ll.length:Int),1,rfl,rfl,_,rfl,?_⟩
  have e:decide ((1:Int)<(ll.length:Int))=(true&&decide (1<ll.length)):=by rw[Bool.true_and,A6];lia
  rw[e];exact kq H' h'
end
inductive dY(X:Cx)(z:Z)(g:G)(bO cz:Nat)(C1 C2 C3 J:Expr):List D->List (List D)->Option (List (List D))->Prop
 |done (ll:List (List D)):dY X z g bO cz C1 C2 C3 J [] ll (some ll)
 |G6 {x:Str}{ds:List D}{ll:List (List D)}{r:Option (List (List D))}{g':G}:bx X z C1 (g.set bO (.dat (.str x))) true g'->ll.length<1000->dY X z g bO cz C1 C2 C3 J ds (ll++[[]]) r->dY X z g bO cz C1 C2 C3 J (.str x::ds) ll r
 |no {x:Str}{ds:List D}{ll:List (List D)}{b:Bool}{g' g'':G}:bx X z C1 (g.set bO (.dat (.str x))) false g'->bx X z C2 (g.set bO (.dat (.str x))) b g''->(b&&decide (1<ll.length))=false->dY X z g bO cz C1 C2 C3 J (.str x::ds) ll none
 |bad {x:Str}{ds:List D}{ll:List (List D)}{t b:List D}{g' g'' g3:G}:bx X z C1 (g.set bO (.dat (.str x))) false g'->bx X z C2 (g.set bO (.dat (.str x))) true g''->bx X z C3 ((g.set bO (.dat (.str x))).set cz (.dat (.lst b))) true g3->dY X z g bO cz C1 C2 C3 J (.str x::ds) (ll++[t]++[b]) none
 |cls {x s:Str}{ds:List D}{ll:List (List D)}{t b:List D}{g' g'' g3 g4:G}{r:Option (List (List D))}:bx X z C1 (g.set bO (.dat (.str x))) false g'->bx X z C2 (g.set bO (.dat (.str x))) true g''->bx X z C3 ((g.set bO (.dat (.str x))).set cz (.dat (.lst b))) false g3->
   au X z J ((g.set bO (.dat (.str x))).set cz (.dat (.lst b))) (.dat (.str s)) g4->t.length<1000->dY X z g bO cz C1 C2 C3 J ds (ll++[t++[.str s]]) r->dY X z g bO cz C1 C2 C3 J (.str x::ds) (ll++[t]++[b]) r
section
variable{X:Cx}{z:Z}{g:G}{y sg br th:Str}{iy bO cz tW:Nat}{py yq py3 DQ pb ap DR xH cp DS tU lp ep yr pos sp up ip bp rp DN p1 p2 p3 p4 p5 p6 DP tX tY YX YZ S3:Pos}{jn j3 j4 j5:Nat}{C1 C2 C3 J:Expr}
abbrev Av (y br:Str) (C1 C2 C3 J:Expr) (py3 DR lp DS ep p1 DQ p2 p3 p4 bp pb py ap cp pos DP p5 rp yq ip up sp xH tU yr p6 DN tX tY:Pos) (j4 j3 jn j5:Nat):List Stmt:=
 [.If C1 [SQ y py3 DR lp DS ep] [.If (JC C2 y p1 DQ p2 j4 p3 p4 bp) (sIn y br C3 J pb py ap cp pos DP p5 rp yq j3 jn ip up sp xH tU yr) [tV j5 p6 DN] tY] tX]
structure Y0(X:Cx)(z:Z)(g:G)(y br:Str)(iy bO cz:Nat)(J:Expr)(DR DS ap cp xH tU yq ip up sp yr:Pos)(jn:Nat):Prop where
 hn:bM g=true
 hb:z.bor=[]
 vy:Vr X y iy
 nb:qK X br cz
 Xk:cz≠iy
 hsy:bO≠iy
 hsb:bO≠cz
 gs:g[bO]?=some .no
 gb:g[cz]?=some .no
 gl:Gl X "len"
 ml:X.mg "len"=none
 l1:(DR.endLine==DS.line)=true
 l2:(ap.endLine==cp.line)=true
 l3:(xH.endLine==tU.line)=true
 st:starEach [J] X.env=(false,eval J X.env)::starEach [] X.env
 few:((backTo tU (starEach [J] X.env)).all (λx=>!x.1)&&(backToKw tU (keywordEach [] X.env)).all (λx=>x.1.isSome)&&decide ([J].length+([]:List Keyword).length+(if ([]:List Keyword).isEmpty then 0 else 1)<30))=true
 sw:swapsWith (.Call (.Attribute (.Subscript (.Name y yq) (.UnaryOp .USub (.Constant (.int 1) jn ip) up) sp) "append" xH) [J] [] tU) none yr.line X.env=pure false
theorem Aw(F:Y0 X z g y br iy bO cz J DR DS ap cp xH tU yq ip up sp yr jn){d:D}{ds:List D}{ll:List (List D)}{r:Option (List (List D))}(h:dY X z g bO cz C1 C2 C3 J (d::ds) ll r) :
  ∃x:Str,d=.str x/\∃t,n6 X (Av y br C1 C2 C3 J py3 DR lp DS ep p1 DQ p2 p3 p4 bp pb py ap cp pos DP p5 rp yq ip up sp xH tU yr p6 DN tX tY j4 j3 jn j5) t/\
   ∀{Y H M0 H0 a as}{E:Ends},RA z (g.set bO (.dat (.str x))) iy M0 H0 a as ll Y H->(∀Nm as' σ' H',RA z g iy M0 H0 a as' Nm σ' H'->dY X z g bO cz C1 C2 C3 J ds Nm r->E.nx σ' H')->(∀as' Nm σ' H',r=none->RA z g iy M0 H0 a as' Nm σ' H'->E.rt (.bl false) H')->t E Y H:=by
 have hn1:∀x:Str,bM (g.set bO (.dat (.str x)))=true:=λx=>gK F.hn
 have Y3:∀x:Str,(g.set bO (.dat (.str x)))[cz]?=some .no:=λx=>by rw[dL F.hsb];exact F.gb
 obtain⟨tn,qn,kn⟩:=Ni (X:=X) (z:=z) (py:=py3) (ap:=DR) (lp:=lp) (cp:=DS) (ep:=ep) F.vy F.l1;obtain⟨tp,qp,kp⟩:=Nj (X:=X) (z:=z) (pb:=pb) (py:=py) (pos:=pos) F.nb.nd F.vy F.nb F.Xk F.hb F.l2;have qf:∀{j:Nat}{p q:Pos},PS X (tV j p q) (QK (tC (.bl false))):=sF Jo;cases h with
 |@G6 x _ _ _ g' h1 h2 h3=>
  refine⟨x,rfl,?_⟩;obtain⟨t1,q1,k1⟩:=RA.tr (iy:=iy) h1;refine⟨_,bS (fj q1 (bS qn) bI),λ{Y H M0 H0 a as E} h kE kR=>k1 h λH' h'=>?_⟩
  exact gB (kn h' h2 λH2 as2 h2=>kE _ _ _ _ (h2.forget F.gs) h3)
 |@no x _ _ b g' g'' h1 h2 h3=>
  refine⟨x,rfl,?_⟩;obtain⟨t1,q1,k1⟩:=RA.tr (iy:=iy) h1;obtain⟨t2,q2,k2⟩:=pD (p1:=p1) (py:=DQ) (p2:=p2) (j4:=j4) (p3:=p3) (p4:=p4) (bp:=bp) F.vy F.gl F.ml h2;refine⟨_,bS (fj q1 bI (bS (fj q2 bI (bS qf)))),λ{Y H M0 H0 a as E} h kE kR=>k1 h λH' h'=>iT (k2 h' λH2 h2=>?_)⟩
  rw[h3];exact iT (kR _ _ _ _ rfl (h2.forget F.gs))
 |@bad x _ ll t b g' g'' g3 h1 h2 h3=>
  refine⟨x,rfl,?_⟩;obtain⟨t1,q1,k1⟩:=RA.tr (iy:=iy) h1;obtain⟨t2,q2,k2⟩:=pD (p1:=p1) (py:=DQ) (p2:=p2) (j4:=j4) (p3:=p3) (p4:=p4) (bp:=bp) F.vy F.gl F.ml h2;obtain⟨t3,q3,k3⟩:=RA.tr (iy:=iy) h3;refine⟨_,bS (fj q1 bI (bS (fj q2 (bR qp (bR (fj q3 (bS qf) bI) bI)) bI))),λ{Y H M0 H0 a as E} h kE kR=>k1 h λH' h'=>iT (k2 h' λH2 h2=>?_)⟩
  rw[i4 ⋯,Bool.and_self];refine gB (kp (hn1 x) h2 λH3 as3 σ3 h3=>k3 h3 λH4 h4=>gB (kR _ _ _ _ rfl ((h4.forget (Y3 x)).forget F.gs)))
 |@cls x s _ ll t b g' g'' g3 g4 _ h1 h2 h3 h4 h5 h6=>
  refine⟨x,rfl,?_⟩;obtain⟨t1,q1,k1⟩:=RA.tr (iy:=iy) h1;obtain⟨t2,q2,k2⟩:=pD (p1:=p1) (py:=DQ) (p2:=p2) (j4:=j4) (p3:=p3) (p4:=p4) (bp:=bp) F.vy F.gl F.ml h2;obtain⟨t3,q3,k3⟩:=RA.tr (iy:=iy) h3;obtain⟨t4,q4,k4⟩:=G5 F.vy h4 F.st F.few F.l3 F.sw;refine⟨_,bS (fj q1 bI (bS (fj q2 (bR qp (bR (fj q3 bI uJ) (bS q4))) bI))),λ{Y H M0 H0 a as E} h kE kR=>k1 h λH' h'=>iT (k2 h' λH2 h2=>?_)⟩
  rw[i4 ⋯,Bool.and_self];exact gB (kp (hn1 x) h2 λH3 as3 σ3 h3=>k3 h3 λH4 h4'=>iT (k4 h4' h5 λH5 as5 h5'=>kE _ _ _ _ ((h5'.forget (Y3 x)).forget F.gs) h6))
end
noncomputable def mz:Option (List (List D))->Bool
 |some [l]=>decide (l.length=1)
 |_=>false
section
variable{X:Cx}{z:Z}{g:G}{y sg br th:Str}{iy bO cz tW:Nat}{py yq py3 DQ Qe Qf Qg pb ap DR xH cp DS tU lp Qh Qi xJ ep yr pos sp up ip bp rp DN p1 p2 p3 p4 p5 p6 DP tX tY YX YZ S3 l1 l2 l3 l4 l5 l6 l7 l8 l9 l10 Ax Vl:Pos}{jn j3 j4 j5 j6 j7 j8 k0:Nat}{C1 C2 C3 J:Expr}
noncomputable abbrev tZ(y:Str)(Qg Qh Qi xJ:Pos):Stmt:=.Assign [.Name y Qg] (.List [.List [] Qh] Qi) xJ
abbrev Np (y:Str) (l1 Qe l2 l3 l4 l5 Qf l6 l7 l8 l9 l10 Ax:Pos) (j6 j7 j8:Nat):Expr:=
 .BoolOp .And [.Compare (S0 y l1 Qe l2) [.Eq] [.Constant (.int 1) j6 l3] l4,.Compare (.Call (.Name "len" l5) [.Subscript (.Name y Qf) (.Constant (.int 0) j7 l6) l7] [] l8) [.Eq] [.Constant (.int 1) j8 l9] l10] Ax
theorem xK(ny:qK X y iy):∃t,PS X (tZ y Qg Qh Qi xJ) t/\∀{g:G}{Y:Sg}{M:List Addr}{H:Hp}{E:Ends},g[iy]?=some .no->S z g Y [] M H->(∀a p H',RA z g iy M H a [p] [[]] (Y.set iy (some (.ref a))) H'->E.nx (Y.set iy (some (.ref a))) H')->t E Y H:=by
 refine⟨_,oh ny.nd ny.ix ny.lc (oz (bD (oz bZ) bZ rfl)) rfl ny.fn,λ{g Y M H E} hg s kE=>?_⟩
 refine⟨t7 _,λp hp=>⟨by show 1<=sizeLine;decide,λa ha=>?_⟩⟩
 have pa:a≠p:=λe=>by rw[e,aA]at ha;cases ha
 have s1:=s.aL (xs:=[]) hp;have s2:=s1.aL (xs:=[.ref p]) ha;have bN:ak M H (p::M) (upd H p (.lst [])):=ak.aL hp;have aP:ak (p::M) (upd H p (.lst [])) (a::p::M) (upd (upd H p (.lst [])) a (.lst [.ref p])):=ak.aL ha;have hi:iy<Y.length:=by rw[<- s.sl.length];exact (dA.mp hg).1
 refine kE a p _ ⟨a::p::M,s2.Ai hg,bN.trans aP,fR hi,bP,s1.bE ha,aA,by simpa using pa,by simp,.cons (a8 _ bP) (λh=>nomatch h) (s.bE hp) (by rw[az (oS pa)];exact aA) .nil .nil⟩
theorem G7(vy:Vr X y iy)(Nk:Gl X "len")(hml:X.mg "len"=none):∃t,PS X (.Return (some (Np y l1 Qe l2 l3 l4 l5 Qf l6 l7 l8 l9 l10 Ax j6 j7 j8)) Vl) t/\∀{g:G}{Y H M0 H0 a as ll}{E:Ends},RA z g iy M0 H0 a as ll Y H->E.rt (.bl (mz (some ll))) H->t E Y H:=by
 refine⟨_,sF (sE (ow op_eq (dM g8 Nk hml rfl (bD vy.pe bZ rfl)) gw rfl) (yG (ow op_eq (dM g8 Nk hml rfl (bD (yR jS vy.pe gw (λ_ _=>rfl)) bZ rfl)) gw rfl))),λ{g Y H M0 H0 a as ll E} h kE=>?_⟩
 obtain⟨M,s,st,e1,hm,h0,ha,na,nd,rl⟩:=id h;have aJ:=rl.len;refine⟨.ref a,e1,.ref a,ll.length,rfl,.inl ⟨_,bH.of ha,by rw[eC,aJ]⟩,rfl,_,rfl,?_⟩
 by_cases h1:ll.length=1
 .
  rw[eR (by rw[h1];rfl)]
  obtain⟨l,rfl⟩:∃l,ll=[l]:=by
   cases ll with
   |nil=>simp at h1
   |cons l ll=>cases ll with |nil=>exact⟨l,rfl⟩ |cons _ _=>simp at h1
  obtain⟨p,xs,e2,hp,rp⟩:=rl.get (i:=0) rfl;refine⟨.ref a,e1,a,as.map .ref,0,.ref p,rfl,rfl,bH.of ha,?_,.ref p,l.length,rfl,.inl ⟨xs,bH.of hp,rp.length⟩,rfl,?_⟩
  .
   cases as with
   |nil=>cases e2
   |cons q as=>
    cases (show some q=some p from e2)
    cases as with
    |nil=>rfl
    |cons _ _=>simp at aJ
  .
   have e:decide (V.int (l.length:Int)=V.int 1)=mz (some [l]):=by
    show _=decide (l.length=1);rw[A6];constructor
    . intro q;injection q with q;lia
    . intro q;rw[q];rfl
   rw[e];exact kE
 .
  have e:decide (V.int (ll.length:Int)=V.int 1)=false:=hV λq=>by injection q with q;lia
  rw[fI (by rw[e];decide)]
  have e2:mz (some ll)=false:=by
   unfold mz;split
   . rename_i l e;cases e;exact absurd rfl h1
   . rfl
  rw[e2]at kE;exact kE
theorem xM(hp:PassesOwn (~~~2) X.A X.env X.xe)(hc:X.calm=true)(ny:qK X y iy)(ns:qK X sg bO)(vt:Vr X th tW)(gt:g[tW]?=some (.dat (.str x)))(gy:g[iy]?=some .no)(F:Y0 X z g y br iy bO cz J DR DS ap cp xH tU yq ip up sp yr jn)
  {r:Option (List (List D))} (h:dY X z g bO cz C1 C2 C3 J (mw x) [[]] r) :
  xD X z [tZ y Qg Qh Qi xJ,.For (.Name sg YX) (.Name th YZ) (Av y br C1 C2 C3 J py3 DR lp DS ep p1 DQ p2 p3 p4 bp pb py ap cp pos DP p5 rp yq ip up sp xH tU yr p6 DN tX tY j4 j3 jn j5) [] S3,.Return (some (Np y l1 Qe l2 l3 l4 l5 Qf l6 l7 l8 l9 l10 Ax j6 j7 j8)) Vl] g (.rt (.dat (.bl (mz r)))) g:=by
 obtain⟨t1,q1,k1⟩:=xK (z:=z) (Qg:=Qg) (Qh:=Qh) (Qi:=Qi) (xJ:=xJ) ny;obtain⟨t3,q3,k3⟩:=G7 (z:=z) (l1:=l1) (Qe:=Qe) (l2:=l2) (l3:=l3) (l4:=l4) (l5:=l5) (Qf:=Qf) (l6:=l6) (l7:=l7) (l8:=l8) (l9:=l9) (l10:=l10) (Ax:=Ax) (j6:=j6) (j7:=j7) (j8:=j8) (Vl:=Vl) F.vy F.gl F.ml;refine⟨[t1,_,t3],.cons q1 (.cons (yK hp hc (Aq vt.pe) (n9 ns.nd ns.ix ns.lc ns.fn) bI (λ_=>rfl)) (.cons q3 .nil)),λu Y L M H E s kE=>?_⟩
 have:=s.sl.Ng F.hn;subst this;refine k1 gy s λa p H1 h1=>?_
 obtain⟨M1,s1,r1⟩:=id h1;obtain⟨v,ev,rv⟩:=s1.sl.qB gt;have rv':=rv;cases rv';refine⟨_,ev,x,rfl,?_⟩;have aJ:(mw x).length=x.cps.size:=by simp[mw]
 refine⟨λi m σ' H'=>i+m=x.cps.size/\∃a as ll,RA z g iy M H a as ll σ' H'/\dY X z g bO cz C1 C2 C3 J ((mw x).drop i) ll r,⟨x.cps.size,BN _,a,[p],[[]],h1,h⟩,?_⟩
 rintro i m σ' H' ⟨Ys,a',as',ll,hr,bY⟩;cases e:(mw x)[i]? with
 |none=>
  have hi:=v6.mp e;rw[List.drop_eq_nil_of_le hi]at bY;cases bY;refine .inl ⟨by rw[aJ]at hi;exact hi,k3 hr ?_⟩
  obtain⟨M2,s2,aP,_⟩:=hr;exact kE _ σ' [] M2 H' s2 aP (.bl _)
 |some d=>
  rw[drop_cons e]at bY;have hi:i<x.cps.size:=by rw[<- aJ];exact (dA.mp e).1
  obtain⟨w,rfl,t,qt,kt⟩:=Aw (py3:=py3) (lp:=lp) (ep:=ep) (p1:=p1) (DQ:=DQ) (p2:=p2) (p3:=p3) (p4:=p4) (bp:=bp) (pb:=pb) (py:=py) (pos:=pos) (DP:=DP) (p5:=p5) (rp:=rp) (p6:=p6) (DN:=DN) (tX:=tX) (tY:=tY) (j4:=j4) (j3:=j3) (j5:=j5) F bY;refine .inr ⟨hi,λP6 P7=>∃a as ll,RA z g iy M H a as ll P6 P7/\dY X z g bO cz C1 C2 C3 J ((mw x).drop (i+1)) ll r,λP6 P7 hN=>⟨m - 1,by lia,by lia,hN⟩,λv' H2 hv=>?_⟩
  obtain⟨rfl,c,ec,rfl⟩:=hv;have ew:w=tx [c]:=by
   unfold mw at e;rw[sT]at e;have ec':x.cps.toList[i]?=some c:=by simpa using ec
   rw[ec']at e;injection e with e;injection e with e;exact e.symm
  subst ew;refine⟨t,qt,kt (hr.Nh F.hn F.hsy F.hb) (λNm Xm σ3 H3 h3 hc3=>⟨_,_,Nm,h3,hc3⟩) λXm Nm σ3 H3 hrn h3=>?_⟩
  subst hrn;obtain⟨M2,s2,aP,_⟩:=h3;exact kE _ σ3 [] M2 H3 s2 aP (.bl _)
end
inductive Bl where
 |len |list |tuple |max |min |str |all |sorted |sum |any |int
 deriving DecidableEq
set_option genInjectivity false in
inductive Ex where
 |val (d:D) |slot (i:Nat)
 |bin (op:Operator) (a b:Ex) |cmp (op:CmpOp) (a b:Ex) |chain (a:Ex) (ops:List CmpOp) (l:List Ex)
 |neg (a:Ex) |not (a:Ex) |and (l:List Ex) |or (l:List Ex) |ite (c a b:Ex)
 |tup (l:List Ex) |lst (l:List Ex)
 |ix (a b:Ex) |slice (a:Ex) (lo hi:Option Ex)
 |call (f:Nat) (l:List Ex) |blt (b:Bl) (l:List Ex) |vj (a:Ex) (n:String) |Ay (a:Ex) (ns:List String)
 |comp (n k:Nat) (T:Tg) (it:Ex) (c:Option Ex) (e:Ex)
 |fG (a:Ex) |je (a b:Ex) |rq (a:Ex)
 |zip (a b:Ex) |join (e:Ex)
 |rev (a:Ex) |emp |peek (e:Ex)
 |append (i:Nat) (e:Ex) |extend (i:Nat) (e:Ex) |nG (i:Nat) (e:Ex) |pop (i:Nat)
set_option genInjectivity false in
inductive Sm where
 |ret (e:Ex) |expr (e:Ex) |set (i:Nat) (e:Ex) |setC (i:Nat) (e:Ex) |item (i:Nat) (j e:Ex)
 |par (i j:Nat) (a b:Ex)
 |ite (c:Ex) (a b:List Sm) |loop (T:Tg) (it:Ex) (b:List Sm) |while (c:Ex) (b:List Sm) |Az (tW bO iy cz:Nat) (c1 c2 c3 jx:Ex) |stuck
structure Fx where
 np:Nat
 n:Nat
 body:List Sm
noncomputable def Tg.pF:Tg->Bool
 |.tp _=>true
 |.nm _=>false
noncomputable def G8(i j:Int):Bool:=(decide (-(2 ^ 64)<i)&&decide (i<2 ^ 64))||(decide (-(2 ^ 64)<j)&&decide (j<2 ^ 64))
def lim:Nat:=16777216
noncomputable def jf{α:Type}(f:Int->Int->Option α)(a b:D):Option α:=match a with
 |.int i=>(match b with |.int j=>f i j |_=>none)
 |_=>none
noncomputable def Nq(a b:D):Option R:=match a with
 |.int i=>(match b with |.int j=>some (.dat (.int (i+j))) |.bl c=>some (.dat (.int (i+vf c))) |_=>none)
 |.str x=>(match b with |.str y=>if x.length+y.length<=lim then some (.dat (.str (x++y)))else none |_=>none)
 |.lst l=>(match b with |.lst m=>if l.length+m.length<=lim then some (.new (l++m))else none |_=>none)
 |.tup l=>(match b with |.tup m=>if l.length+m.length<=lim then some (.dat (.tup (l++m)))else none |_=>none)
 |_=>none
def G9(a:D)(k:Int):Option R:=match a with
 |.int i=>if G8 i k=true then some (.dat (.int (i * k)))else none
 |.lst l=>if -(2 ^ 63)<=k/\k<2 ^ 63/\l.length * k.toNat<=lim then some (.new (List.replicate k.toNat l).flatten)else none
 |_=>none
noncomputable def S4(a b:D):Option R:=match a with
 |.int i=>(match b with |.int j=>some (.dat (.int (i - j))) |.bl c=>some (.dat (.int (i - vf c))) |_=>none)
 |_=>none
noncomputable def S5(d:D):Option R:=match d with
 |.str x=>if x.length<=lim then some (.dat (.int x.length))else none
 |_=>none
noncomputable def listS(d:D):Option R:=match d with
 |.str x=>if x.length<=lim then some (.new (mw x))else none
 |_=>none
def JD(d:D):Option R:=match d with
 |.lst l=>(match fF l with |some m=>if m.length<64 then some (.new ((aM m).map dS))else none |none=>none)
 |_=>none
def S6(a b:D):Option Bool:=match a with
 |.str x=>(match b with |.str y=>some (!GX x y) |_=>none)
 |_=>none
def jY(op:Operator)(a b:D):Option R:=match op with
 |.Add=>Nq a b
 |.Sub=>S4 a b
 |.Mult=>(match b with |.int k=>G9 a k |_=>none)
 |.FloorDiv=>jf (λi j=>if 0<j/\j<18446744073709551616 then some (.dat (.int (i / j)))else none) a b
 |.Mod=>jf (λi j=>if 0<j then some (.dat (.int (i % j)))else none) a b
 |.Pow=>jf (λi j=>if 0<=j/\j<=1000/\i.natAbs<2 ^ 64 then some (.dat (.int (i ^ j.toNat)))else none) a b
 |.LShift=>jf (λi j=>if 0<=j/\j<=1000/\i.natAbs<2 ^ 64 then some (.dat (.int (i * 2 ^ j.toNat)))else none) a b
 |_=>none
def dH(d1 d2:D):Bool:=iQ d1&&iQ d2&&decide (dep d1<=190)
def xN(d1:D)(l:List D):Bool:=iQ d1&&gG l&&decide (deps l<=190)
noncomputable def Y4(a b:D):Option Bool:=match a with
 |.int i=>(match b with |.int j=>some (decide (i<j)) |_=>none)
 |_=>none
noncomputable def Vm(a b:D):Option Bool:=match b with
 |.bl c=>some (Js a c)
 |.non=>some (FQ a)
 |_=>none
def cO(op:CmpOp)(d1 d2:D):Option Bool:=match op with
 |.Eq=>if dH d1 d2=true then some (bL d1 d2)else none
 |.NotEq=>if dH d1 d2=true then some (!bL d1 d2)else none
 |.Lt=>Y4 d1 d2
 |.LtE=>jf (λi j=>some (decide (i<=j))) d1 d2
 |.Gt=>jf (λi j=>some (decide (i > j))) d1 d2
 |.GtE=>jf (λi j=>some (decide (i ≥ j))) d1 d2
 |.In=>(match dR d2 with |some l=>if xN d1 l=true then some (l.any λd=>bL d d1)else none |none=>none)
 |.NotIn=>(match dR d2 with |some l=>if xN d1 l=true then some (!l.any λd=>bL d d1)else none |none=>S6 d1 d2)
 |.Is=>Vm d1 d2
 |.IsNot=>(match Vm d1 d2 with |some c=>some (!c) |none=>none)
def Ba:D->D->Option D
 |.lst l,.int i=>dD l i
 |.fix l,.int i=>dD l i
 |.tup l,.int i=>dD l i
 |.str x,.int i=>if x.length<=lim then (match dD x.cps.toList i with |some c=>some (.str (tx [c])) |none=>none)else none
 |.uR ks ds,.tup l=>(match cU l with |some n=>SJ ks ds n |none=>none)
 |_,_=>none
def S7(b:Bl)(d:D):Option R:=match b with
 |.len=>(match RV d with |some n=>some ‹n› |none=>S5 d)
 |.list=>(match dR d with |some l=>some (.new l) |none=>listS d)
 |.tuple=>(match dR d with |some l=>some (.dat (.tup l)) |none=>none)
 |.all=>(match d with |.lst l=>(match qF l with |some bs=>some (.dat (.bl (bs.all id))) |none=>none) |_=>none)
 |.sorted=>(match dR d with |some l=>(match cU l with |some ns=>if ns.length<64 then some (.new ((iC ns).map .int))else none |none=>match lA l with |some cH=>if cH.length<64 then some (.new ((bT fC cH).map λns=>.tup (ns.map .int)))else none |none=>JD d) |none=>none)
 |_=>none
def bl2(b:Bl)(d e:D):Option R:=match b with
 |.max=>jf (λi j=>some (.dat (.int (if j > i then j else i)))) d e
 |.min=>jf (λi j=>some (.dat (.int (if j<i then j else i)))) d e
 |_=>none
def nI(b:Bl)(ds:List D):Option R:=match ds with
 | [d]=>S7 b d
 | [d,e]=>bl2 b d e
 |_=>none
noncomputable def eY(t n:String):Bool:=t==n||(t == "bool" && n == "int")
noncomputable def Xn:Ex->Bool
 |.fG _=>true
 |.je _ _=>true
 |.zip _ _=>true
 |_=>false
structure Rn where
 e:List Nat->Nat->Ex->G->Option (R×G)
 t:List Nat->Nat->Ex->G->Option (Bool×G)
 b:List Nat->Nat->List Sm->G->Option (Fl×G)
 x:List Nat->Nat->Ex->G->Option (Nat×G)
 xt:List Nat->Nat->Ex->G->Option (Nat×G)
 xb:List Nat->Nat->List Sm->G->Option (Nat×G)
noncomputable def toD(bor:List Nat):R->G->Option (D×G)
 |.dat d,g=>some (d,g)
 |.new l,g=>some (.lst l,g)
 |.var i,g=>if i∈bor then none else match g[i]? with |some (.own l)=>some (.lst l,g.set i (.dat (.lst l))) |_=>none
noncomputable def norm:R->R
 |.new l=>.dat (.lst l)
 |.dat d=>.dat d
 |.var i=>.var i
section
variable(rn:Rn)(bor:List Nat)(k:Nat)
noncomputable def gk(e:Ex)(g:G):Option (D×G):=match rn.e bor k e g with
 |some (r,g1)=>toD bor r g1
 |none=>none
noncomputable def jC:List Ex->G->Option (List D×G)
 | [],g=>some ([],g)
 |e::es,g=>match gk rn bor k e g with
  |some (d,g1)=>match jC es g1 with
   |some (ds,g2)=>some (d::ds,g2)
   |none=>none
  |none=>none
def argsR:List Ex->G->Option (List R×G)
 | [],g=>some ([],g)
 |e::es,g=>match rn.e bor k e g with
  |some (r,g1)=>match argsR es g1 with
   |some (rs,g2)=>some (norm r::rs,g2)
   |none=>none
  |none=>none
def Nr:D->List CmpOp->List Ex->G->Option (Bool×G)
 |d1,[op],[b],g=>match gk rn bor k b g with
  |some (d2,g1)=>match cO op d1 d2 with |some c=>some (c,g1) |none=>none
  |none=>none
 |d1,op::op'::ops,b::b'::bs,g=>match gk rn bor k b g with
  |some (d2,g1)=>match cO op d1 d2 with
   |some true=>Nr d2 (op'::ops) (b'::bs) g1
   |some false=>some (false,g1)
   |none=>none
  |none=>none
 |_,_,_,_=>none
def Bb:List Ex->G->Option (R×G)
 | [],_=>none
 | [a],g=>rn.e bor k a g
 |a::b::l,g=>match rn.e bor k a g with
  |some (.dat (.bl true),g1)=>Bb (b::l) g1
  |some (.dat (.bl false),g1)=>some (.dat (.bl false),g1)
  |_=>none
def S8:List Ex->G->Option (R×G)
 | [],_=>none
 | [a],g=>rn.e bor k a g
 |a::b::l,g=>match rn.e bor k a g with
  |some (.dat (.bl false),g1)=>S8 (b::l) g1
  |some (.dat (.bl true),g1)=>some (.dat (.bl true),g1)
  |_=>none
def rz:List Ex->G->Option (Bool×G)
 | [],_=>none
 | [a],g=>rn.t bor k a g
 |a::b::l,g=>match rn.t bor k a g with
  |some (true,g1)=>rz (b::l) g1
  |some (false,g1)=>some (false,g1)
  |none=>none
def Bc:List Ex->G->Option (Bool×G)
 | [],_=>none
 | [a],g=>rn.t bor k a g
 |a::b::l,g=>match rn.t bor k a g with
  |some (false,g1)=>Bc (b::l) g1
  |some (true,g1)=>some (true,g1)
  |none=>none
noncomputable def nJ:Option Ex->G->Option (Option Int×G)
 |none,g=>some (none,g)
 |some e,g=>match gk rn bor k e g with
  |some (.int i,g1)=>some (some i,g1)
  |_=>none
noncomputable def Hf(j:Int):Bool:=decide (-(2 ^ 62)<=j)&&decide (j<2 ^ 62)
def jD(tp:Bool)(it:Ex)(g:G):Option (List D×G):=match it with
 |.fG a=>match gk rn bor k a g with
  |some (.int j,g1)=>if Hf j=true then some (dX 0 j.toNat,g1)else none
  |_=>none
 |.je a b=>match gk rn bor k a g with
  |some (.int c,g1)=>match gk rn bor k b g1 with
   |some (.int j,g2)=>if Hf c=true/\Hf j=true then some (dX c (j - c).toNat,g2)else none
   |_=>none
  |_=>none
 |.zip a b=>if tp=true then match jC rn bor k [a,b] g with
  |some ([d1,d2],g1)=>match dR d1,dR d2 with |some l,some m=>if isTup d1=isTup d2 then some (pA l m,g1)else none |_,_=>none
  |_=>none
  else none
 |e=>match gk rn bor k e g with
  |some (.tup l,g1)=>some (l,g1)
  |some (.lst l,g1)=>some (l,g1)
  |some (.fix l,g1)=>some (l,g1)
  |some (.str x,g1)=>some (mw x,g1)
  |_=>none
def DT:Option Ex->G->Option (Bool×G)
 |none,g=>some (true,g)
 |some c,g=>rn.t bor k c g
def Bd(T:Tg)(last:Nat)(c:Option Ex)(e:Ex):List D->G->Option G
 | [],g=>some g
 |d::l,g=>match T.set d g with
  |none=>none
  |some g1=>match DT rn bor k c g1 with
   |none=>none
   |some (false,g2)=>Bd T last c e l g2
   |some (true,g2)=>match gk rn bor k e g2 with
    |none=>none
    |some (x,g3)=>match g3[last]? with
     |some (.own acc)=>if acc.length<lim then Bd T last c e l (g3.set last (.own (acc++[x])))else none
     |_=>none
def dm(n kk:Nat)(T:Tg)(it:Ex)(c:Option Ex)(e:Ex)(g:G):Option (List D×G):=match jD rn bor k T.pF it g with
 |none=>none
 |some (items,g1)=>if g1.length=n/\(T.ix.any λi=>decide (i∈bor))=false then match Bd rn bor k T (n+kk) c e items (gC kk g1)with
   |none=>none
   |some gE=>match gE[n+kk]? with
    |some (.own acc)=>some (acc,gE.take n)
    |_=>none
  else none
def aX(fx:Fx)(k':Nat)(rs:List R)(g1:G):Option (R×G):=
 if rs.length=fx.np/\((vars 0 rs).map (·.2)).Nodup then match bW rs g1 with
  |none=>none
  |some gs=>match rn.b ((vars 0 rs).map (·.1)) k' fx.body (cF fx.n gs)with
   |some (.rt r,gc)=>match back (vars 0 rs) gc g1 with
    |some gO=>match iW ((vars 0 rs).map (·.1)) gc r with |some r'=>some (r',gO) |none=>none
    |none=>none
   |some (.nx,gc)=>match back (vars 0 rs) gc g1 with
    |some gO=>some (.dat .non,gO)
    |none=>none
   |_=>none
 else none
def aU(fns:List Fx)(e:Ex)(g:G):Option (R×G):=match e with
 |.val d=>some (.dat d,g)
 |.slot i=>match g[i]? with |some (.dat d)=>some (.dat d,g) |some (.own _)=>some (.var i,g) |_=>none
 |.bin op a b=>match argsR rn bor k [a,b] g with
  |some ([r1,r2],g2)=>match pk r1 g2,pk r2 g2 with
   |some d1,some d2=>match jY op d1 d2 with |some r=>some (r,g2) |none=>none
   |_,_=>none
  |_=>none
 |.cmp op a b=>match argsR rn bor k [a,b] g with
  |some ([r1,r2],g2)=>match pk r1 g2,pk r2 g2 with
   |some d1,some d2=>match cO op d1 d2 with |some c=>some (.dat (.bl c),g2) |none=>none
   |_,_=>none
  |_=>none
 |.chain a ops l=>match gk rn bor k a g with
  |some (d1,g1)=>match Nr rn bor k d1 ops l g1 with |some (c,g2)=>some (.dat (.bl c),g2) |none=>none
  |none=>none
 |.neg a=>match gk rn bor k a g with |some (.int i,g1)=>some (.dat (.int (-i)),g1) |_=>none
 |.not a=>match rn.e bor k a g with |some (.dat (.bl c),g1)=>some (.dat (.bl (!c)),g1) |_=>none
 |.and l=>Bb rn bor k l g
 |.or l=>S8 rn bor k l g
 |.ite c a b=>match rn.t bor k c g with
  |some (true,g1)=>rn.e bor k a g1
  |some (false,g1)=>rn.e bor k b g1
  |none=>none
 |.tup l=>match jC rn bor k l g with |some (ds,g1)=>if ds.length<=lim then some (.dat (.tup ds),g1)else none |none=>none
 |.lst l=>match jC rn bor k l g with |some (ds,g1)=>if ds.length<=lim then some (.new ds,g1)else none |none=>none
 |.ix a b=>match argsR rn bor k [a,b] g with
  |some ([r1,r2],g2)=>match pk r1 g2,pk r2 g2 with
   |some d1,some d2=>match Ba d1 d2 with |some d=>some (.dat d,g2) |none=>none
   |_,_=>none
  |_=>none
 |.slice a lo hi=>match rn.e bor k a g with
  |some (r,g1)=>match nJ rn bor k lo g1 with
   |some (i,g2)=>match nJ rn bor k hi g2 with
    |some (j,g3)=>match norm r with
     |.dat (.tup l)=>some (.dat (.tup (bQ l i j)),g3)
     |.dat (.fix l)=>some (.new (bQ l i j),g3)
     |.dat (.str x)=>if x.length<=lim then some (.dat (.str (tx (bQ x.cps.toList i j))),g3)else none
     |r'=>match pk r' g3 with |some (.lst l)=>some (.new (bQ l i j),g3) |_=>none
    |none=>none
   |none=>none
  |none=>none
 |.call f l=>match fns[f]?,k with
  |some fx,k'+1=>match argsR rn bor k l g with
   |some (rs,g1)=>aX rn fx k' rs g1
   |none=>none
  |_,_=>none
 |.blt b l=>match argsR rn bor k l g with
  |some (rs,g1)=>match wG rs g1 with
   |some ds=>match nI b ds with |some r=>some (r,g1) |none=>none
   |none=>none
  |none=>none
 |.vj a n=>match rn.e bor k a g with
  |some (r,g1)=>match pk (norm r) g1 with |some d=>some (.dat (.bl (eY (oV d) n)),g1) |none=>none
  |none=>none
 |.Ay a ns=>match rn.e bor k a g with
  |some (r,g1)=>match pk (norm r) g1 with |some d=>some (.dat (.bl (ns.any (eY (oV d)))),g1) |none=>none
  |none=>none
 |.comp n kk T it c e=>match dm rn bor k n kk T it c e g with |some (acc,g1)=>some (.new acc,g1) |none=>none
 |.rev a=>match rn.e bor k a g with
  |some (r,g1)=>match norm r with
   |.dat (.tup l)=>some (.dat (.tup l.reverse),g1)
   |.dat (.str x)=>if x.length<=lim then some (.dat (.str (tx x.cps.toList.reverse)),g1)else none
   |r'=>match pk r' g1 with |some (.lst l)=>some (.new l.reverse,g1) |_=>none
  |none=>none
 |.emp=>some (.dat .emp,g)
 |.peek e=>if bor.isEmpty=true then match rn.e [] k e (g.map jG)with |some (.dat d,_)=>if flat d=true then some (.dat d,g)else none |some (.new l,_)=>if l.all flat=true then some (.new l,g)else none |_=>none else none
 |.append i e=>match g[i]? with
  |some (.own _)=>match gk rn bor k e g with
   |some (d,g1)=>match g1[i]? with |some (.own l)=>if l.length<lim then some (.dat .non,g1.set i (.own (l++[d])))else none |_=>none
   |none=>none
  |_=>none
 |.extend i e=>match g[i]? with
  |some (.own _)=>match gk rn bor k e g with
   |some (.lst m,g1)=>match g1[i]? with |some (.own l)=>if l.length+m.length<=lim then some (.dat .non,g1.set i (.own (l++m)))else none |_=>none
   |_=>none
  |_=>none
 |.nG i e=>match g[i]? with
  |some (.own _)=>match gk rn bor k e g with
   |some (.int j,g1)=>match g1[i]? with
    |some (.own l)=>match pZ l.length j with
     |some n=>match l[n]? with |some d=>if l.length<lim then some (.dat d,g1.set i (.own (l.eraseIdx n)))else none |none=>none
     |none=>none
    |_=>none
   |_=>none
  |_=>none
 |.pop i=>match g[i]? with
  |some (.own l)=>match l[l.length - 1]? with |some d=>some (.dat d,g.set i (.own l.dropLast)) |none=>none
  |_=>none
 |.fG _=>none
 |.je _ _=>none
 |.zip _ _=>none
 |.join e=>match rn.e bor k e g with
  |some (r,g1)=>match pk (norm r) g1 with
   |some (.lst l)=>match fF l with
    |some m=>if (m.map List.length).sum<=lim then some (.dat (.str (tx m.flatten)),g1)else none
    |none=>none
   |_=>none
  |none=>none
 |.rq a=>match gk rn bor k a g with
  |some (.int j,g1)=>if Hf j=true/\j.toNat<=lim then some (.new (dX 0 j.toNat),g1)else none
  |_=>none
def stepT(e:Ex)(g:G):Option (Bool×G):=match e with
 |.cmp op a b=>match argsR rn bor k [a,b] g with
  |some ([r1,r2],g2)=>match pk r1 g2,pk r2 g2 with
   |some d1,some d2=>match cO op d1 d2 with |some c=>some (c,g2) |none=>none
   |_,_=>none
  |_=>none
 |.chain a ops l=>match gk rn bor k a g with
  |some (d1,g1)=>Nr rn bor k d1 ops l g1
  |none=>none
 |.not a=>match rn.t bor k a g with |some (c,g1)=>some (!c,g1) |none=>none
 |.and l=>rz rn bor k l g
 |.or l=>Bc rn bor k l g
 |.ite _ _ _=>none
 |e=>match rn.e bor k e g with
  |some (r,g1)=>match pk (norm r) g1 with
   |some d=>match Gq d with |some c=>some (c,g1) |none=>none
   |none=>none
  |none=>none
def cP(T:Tg)(b:G->Option (Fl×G)):List D->G->Option (Fl×G)
 | [],g=>some (.nx,g)
 |d::l,g=>match T.set d g with
  |none=>none
  |some g0=>match b g0 with
   |none=>none
   |some (.nx,g1)=>cP T b l g1
   |some (.ct,g1)=>cP T b l g1
   |some (.bk,g1)=>some (.nx,g1)
   |some (.rt r,g1)=>some (.rt r,g1)
noncomputable def rA(c:G->Option (Bool×G))(b:G->Option (Fl×G)):Nat->G->Option (Fl×G)
 | 0,_=>none
 |n+1,g=>match c g with
  |none=>none
  |some (false,g1)=>some (.nx,g1)
  |some (true,g1)=>match b g1 with
   |none=>none
   |some (.nx,g2)=>rA c b n g2
   |some (.ct,g2)=>rA c b n g2
   |some (.bk,g2)=>some (.nx,g2)
   |some (.rt r,g2)=>some (.rt r,g2)
def rB(bO cz:Nat)(c1 c2 c3 jx:Ex)(g:G):List D->List (List D)->Option (Option (List (List D)))
 | [],ll=>some (some ll)
 |d::ds,ll=>match d with
  |.str x=>match rn.t bor k c1 (g.set bO (.dat (.str x)))with
   |some (true,_)=>if ll.length<1000 then rB bO cz c1 c2 c3 jx g ds (ll++[[]])else none
   |some (false,_)=>match rn.t bor k c2 (g.set bO (.dat (.str x)))with
    |some (b2,_)=>if (b2&&decide (1<ll.length))=true then match ll.getLast?,ll.dropLast.getLast? with
      |some b,some t=>match rn.t bor k c3 ((g.set bO (.dat (.str x))).set cz (.dat (.lst b)))with
       |some (true,_)=>some none
       |some (false,_)=>match rn.e bor k jx ((g.set bO (.dat (.str x))).set cz (.dat (.lst b)))with
        |some (.dat (.str s),_)=>if t.length<1000 then rB bO cz c1 c2 c3 jx g ds (ll.dropLast.dropLast++[t++[.str s]])else none
        |_=>none
       |none=>none
      |_,_=>none
     else some none
    |none=>none
   |none=>none
  |_=>none
def aF(st:Sm)(g:G):Option (Fl×G):=match st with
 |.ret e=>match rn.e bor k e g with |some (r,g1)=>some (.rt r,g1) |none=>none
 |.expr e=>match rn.e bor k e g with |some (_,g1)=>some (.nx,g1) |none=>none
 |.set i e=>if i∈bor then none else match rn.e bor k e g with
  |some (.new l,g1)=>if i<g1.length then some (.nx,g1.set i (.own l))else none
  |some (r,g1)=>match toD bor r g1 with |some (d,g2)=>some (.nx,g2.set i (.dat d)) |none=>none
  |none=>none
 |.setC i e=>if i∈bor then none else match e with
  |.comp n kk T it c e=>match dm rn bor k n kk T it c e g with
   |some (acc,g1)=>if i<g1.length then some (.nx,g1.set i (.own acc))else none
   |none=>none
  |_=>none
 |.item i j e=>match gk rn bor k e g with
  |some (d,g1)=>match g1[i]? with
   |some (.own _)=>match gk rn bor k j g1 with
    |some (.int n,g2)=>match g2[i]? with
     |some (.own l)=>match pZ l.length n with |some m=>some (.nx,g2.set i (.own (l.set m d))) |none=>none
     |_=>none
    |_=>none
   |_=>none
  |none=>none
 |.par i j a b=>if i∈bor then none else if j∈bor then none else match jC rn bor k [a,b] g with
  |some ([d1,d2],g1)=>some (.nx,(g1.set i (.dat d1)).set j (.dat d2))
  |_=>none
 |.ite c a b=>match rn.t bor k c g with
  |some (true,g1)=>rn.b bor k a g1
  |some (false,g1)=>rn.b bor k b g1
  |none=>none
 |.loop T it b=>if T.ix.any (λi=>decide (i∈bor))=true then none else match jD rn bor k T.pF it g with
  |some (items,g1)=>cP T (rn.b bor k b) items g1
  |none=>none
 |.while c b=>rA (rn.t bor k c) (rn.b bor k b) 100000 g
 |.Az tW bO iy cz c1 c2 c3 jx=>match g[tW]?,g[bO]? with
  |some (.dat (.str x)),some .no=>match g[iy]?,g[cz]? with
   |some .no,some .no=>if (bM g&&bor.isEmpty)=true then match rB rn bor k bO cz c1 c2 c3 jx g (mw x) [[]]with
     |some r=>some (.rt (.dat (.bl (mz r))),g)
     |none=>none
    else none
   |_,_=>none
  |_,_=>none
 |.stuck=>none
def bJ:List Sm->G->Option (Fl×G)
 | [],g=>some (.nx,g)
 |st::aE,g=>match aF rn bor k st g with
  |some (.nx,g1)=>bJ aE g1
  |some (f,g1)=>some (f,g1)
  |none=>none
end
noncomputable def xArgs(rn:Rn)(bor:List Nat)(k:Nat)(l:List Ex)(g:G):Option (Nat×G):=none
noncomputable def Be(rn:Rn)(bor:List Nat)(k:Nat)(fns:List Fx)(e:Ex)(g:G):Option (Nat×G):=none
def uc(rn:Rn)(bor:List Nat)(k:Nat)(e:Ex)(g:G):Option (Nat×G):=none
noncomputable def Nt(rn:Rn)(bor:List Nat)(k:Nat)(st:Sm)(g:G):Option (Nat×G):=none
noncomputable def ud(rn:Rn)(bor:List Nat)(k:Nat)(l:List Sm)(g:G):Option (Nat×G):=none
def step(fns:List Fx)(rn:Rn):Rn:=⟨λbor k e g=>aU rn bor k fns e g,λbor k e g=>stepT rn bor k e g,λbor k l g=>bJ rn bor k l g,λbor k e g=>Be rn bor k fns e g,λbor k e g=>uc rn bor k e g,λbor k l g=>ud rn bor k l g⟩
noncomputable def rn0:Rn:=⟨λ_ _ _ _=>none,λ_ _ _ _=>none,λ_ _ _ _=>none,λ_ _ _ _=>none,λ_ _ _ _=>none,λ_ _ _ _=>none⟩
def run(fns:List Fx):Nat->Rn
 | 0=>rn0
 |n+1=>step fns (run fns n)
structure Ct where
 N:List Str
 sc:Scope
 df:Bool
 q:Str
structure Fi where
 name:Str
 qual:Str
 st:Stmt
 N:List Str
 ps:List Str
structure Pg where
 fn:List Fi
 ct:List (Str×D)
 bn:List Str
 cls:List Str:=[]
 lam:Bool:=false
 JF:List Addr:=[]
 kt:Str:=Str.empty
 ups:List (Str×List (Addr×Bool)):=[]
def Nu(K:Frag)(mg:Str->Option Value)(n:Str)(dz:Value):Prop:=
 ∃c q,dz=.ref c/\(∀b:Heap,K.In b->PySem.W.CodeHd b c q)/\(q,zj n)∈cT K/\(∀b:Heap,K.In b->b.BuiltinsAt mg q)/\mainGlobals≠q/\∀p∈cT K,p.1=q->p.2=zj n
structure xO(P:Pg)(K:Frag)(mg:Str->Option Value):Prop where
 fn:∀(i:Nat) (fi:Fi),P.fn[i]?=some fi->∃f fd,mg fi.name=some (.ref f)/\Ro K fi.name fi.qual fi.st f fd/\dg fi.N fi.ps (aQ fi.st)/\L2.Binds K fd fi.ps []/\(fi.name==(~~~3))=false
 ct:∀(x:Str) (d:D),(x,d)∈P.ct->(x==(~~~3))=false/\∃v u,mg x=some u/\RelV v u/\∀M H,Rep K M H d v
 bn:∀x∈P.bn,mg x=none
 cls:∀x∈P.cls,(x==(~~~3))=false/\∃C,mg x=some (.ref C)/\xh K C
 lam:P.lam=true->∀n∈qA,∀dz,PySem.W.codeIn K dz n=true->Nu K mg n dz
 JF:∀(i:Nat) (C:Addr),P.JF[i]?=some C->∃x,P.cls[i]?=some x/\mg x=some (.ref C)/\xh K C/\Rw K C
 kt:P.lam=true->(P.kt==(~~~3))=false/\∃D,mg P.kt=some (.ref D)/\xh K D/\∀C∈P.JF,Sx K C D=true
 ups:∀(x:Str) (l:List (Addr×Bool)),(x,l)∈P.ups->(x==(~~~3))=false/\∃cv,((mg x=some cv/\∃D,cv=.ref D)\/(x∈P.bn/\x≠ "__name__" /\bootBuiltins x=some cv/\∃n,cv=.type n))/\PySem.W.kitOne K (.type "NoneType") cv=some false/\∀C b,l.lookup C=some b->PySem.W.kitOne K (.ref C) cv=some b
structure aZ(P:Pg)(k:Nat)(X:Cx)(c:Ct):Prop where
 N:X.N=c.N
 nd:c.N.Nodup
 Qj:∀x,c.sc.names.lookup x=some .local->X.env.scope.names.lookup x=some .local
 yt:∀x,c.sc.names.lookup x=some .globalImplicit->Gl X x
 Xo:∀x,c.sc.names.lookup x=some .cell\/c.sc.names.lookup x=some .free->X.env.scope.names.lookup x=some .cell\/X.env.scope.names.lookup x=some .free
 Y5:c.df=true->∀x,c.sc.names.lookup x=some .cell->X.env.scope.names.lookup x=some .cell
 fn:∀x,c.df=true\/c.sc.names.lookup x=some .local->X.fn x=true
 bk:c.df=true->X.env.blockKind=.function
 calm:X.calm=true
 xe:X.xe=λ_ _=>False
 md:xO P X.K X.mg
 room:eW k X.A
 lam:c.q∈qA->P.lam=true->X.env.qual ++ "<lambda>"=zj c.q/\Nu X.K X.mg c.q X.env.code
noncomputable def xP(sc:Scope)(x:Str):Bool:=match sc.names.lookup x with |some .local=>true |some .cell=>true |some .free=>true |_=>false
noncomputable def gP(c:Ct)(x:Str):Bool:=match c.sc.names.lookup x with |some .local=>true |some .cell=>c.df |_=>false
noncomputable def fP(x:Str):Bool:=!(x==(~~~3))&&!(x==("__classdict__":Str))
section
theorem aZ.vis(h:aZ P k X c)(hv:xP c.sc x=true):ym X.env.scope x:=by
 unfold xP at hv;split at hv
 . rename_i e;exact .inl (h.Qj x e)
 . rename_i e;exact (h.Xo x (.inl e)).elim (λq=>.inr (.inl q)) λq=>.inr (.inr q)
 . rename_i e;exact (h.Xo x (.inr e)).elim (λq=>.inr (.inl q)) λq=>.inr (.inr q)
 . cases hv
theorem aZ.nm(h:aZ P k X c)(hi:c.N[i]?=some x)(hs:gP c x=true):qK X x i:=by
 refine⟨h.N▸h.nd,by rw[h.N];exact hi,?_,.inl (h.fn x ?_)⟩
 .
  unfold gP at hs;split at hs
  . rename_i e;exact .inl (h.Qj x e)
  . rename_i e;exact .inr (h.Y5 hs x e)
  . cases hs
 .
  unfold gP at hs;split at hs
  . rename_i e;exact .inr e
  . exact .inl hs
  . cases hs
theorem cG(h:fP x=true):(x==(~~~3))=false/\(x==("__classdict__":Str))=false:=by unfold fP at h;simp only[eM,Bool.not_eq_true']at h;exact h
theorem bV{α:Type}{f:Int->Int->Option α}{a b:D}{r:α}(h:jf f a b=some r):∃i j,a=.int i/\b=.int j/\f i j=some r:=by
 unfold jf at h;split at h
 .
  split at h
  . exact⟨_,_,rfl,rfl,h⟩
  . symm
 . symm
theorem Hg{d1 d2:D}{r:R}(hK:z.K=X.K)(h:Nq d1 d2=some r):gD X z (binaryOp .Add) d1 d2 r:=by
 unfold Nq at h;split at h
 .
  split at h
  . symm;exact uT Kw
  . symm;exact GL
  . symm
 .
  split at h
  .
   split at h
   . rename_i hc;symm;exact GK hc
   . symm
  . symm
 .
  split at h
  .
   split at h
   . rename_i hc;symm;exact Lz hc
   . symm
  . symm
 .
  split at h
  .
   split at h
   . rename_i hc;symm;exact FW hK hc
   . symm
  . symm
 . symm
theorem Bf:g7 X (binaryOp .FloorDiv) (rI (λ_ j=>0<j/\j<18446744073709551616) λi j=>.int (i / j)):=U1 λi j _ _ _ _ _ hc q=>by
 have h1:0<j/\j<18446744073709551616:=hc;refine floordiv_int ⋯ (by rw[Int.fdiv_eq_ediv_of_nonneg i ⋯];exact q) (.inl (PyProof.noPylong_of_log2 ?_))
 have h2:j.natAbs.log2<64:=(Nat.log2_lt ⋯).mpr (by show _<18446744073709551616;lia)
 lia
theorem Hi{d1:D}{k:Int}{r:R}(hK:z.K=X.K)(h:G9 d1 k=some r):gD X z (binaryOp .Mult) d1 (.int k) r:=by
 unfold G9 at h;split at h
 .
  split at h
  . rename_i hc;symm;refine oR Kz ?_;unfold G8 at hc;simp only[y7,eM,mN]at hc;exact hc
  . symm
 .
  split at h
  . rename_i hc;symm;exact LC hc.1 hc.2.1 hc.2.2
  . symm
 . symm
theorem Nv(hK:z.K=X.K)(h:jY op d1 d2=some r):gD X z (binaryOp op) d1 d2 r:=by
 cases op with
 |Add=>exact Hg hK h
 |Sub=>
  dsimp only[jY,S4]at h;split at h
  .
   split at h
   . symm;exact uT Ky
   . symm;exact GP
   . symm
  . symm
 |Mult=>
  dsimp only[jY]at h;split at h
  . exact Hi hK h
  . symm
 |FloorDiv=>
  obtain⟨i,j,rfl,rfl,h'⟩:=bV h;split at h'
  . rename_i hc;cases h';exact oR Bf hc
  . cases h'
 |Mod=>
  obtain⟨i,j,rfl,rfl,h'⟩:=bV h;split at h'
  . rename_i hc;cases h';exact oR KC hc
  . cases h'
 |Pow=>
  obtain⟨i,j,rfl,rfl,h'⟩:=bV h;split at h'
  . rename_i hc;cases h';exact oR oq ⟨hc.1,by have:=hc.2.1;lia,hc.2.2⟩
  . cases h'
 |LShift=>
  obtain⟨i,j,rfl,rfl,h'⟩:=bV h;split at h'
  . rename_i hc;cases h';exact Nb hc.1 (by have:=hc.2.1;lia) hc.2.2
  . cases h'
 |_=>symm
theorem lF(hK:z.K=X.K)(hr:eW k X.A)(h:cO op d1 d2=some b):gD X z (compareOp op) d1 d2 (.dat (.bl b)):=by
 have hu:=hr.un;cases op with
 |Eq=>
  dsimp only[cO]at h;split at h
  . rename_i hc;symm;simp only[dH,eM]at hc;exact RK hK hc.1.1 hc.1.2 (by have:=hc.2;lia)
  . symm
 |NotEq=>
  dsimp only[cO]at h;split at h
  . rename_i hc;symm;simp only[dH,eM]at hc;exact RM hK hc.1.1 hc.1.2 (by have:=hc.2;lia)
  . symm
 |Lt=>
  dsimp only[cO,Y4]at h;split at h
  .
   split at h
   . symm;exact oU Q5
   . symm
  . symm
 |LtE=>obtain⟨i,j,rfl,rfl,h'⟩:=bV h;cases h';exact oU Q6
 |Gt=>obtain⟨i,j,rfl,rfl,h'⟩:=bV h;cases h';exact oU Jq
 |GtE=>obtain⟨i,j,rfl,rfl,h'⟩:=bV h;cases h';exact oU Q7
 |In=>
  dsimp only[cO]at h;split at h
  .
   rename_i hs;split at h
   . rename_i hc;symm;simp only[xN,eM]at hc;exact RP hK hs hc.1.1 hc.1.2 (by have:=hc.2;lia)
   . symm
  . symm
 |NotIn=>
  dsimp only[cO]at h;split at h
  .
   rename_i hs;split at h
   . rename_i hc;symm;simp only[xN,eM]at hc;exact zA hK hs hc.1.1 hc.1.2 (by have:=hc.2;lia)
   . symm
  .
   unfold S6 at h;split at h
   .
    split at h
    . symm;exact xF
    . symm
   . symm
 |Is=>
  dsimp only[cO,Vm]at h;split at h
  . symm;exact RQ
  . symm;exact Ly
  . symm
 |IsNot=>
  dsimp only[cO]at h;unfold Vm at h;split at h
  .
   rename_i e;split at e
   . cases e;symm;exact zC
   . cases e;symm;exact FT
   . cases e
  . symm
theorem Nx(hK:z.K=X.K)(hr:X.A.units+1<cLine)(h:Ba d1 d2=some d):K9 X z d1 d2 (.dat d):=by
 unfold Ba at h;split at h
 . exact LQ hK h
 . exact LR hK h
 . exact FZ hK h
 .
  split at h
  .
   rename_i hl;split at h
   . rename_i e;symm;exact GQ hl e
   . symm
  . symm
 .
  split at h
  . rename_i e;exact M9 hK hr e h
  . symm
 . symm
noncomputable def Vn:Bl->Str×Value
 |.len=>("len",.builtin "len")
 |.list=>("list",.type "list")
 |.tuple=>("tuple",.type "tuple")
 |.max=>("max",.builtin "max")
 |.min=>("min",.builtin "min")
 |.str=>("str",.type "str")
 |.all=>("all",.builtin "all")
 |.any=>("any",.builtin "any")
 |.int=>("int",.type "int")
 |.sorted=>("sorted",.builtin "sorted")
 |.sum=>("sum",.builtin "sum")
theorem Ny{b:Bl}{d:D}{r:R}(hK:z.K=X.K)(hc:X.calm=true)(hr:X.A.units+6<cLine)(h:S7 b d=some r):CallD X z (Vn b).2 [d] r:=by
 cases b <;> dsimp only[S7]at h
 case len=>
  split at h
  . rename_i e;symm;exact L0 hK e
  .
   unfold S5 at h;split at h
   .
    split at h
    . rename_i hl;symm;exact GR hl
    . symm
   . symm
 case list=>
  split at h
  . rename_i e;symm;exact Ga hK e
  .
   unfold listS at h;split at h
   .
    split at h
    . rename_i hl;symm;exact Ar hc hl
    . symm
   . symm
 case tuple=>
  split at h
  . rename_i e;symm;exact zF hK e
  . symm
 case all=>
  split at h
  .
   split at h
   . rename_i e;symm;exact L8 hc e
   . symm
  . symm
 case sorted=>
  split at h
  .
   rename_i e1;split at h
   .
    rename_i e2;split at h
    . rename_i e3;symm;exact wY hK e1 e2 e3
    . symm
   .
    split at h
    .
     rename_i e2;split at h
     . rename_i e3;symm;exact tD hK e1 e2 e3
     . symm
    .
     unfold JD at h;split at h
     .
      split at h
      .
       rename_i e4;split at h
       . rename_i e5;symm;exact tN e4 e5
       . symm
      . symm
     . symm
  . symm
 all_goals symm
theorem Nz{b:Bl}{ds:List D}{r:R}(hK:z.K=X.K)(hc:X.calm=true)(hr:X.A.units+6<cLine)(h:nI b ds=some r):CallD X z (Vn b).2 ds r:=by
 unfold nI at h;split at h
 . exact Ny hK hc hr h
 .
  cases b with
  |max=>obtain⟨i,j,rfl,rfl,h'⟩:=bV h;cases h';exact L5 hc
  |min=>obtain⟨i,j,rfl,rfl,h'⟩:=bV h;cases h';exact L7 hc
  |_=>symm
 . symm
noncomputable def pG:List String:=["int", "bool", "str", "tuple", "list", "dict"]
theorem rC{K:Frag}{M:List Addr}{H:Hp}{v:V}{d:D}(p:Pk K M H d v){n:String}(hn:n∈pG):PySem.W.kitOne K (Dz d) (.type n)=some (eY (oV d) n):=by
 cases d with
 |uQ C=>
  cases p with
  |of q=>
   cases q with
   |uQ k _ _=>refine (k.kit n hn).trans ?_;unfold pG at hn;simp only[c6,i5,Ap]at hn;rcases hn with rfl |rfl |rfl |rfl |rfl |rfl <;> first |rfl |decide
 |_=>unfold pG at hn;simp only[c6,i5,Ap]at hn;rcases hn with rfl |rfl |rfl |rfl |rfl |rfl <;> first |rfl |decide
theorem nL{K:Frag}{M:List Addr}{H:Hp}{v:V}{d:D}(p:Pk K M H d v):∀{ns:List String},(∀n∈ns,n∈pG)->PySem.W.kitAny K (Dz d) (ns.map Value.type)=some (ns.any (eY (oV d)))
 | [],_=>rfl
 |n::ns,h=>by
  show (match PySem.W.kitOne K (Dz d) (.type n)with |some true=>some true |some false=>PySem.W.kitAny K (Dz d) (ns.map Value.type) |none=>none)=_
  rw[rC p (h n bP),nL p λm hm=>h m (a8 _ hm),List.any_cons]
  cases eY (oV d) n <;> rfl
end
noncomputable def Hj(sc scope:Scope):Bool:=decide (scope.kind=.function)&&scope.names.all λy=>decide (y.2≠.cell)&&(decide (y.2≠.local)||decide (scope.names.lookup y.1=some .local)) &&
 (decide (y.2≠.free)||(decide (scope.names.lookup y.1=some .free)&&(decide (sc.names.lookup y.1=some .cell)||decide (sc.names.lookup y.1=some .free))))
noncomputable def pH(N N':List Str)(scope:Scope)(k:Nat):Bool:=decide (N'.length=N.length+(k+1))&&(match N'[N.length+k]? with |some x=>decide (scope.names.lookup x=none) |none=>true) &&
 (List.range N.length).all λi=>match N'[i]? with |some x=>decide (scope.names.lookup x=none)||(decide (N[i]?=some x)&&decide (scope.names.lookup x≠some .local)) |none=>true
inductive xQ(c:Ct):List Expr->List Nat->Prop
 |nil:xQ c [] []
 |cons {x:Str}{i:Nat}{pos:Pos}{es:List Expr}{is:List Nat}:c.N[i]?=some x->gP c x=true->xQ c es is->xQ c (.Name x pos::es) (i::is)
inductive xR(P:Pg)(c:Ct):List Expr->List String->Prop
 |nil:xR P c [] []
 |cons {T:Str}{n:String}{pos:Pos}{es:List Expr}{ns:List String}:T∈P.bn->c.sc.names.lookup T=some .globalImplicit->T=Str.ofString n->n∈pG->xR P c es ns->xR P c (.Name T pos::es) (n::ns)
inductive NB(c:Ct):Expr->Tg->Prop
 |nm:c.N[i]?=some x->gP c x=true->NB c (.Name x pos) (.nm i)
 |tp:xQ c es is->NB c (.Tuple es k pos) (.tp is)
noncomputable def NC(c:Ct)(x y:Str)(px py:Pos)(a b:Expr):Bool:=(c.sc.names.lookup x==some .local)&&(c.sc.names.lookup y==some .local)&&py.line==px.line&&!(x==y)&&!(foldedForSure 8 a&&foldedForSure 8 b)&&!(constantsAlone 8 a&&constantsAlone 8 b)&&c.df
noncomputable def S9(c:Ct)(y:Str)(py pos:Pos)(scope:Scope):Bool:=(c.sc.names.lookup y==some .local)&&py.line==pos.line&&!(scope.names.any λ(n,k)=>n==y&&(k==.local||k==.cell))
inductive uf(R:Expr->Ex->Prop):List Expr->List Ex->Prop
 |nil:uf R [] []
 |cons {e:Expr}{es:List Expr}{x:Ex}{xs:List Ex}:R e x->uf R es xs->uf R (e::es) (x::xs)
inductive Hl(R:Expr->Ex->Prop):Option Expr->Option Ex->Prop
 |none:Hl R Option.none Option.none
 |some {e:Expr}{x:Ex}:R e x->Hl R (Option.some e) (Option.some x)
inductive vm(R:Expr->Ex->Prop):List Expr->Option Ex->Prop
 |none:vm R [] Option.none
 |some {e:Expr}{x:Ex}:R e x->vm R [e] (Option.some x)
inductive ug(P:Pg)(R:Expr->Ex->Prop)(c:Ct):Expr->Ex->Prop
 |seq:R e x->ug P R c e x
 |fG:R a xa->("range":Str)∈P.bn->c.sc.names.lookup ("range":Str)=some .globalImplicit->ug P R c (.Call (.Name "range" p) [a] [] pos) (.fG xa)
 |je:R a xa->R b xb->("range":Str)∈P.bn->c.sc.names.lookup ("range":Str)=some .globalImplicit->ug P R c (.Call (.Name "range" p) [a,b] [] pos) (.je xa xb)
 |zip:R a xa->R b xb->("zip":Str)∈P.bn->c.sc.names.lookup ("zip":Str)=some .globalImplicit->ug P R c (.Call (.Name "zip" p) [a,b] [] pos) (.zip xa xb)
noncomputable def DW(e:Expr):Option Str:=match e with |.Name x _=>some x |_=>none
theorem lG{e:Expr}{x:Str}(h:DW e=some x):∃p,e=.Name x p:=by cases e <;> first | (symm;exact⟨_,rfl⟩) |symm
noncomputable def Bg{α:Type}(l:List α):Option α:=match l with | [a]=>some a |_=>none
theorem jZ{α:Type}{l:List α}{a:α}(h:Bg l=some a):l=[a]:=by
 cases l with
 |nil=>symm
 |cons b l=>cases l with
  |nil=>symm;rfl
  |cons _ _=>symm
noncomputable def Tc(s:Stmt):Option (List Expr×Expr):=match s with |.Assign ts e _=>some (ts,e) |_=>none
theorem Ho{s:Stmt}{r:List Expr×Expr}(h:Tc s=some r):∃p,s=.Assign r.1 r.2 p:=by cases s <;> first | (symm;exact⟨_,rfl⟩) |symm
noncomputable def Td(e:Expr):Option Const:=match e with |.Constant c _ _=>some c |_=>none
theorem Hq(h:Td e=some c):∃j p,e=.Constant c j p:=by cases e <;> first | (symm;exact⟨_,_,rfl⟩) |symm
noncomputable def Te(c:Const):Option Unit:=match c with |.none=>some () |_=>none
theorem Hr(h:Te c=some ()):c=.none:=by cases c <;> first |rfl |symm
noncomputable def Tf(s:Stmt):Option Expr:=match s with |.Expr e _=>some e |_=>none
theorem Hs{s:Stmt}{e:Expr}(h:Tf s=some e):∃p,s=.Expr e p:=by cases s <;> first | (symm;exact⟨_,rfl⟩) |symm
noncomputable def Ti(e:Expr):Option (Expr×List Expr×List Keyword):=match e with |.Call f as ks _=>some (f,as,ks) |_=>none
theorem Ht{e:Expr}{r:Expr×List Expr×List Keyword}(h:Ti e=some r):∃p,e=.Call r.1 r.2.1 r.2.2 p:=by cases e <;> first | (symm;exact⟨_,rfl⟩) |symm
noncomputable def Tj(s:Stmt):Option (List Stmt×List ExceptHandler×List Stmt×List Stmt):=match s with |.Try b h o f _=>some (b,h,o,f) |_=>none
theorem Hu{s:Stmt}{r:List Stmt×List ExceptHandler×List Stmt×List Stmt}(h:Tj s=some r):∃p,s=.Try r.1 r.2.1 r.2.2.1 r.2.2.2 p:=by cases s <;> first | (symm;exact⟨_,rfl⟩) |symm
noncomputable def Bh{α:Type}(l:List α):Option Unit:=match l with | []=>some () |_=>none
theorem j9{α:Type}{l:List α}(h:Bh l=some ()):l=[]:=by cases l with |nil=>rfl |cons _ _=>symm
noncomputable def Tp(h:ExceptHandler):Option (Expr×Str×List Stmt):=match h with |.ExceptHandler t n b _=>t.bind λt=>n.bind λn=>some (t,n,b)
theorem Hv{h:ExceptHandler}{r:Expr×Str×List Stmt}(e:Tp h=some r):∃p,h=.ExceptHandler (some r.1) (some r.2.1) r.2.2 p:=by
 obtain⟨t,n,b,p⟩:=h;cases t with
 |none=>cases e
 |some t=>cases n with
  |none=>cases e
  |some n=>cases e;exact⟨p,rfl⟩
def vn(s:Stmt):Option (Str×Expr):=(Tc s).bind λr=>(Bg r.1).bind λt=>(DW t).bind λx=>some (x,r.2)
theorem rD{s:Stmt}{r:Str×Expr}(h:vn s=some r):∃p q,s=.Assign [.Name r.1 p] r.2 q:=by unfold vn at h;simp only[d5]at h;obtain⟨⟨ts,e⟩,h1,t,h2,x,h3,h4⟩:=h;cases h4;obtain⟨p,rfl⟩:=Ho h1;obtain⟨q,rfl⟩:=lG h3;have:=jZ h2;subst this;exact⟨q,p,rfl⟩
def NK(l:List Stmt):Option Str:=(Bg l).bind λs3=>(Tf s3).bind λce=>(Ti ce).bind λf=>(Bh f.2.1).bind λ_=>(Bh f.2.2).bind λ_=>DW f.1
theorem Vo{l:List Stmt}{y:Str}(h:NK l=some y):∃py cp ep,l=[.Expr (.Call (.Name y py) [] [] cp) ep]:=by replace h:=d5.1 h;obtain⟨s3,h1,h⟩:=h;cases jZ h1;clear h1;replace h:=d5.1 h;obtain⟨ce,h1,h⟩:=h;obtain⟨p,e1⟩:=Hs h1;cases e1;clear h1;replace h:=d5.1 h;obtain⟨⟨f1,f2,f3⟩,h1,h⟩:=h;obtain⟨q,e1⟩:=Ht h1;cases e1;clear h1;replace h:=d5.1 h;obtain⟨_,h1,h⟩:=h;replace h:=d5.1 h;obtain⟨_,h2,h⟩:=h;obtain⟨r,e1⟩:=lG h;exact⟨r,q,p,by have a:=j9 h1;have b:=j9 h2;dsimp only at a b e1 ⊢;rw[a,b,e1]⟩
def NP(l:List ExceptHandler):Option (Str×Str×Str×Str):=(Bg l).bind λhh=>(Tp hh).bind λu=>(DW u.1).bind λke=>(Bg u.2.2).bind λs4=>(vn s4).bind λb=>(DW b.2).bind λen'=>some (ke,u.2.1,b.1,en')
theorem Vp{l:List ExceptHandler}{r:Str×Str×Str×Str}(h:NP l=some r):∃kp erp enp ap hp,l=[.ExceptHandler (some (.Name r.1 kp)) (some r.2.1) [.Assign [.Name r.2.2.1 erp] (.Name r.2.2.2 enp) ap] hp]:=by replace h:=d5.1 h;obtain⟨hh,h1,h⟩:=h;cases jZ h1;clear h1;replace h:=d5.1 h;obtain⟨⟨u1,u2,u3⟩,h1,h⟩:=h;obtain⟨p,e1⟩:=Hv h1;cases e1;clear h1;replace h:=d5.1 h;obtain⟨ke,h1,h⟩:=h;obtain⟨q,e1⟩:=lG h1;cases e1;clear h1;replace h:=d5.1 h;obtain⟨s4,h1,h⟩:=h;cases jZ h1;clear h1;replace h:=d5.1 h;obtain⟨⟨b1,b2⟩,h1,h⟩:=h;obtain⟨m,n,e1⟩:=rD h1;cases e1;clear h1;replace h:=d5.1 h;obtain⟨en,h1,h⟩:=h;obtain⟨o,e1⟩:=lG h1;cases e1;clear h1;symm;exact⟨q,m,o,n,p,rfl⟩
def Xp(s:Stmt):Option Str:=(vn s).bind λa=>(Td a.2).bind λc=>(Te c).bind λ_=>some a.1
theorem Vq(h:Xp s=some x):∃p j np ap,s=.Assign [.Name x p] (.Constant .none j np) ap:=by replace h:=d5.1 h;obtain⟨⟨a1,a2⟩,h1,h⟩:=h;obtain⟨p,q,e1⟩:=rD h1;cases e1;clear h1;replace h:=d5.1 h;obtain⟨c,h1,h⟩:=h;obtain⟨j,m,e1⟩:=Hq h1;cases e1;clear h1;replace h:=d5.1 h;obtain⟨_,h1,h⟩:=h;cases Hr h1;clear h1;symm;exact⟨p,j,m,q,rfl⟩
def Xq(s:Stmt):Option (Str×Str×Str×Str×Str):=(Tj s).bind λt=>(Bh t.2.2.1).bind λ_=>(Bh t.2.2.2).bind λ_=>(NK t.1).bind λy=>(NP t.2.1).bind λu=>some (y,u)
theorem Vs{s:Stmt}{r:Str×Str×Str×Str×Str}(h:Xq s=some r):∃l hs p,NK l=some r.1/\NP hs=some r.2/\s=.Try l hs [] [] p:=by replace h:=d5.1 h;obtain⟨⟨t1,t2,t3,t4⟩,h1,h⟩:=h;obtain⟨p,e1⟩:=Hu h1;cases e1;clear h1;replace h:=d5.1 h;obtain⟨_,h1,h⟩:=h;cases j9 h1;clear h1;replace h:=d5.1 h;obtain⟨_,h1,h⟩:=h;cases j9 h1;clear h1;replace h:=d5.1 h;obtain⟨y,h1,h⟩:=h;replace h:=d5.1 h;obtain⟨u,h2,h⟩:=h;symm;exact⟨t1,t2,p,h1,h2,rfl⟩
abbrev p0:Pos:=⟨0,0,0,0⟩
inductive uh(RG:List Stmt->Sm->Prop)(RS:Stmt->Sm->Prop):List Stmt->List Sm->Prop
 |nil:uh RG RS [] []
 |grp {ss aE:List Stmt}{x:Sm}{xs:List Sm}:RG ss x->uh RG RS aE xs->uh RG RS (ss++aE) (x::xs)
 |cons {s:Stmt}{ss:List Stmt}{x:Sm}{xs:List Sm}:RS s x->uh RG RS ss xs->uh RG RS (s::ss) (x::xs)
noncomputable def um(k:Scope->Pos->Bool)(e:Expr):Bool:=match e with |.ListComp _ _ s p=>k s p |.DictComp ..=>true |_=>false
theorem aj{a b:Bool}(h:(a&&b)=true):a=true/\b=true:=by cases a <;> cases b <;> first |exact⟨rfl,rfl⟩ |symm
theorem dec{p:Prop} [Decidable p] (h:decide p=true):p:=w8 h
theorem jg(h:(!b)=true):b=false:=by cases b <;> first |rfl |symm
theorem NQ{α:Type}{l:List α}(h:l.isEmpty=true):l=[]:=by cases l with |nil=>rfl |cons _ _=>symm
theorem two{α:Type}{l:List α}(h:2<=l.length):∃a b m,l=a::b::m:=by
 cases l with
 |nil=>exact absurd h (AA 1)
 |cons a l=>cases l with
  |nil=>exact absurd h (Nat.not_succ_le_self 1)
  |cons b m=>exact⟨a,b,m,rfl⟩
noncomputable def Xr(c:Ct)(x:Str):Bool:=decide (c.sc.names.lookup x=some .globalImplicit)
def yu(P:Pg)(c:Ct)(x:Str):Bool:=P.bn.contains x&&Xr c x
theorem bh(h:yu P c x=true):x∈P.bn/\c.sc.names.lookup x=some .globalImplicit:=⟨y8.mp (aj h).1,dec (aj h).2⟩
noncomputable def nm(c:Ct)(i:Nat):Str:=c.N.getD i Str.empty
def pI(c:Ct)(i:Nat):Bool:=decide (c.N[i]?=some (nm c i))&&(xP c.sc (nm c i)&&fP (nm c i))
def Vt(c:Ct)(i:Nat):Bool:=decide (c.N[i]?=some (nm c i))&&gP c (nm c i)
theorem dZ(h:pI c i=true):c.N[i]?=some (nm c i)/\xP c.sc (nm c i)=true/\fP (nm c i)=true:=⟨dec (aj h).1,(aj (aj h).2).1,(aj (aj h).2).2⟩
def bang(x:Str):Str:=⟨x.cps.push 33⟩
def Tq(n:Nat):Str:=⟨(List.replicate n 33).toArray⟩
noncomputable def Bj(scope:Scope):List Str:=scope.names.filterMap λy=>if y.2==.local then some y.1 else none
def rE(N:List Str)(scope:Scope):List Str:=(N.map λy=>if scope.names.lookup y==some .local then bang y else y)++Bj scope++[Tq (N.length+1)]
noncomputable def uo:List Str->Bool
 | []=>true
 |x::l=>!l.contains x&&uo l
theorem nM:∀{l:List Str},uo l=true->l.Nodup
 | [],_=>AB
 |x::l,h=>by
  refine d6.mpr ⟨λhm=>?_,nM (aj h).2⟩
  have:=(aj h).1;rw[y8.mpr hm]at this;cases this
noncomputable def kids(e:Expr):List Expr:=match e with
 |.BoolOp _ vs _=>vs
 |.BinOp a _ b _=>[a,b]
 |.UnaryOp _ a _=>[a]
 |.Lambda _ b _ _=>[b]
 |.IfExp t a b _=>[t,a,b]
 |.ListComp e gs _ _=>e::gs.flatMap λg=>g.target::g.iter::g.ifs
 |.DictComp e v gs _ _=>e::v::gs.flatMap λg=>g.target::g.iter::g.ifs
 |.Compare a _ bs _=>a::bs
 |.Call f as ks _=>f::(as++ks.map (·.value))
 |.FormattedValue v _ _ _=>[v]
 |.JoinedStr vs _=>vs
 |.Attribute v _ _=>[v]
 |.Subscript a b _=>[a,b]
 |.List es _=>es
 |.Tuple es _ _=>es
 |.Slice a b s p=>[a.getD (.Name Str.empty p),b.getD (.Name Str.empty p),s.getD (.Name Str.empty p)]
 |_=>[]
def kid(e:Expr)(i:Nat):Expr:=(kids e).getD i e
noncomputable def gQ(e:Expr):Nat:=match e with |.Constant _ k _=>k |.Tuple _ k _=>k |_=>0
noncomputable def jN(e:Expr):Scope:=match e with |.Lambda _ _ s _=>s |.ListComp _ _ s _=>s |.DictComp _ _ _ s _=>s |_=>aQ (.Pass e.pos)
def yw(c:Ct)(t:Expr):Ct:=⟨rE c.N (jN t),jN t,false,Str.empty⟩
noncomputable def Bm(P:Pg)(i:Nat):Str:=match P.fn[i]? with |some fi=>fi.name |none=>Str.empty
theorem Hw(h:P.fn[i]?.isSome=true):∃fi,P.fn[i]?=some fi/\fi.name=Bm P i:=by
 unfold Bm;cases e:P.fn[i]? with
 |none=>rw[e]at h;symm
 |some g=>exact⟨g,rfl,rfl⟩
section
variable{R:Expr->Ex->Prop}{s:Ex->Expr->Expr}{f:Ex->Expr->Bool}(hf:∀{x t},f x t=true->R (s x t) x)
include hf
noncomputable def jO(s:Ex->Expr->Expr)(t:Expr):Nat->List Ex->List Expr
 |_,[]=>[]
 |i,x::xs=>s x (kid t i)::jO s t (i+1) xs
noncomputable def Hx(f:Ex->Expr->Bool)(t:Expr):Nat->List Ex->Bool
 |_,[]=>true
 |i,x::xs=>f x (kid t i)&&Hx f t (i+1) xs
theorem cZ(h:Hx f t i xs=true):uf R (jO s t i xs) xs:=by
 induction xs generalizing i with
 |nil=>exact .nil
 |cons x xs ih=>exact .cons (hf (aj h).1) (ih (aj h).2)
noncomputable def NR(s:Ex->Expr->Expr)(t:Expr)(x:Option Ex):Option Expr:=match x with |some x=>some (s x t) |none=>none
noncomputable def Tr(f:Ex->Expr->Bool)(t:Expr)(x:Option Ex):Bool:=match x with |some x=>f x t |none=>true
theorem Bo(h:Tr f t x=true):Hl R (NR s t x) x:=by
 cases x with
 |none=>exact .none
 |some x=>exact .some (hf h)
noncomputable def NT(s:Ex->Expr->Expr)(t:Expr)(x:Option Ex):List Expr:=match x with |some x=>[s x t] |none=>[]
theorem NX(h:Tr f t x=true):vm R (NT s t x) x:=by
 cases x with
 |none=>exact .none
 |some x=>exact .some (hf h)
end
noncomputable def Hy(s:Ex->Expr->Expr)(x:Ex)(t:Expr):Expr:=match x with
 |.fG a=>.Call (.Name "range" (kid t 0).pos) [s a (kid t 1)] [] t.pos
 |.je a b=>.Call (.Name "range" (kid t 0).pos) [s a (kid t 1),s b (kid t 2)] [] t.pos
 |.zip a b=>.Call (.Name "zip" (kid t 0).pos) [s a (kid t 1),s b (kid t 2)] [] t.pos
 |x=>s x t
def Xs(P:Pg)(c:Ct)(f:Ex->Expr->Bool)(x:Ex)(t:Expr):Bool:=match x with
 |.fG a=>yu P c "range" && f a (kid t 1)
 |.je a b=>yu P c "range" && (f a (kid t 1)&&f b (kid t 2))
 |.zip a b=>yu P c "zip" && (f a (kid t 1)&&f b (kid t 2))
 |x=>f x t
theorem Bp{P:Pg}{R:Expr->Ex->Prop}{s:Ex->Expr->Expr}{f:Ex->Expr->Bool}(hf:∀{x t},f x t=true->R (s x t) x){c:Ct}{x:Ex}{t:Expr}(h:Xs P c f x t=true):ug P R c (Hy s x t) x:=by
 cases x
 case fG a=>exact .fG (hf (aj h).2) (bh (aj h).1).1 (bh (aj h).1).2
 case je a b=>exact .je (hf (aj (aj h).2).1) (hf (aj (aj h).2).2) (bh (aj h).1).1 (bh (aj h).1).2
 case zip a b=>exact .zip (hf (aj (aj h).2).1) (hf (aj (aj h).2).2) (bh (aj h).1).1 (bh (aj h).1).2
 all_goals exact .seq (hf h)
noncomputable def NZ(t:Expr):Nat->List String->List Expr
 |_,[]=>[]
 |i,n::ns=>.Name (Str.ofString n) (kid t i).pos::NZ t (i+1) ns
def Xu(P:Pg)(c:Ct):List String->Bool
 | []=>true
 |n::ns=>(pG.contains n&&yu P c (Str.ofString n))&&Xu P c ns
theorem N1(h:Xu P c ns=true):xR P c (NZ t i ns) ns:=by
 induction ns generalizing i with
 |nil=>exact .nil
 |cons n ns ih=>exact .cons (bh (aj (aj h).1).2).1 (bh (aj (aj h).1).2).2 rfl (y8.mp (aj (aj h).1).1) (ih (aj h).2)
noncomputable def N2(c:Ct)(t:Expr):Nat->List Nat->List Expr
 |_,[]=>[]
 |j,i::is=>.Name (nm c i) (kid t j).pos::N2 c t (j+1) is
def okN(c:Ct):List Nat->Bool
 | []=>true
 |i::is=>Vt c i&&okN c is
theorem N3(h:okN c is=true):xQ c (N2 c t j is) is:=by
 induction is generalizing j with
 |nil=>exact .nil
 |cons i is ih=>exact .cons (dec (aj (aj h).1).1) (aj (aj h).1).2 (ih (aj h).2)
def Hz(c:Ct)(T:Tg)(t:Expr):Expr:=match T with
 |.nm i=>.Name (nm c i) t.pos
 |.tp is=>.Tuple (N2 c t 0 is) (gQ t) t.pos
theorem Bq(h:okN c T.ix=true):NB c (Hz c T t) T:=by
 cases T with
 |nm i=>exact .nm (dec (aj (aj h).1).1) (aj (aj h).1).2
 |tp is=>exact .tp (N3 h)
noncomputable def N4(a b:D):Bool:=match a with |.int i=>(match b with |.int j=>decide (i=j) |_=>false) |_=>false
theorem HB(h:N4 a b=true):a=b:=by
 cases a with
 |int i=>cases b with
  |int j=>exact congrArg D.int (dec (show decide (i=j)=true from h))
  |_=>exact nt h
 |_=>exact nt h
def Vu(y:Str)(d:D):List (Str×D)->Bool
 | []=>false
 |p::l=>(decide (p.1=y)&&N4 p.2 d)||Vu y d l
theorem N5(h:Vu y d l=true):(y,d)∈l:=by
 induction l with
 |nil=>symm
 |cons p l ih=>
  obtain⟨x,d'⟩:=p;have hh:((decide (x=y)&&N4 d' d)||Vu y d l)=true:=h
  rcases y7 _ _▸hh with h |h
  . obtain⟨h1,h2⟩:=aj h;obtain rfl:=dec h1;rw[HB h2];exact bP
  . exact a8 _ (ih h)
noncomputable def Xv(d:D):Const:=match d with |.int i=>.int i |.bl b=>.bool b |.str y=>.str y |_=>.none
noncomputable def Xw(d:D):Bool:=match d with |.int _=>true |.bl _=>true |.str _=>true |.non=>true |_=>false
def uq(d:D)(t:Expr):Expr:=match DW t with |some y=>.Name y t.pos |none=>.Constant (Xv d) (gQ t) t.pos
def Xx(P:Pg)(c:Ct)(d:D)(t:Expr):Bool:=match DW t with |some y=>Xr c y&&Vu y d P.ct |none=>Xw d
def blK(c:Ct)(t:Expr)(k:Nat):Bool:=Hj c.sc (jN t)&&(pH c.N (rE c.N (jN t)) (jN t) k&&uo (rE c.N (jN t)))
def Y6(c:Ct)(k:Nat)(T:Tg):Bool:=T.ix.all λi=>decide (c.N.length<=i/\i<c.N.length+k)
theorem N6(h:Y6 c k T=true):∀i∈T.ix,c.N.length<=i/\i<c.N.length+k:=λi hi=>dec (tP.mp h i hi)
def o1(x:Option Ex):Nat:=match x with |some _=>1 |none=>0
def JG(e:Expr):Bool:=match e with |.Call f es ks _=>(DW f).isSome&&(!es.isEmpty&&ks.isEmpty) |_=>false
theorem rF{e:Expr}(h:JG e=true):∃x p a es pos,e=.Call (.Name x p) (a::es) [] pos:=by
 cases e
 case Call f es ks pos=>
  obtain⟨h1,h2⟩:=aj (show ((DW f).isSome&&(!es.isEmpty&&ks.isEmpty))=true from h);obtain⟨x,hx⟩:=Option.isSome_iff_exists.mp h1;obtain⟨p,rfl⟩:=lG hx;cases es with
  |nil=>cases (aj h2).1
  |cons a es=>rw[NQ (aj h2).2];exact⟨x,p,a,es,pos,rfl⟩
 all_goals exact nt h
def HD(P:Pg)(s:Ct->Ex->Expr->Expr)(c:Ct)(x:Ex)(t:Expr):Expr:=match x with
 |.val d=>uq d t
 |.slot i=>.Name (nm c i) t.pos
 |.bin op a b=>.BinOp (s c a (kid t 0)) op (s c b (kid t 1)) t.pos
 |.cmp op a b=>.Compare (s c a (kid t 0)) [op] [s c b (kid t 1)] t.pos
 |.chain a ops xs=>.Compare (s c a (kid t 0)) ops (jO (s c) t 1 xs) t.pos
 |.neg a=>.UnaryOp .USub (s c a (kid t 0)) t.pos
 |.not a=>.UnaryOp .Not (s c a (kid t 0)) t.pos
 |.and xs=>.BoolOp .And (jO (s c) t 0 xs) t.pos
 |.or xs=>.BoolOp .Or (jO (s c) t 0 xs) t.pos
 |.ite a b d=>.IfExp (s c a (kid t 0)) (s c b (kid t 1)) (s c d (kid t 2)) t.pos
 |.tup xs=>.Tuple (jO (s c) t 0 xs) (gQ t) t.pos
 |.lst xs=>.List (jO (s c) t 0 xs) t.pos
 |.ix a b=>.Subscript (s c a (kid t 0)) (s c b (kid t 1)) t.pos
 |.slice a lo hi=>.Subscript (s c a (kid t 0)) (.Slice (NR (s c) (kid (kid t 1) 0) lo) (NR (s c) (kid (kid t 1) 1) hi) none (kid t 1).pos) t.pos
 |.call i xs=>.Call (.Name (Bm P i) (kid t 0).pos) (jO (s c) t 1 xs) [] t.pos
 |.blt b xs=>.Call (.Name (Vn b).1 (kid t 0).pos) (jO (s c) t 1 xs) [] t.pos
 |.vj a n=>.Call (.Name "isinstance" (kid t 0).pos) [s c a (kid t 1),.Name (Str.ofString n) (kid t 2).pos] [] t.pos
 |.Ay a ns=>.Call (.Name "isinstance" (kid t 0).pos) [s c a (kid t 1),.Tuple (NZ (kid t 2) 0 ns) (gQ (kid t 2)) (kid t 2).pos] [] t.pos
 |.comp _ _ T it co xe=>.ListComp (s (yw c t) xe (kid t 0)) [⟨Hz (yw c t) T (kid t 1),Hy (s c) it (kid t 2),NT (s (yw c t)) (kid t 3) co,0⟩] (jN t) t.pos
 |.rev a=>.Subscript (s c a (kid t 0)) (.Slice none none (some (m1 (gQ (kid (kid (kid t 1) 2) 0)) (kid (kid (kid t 1) 2) 0).pos (kid (kid t 1) 2).pos)) (kid t 1).pos) t.pos
 |.emp=>.Dict [] [] t.pos
 |.peek xe=>s c xe t
 |.rq a=>.Call (.Name "list" (kid t 0).pos) [.Call (.Name "range" (kid (kid t 1) 0).pos) [s c a (kid (kid t 1) 1)] [] (kid t 1).pos] [] t.pos
 |.join x=>.Call (.Attribute (.Constant (.str Str.empty) (gQ (kid (kid t 0) 0)) (kid (kid t 0) 0).pos) "join" (kid t 0).pos) [s c x (kid t 1)] [] t.pos
 |.append i x=>.Call (.Attribute (.Name (nm c i) (kid (kid t 0) 0).pos) "append" (kid t 0).pos) [s c x (kid t 1)] [] t.pos
 |.extend i x=>.Call (.Attribute (.Name (nm c i) (kid (kid t 0) 0).pos) "extend" (kid t 0).pos) [s c x (kid t 1)] [] t.pos
 |.nG i x=>.Call (.Attribute (.Name (nm c i) (kid (kid t 0) 0).pos) "pop" (kid t 0).pos) [s c x (kid t 1)] [] t.pos
 |.pop i=>.Call (.Attribute (.Name (nm c i) (kid (kid t 0) 0).pos) "pop" (kid t 0).pos) [] [] t.pos
 |_=>t
noncomputable def JH(t:Expr):Bool:=(kid t 0).pos.endLine==t.pos.line
def Y7(P:Pg)(s:Ct->Ex->Expr->Expr)(f:Ct->Ex->Expr->Bool)(c:Ct)(x:Ex)(t:Expr):Bool:=match x with
 |.val d=>Xx P c d t
 |.slot i=>pI c i
 |.bin _ a b=>f c a (kid t 0)&&f c b (kid t 1)
 |.cmp op a b=>f c a (kid t 0)&&(f c b (kid t 1)&&!behindInMarks op (s c b (kid t 1)))
 |.chain a ops xs=>f c a (kid t 0)&&(Hx (f c) t 1 xs&&(!lastMarks ops (jO (s c) t 1 xs)&&(decide (2<=ops.length)&&decide (2<=xs.length))))
 |.neg a=>f c a (kid t 0)
 |.not a=>f c a (kid t 0)
 |.and xs=>Hx (f c) t 0 xs
 |.or xs=>Hx (f c) t 0 xs
 |.ite a b d=>f c a (kid t 0)&&(f c b (kid t 1)&&f c d (kid t 2))
 |.tup xs=>Hx (f c) t 0 xs
 |.lst xs=>Hx (f c) t 0 xs
 |.ix a b=>f c a (kid t 0)&&f c b (kid t 1)
 |.slice a lo hi=>f c a (kid t 0)&&(Tr (f c) (kid (kid t 1) 0) lo&&Tr (f c) (kid (kid t 1) 1) hi)
 |.call i xs=>P.fn[i]?.isSome&&(Xr c (Bm P i)&&(Hx (f c) t 1 xs&&!xs.isEmpty))
 |.blt b xs=>yu P c (Vn b).1&&(Hx (f c) t 1 xs&&!xs.isEmpty)
 |.vj a n=>yu P c "isinstance" && (f c a (kid t 1)&&(pG.contains n&&yu P c (Str.ofString n)))
 |.Ay a ns=>yu P c "isinstance" && (f c a (kid t 1)&&(decide (ns.length<=100)&&Xu P c ns))
 |.comp n k T it co xe=>decide (n=c.N.length)&&(blK c t k&&(okN (yw c t) T.ix&&(Y6 c k T&&(Xs P c (f c) it (kid t 2)&&(Tr (f (yw c t)) (kid t 3) co&&f (yw c t) xe (kid t 0))))))
 |.rev a=>f c a (kid t 0)
 |.emp=>true
 |.peek xe=>JG (s c xe t)&&f c xe t
 |.rq a=>(yu P c "range" && yu P c "list")&&f c a (kid (kid t 1) 1)
 |.join x=>JH t&&f c x (kid t 1)
 |.append i x=>JH t&&(pI c i&&f c x (kid t 1))
 |.extend i x=>JH t&&(pI c i&&f c x (kid t 1))
 |.nG i x=>JH t&&(pI c i&&f c x (kid t 1))
 |.pop i=>JH t&&pI c i
 |_=>false
def eN(P:Pg):Nat->Ct->Ex->Expr->Expr
 | 0=>λ_ _ t=>t
 |n+1=>HD P (eN P n)
def nO(P:Pg):Nat->Ct->Ex->Expr->Bool
 | 0=>λ_ _ _=>false
 |n+1=>Y7 P (eN P n) (nO P n)
def Cm(P:Pg)(c:Ct)(e:Expr)(x:Ex):Prop:=∃n t,e=eN P n c x t/\nO P n c x t=true
theorem Cm.mk{P:Pg}{n:Nat}{c:Ct}{x:Ex}{t:Expr}(h:nO P n c x t=true):Cm P c (eN P n c x t) x:=⟨n,t,rfl,h⟩
theorem Cm.G6(h:Cm P c e x):∃n t,e=HD P (eN P n) c x t/\Y7 P (eN P n) (nO P n) c x t=true:=by
 obtain⟨n,t,rfl,h⟩:=h;cases n with
 |zero=>symm
 |succ n=>exact⟨n,t,rfl,h⟩
theorem Cm.Xy(h:Cm P c e x):Xn x=false:=by obtain⟨n,t,_,q⟩:=h.G6;cases x <;> first |rfl |exact Bool.noConfusion (show false=true from q)
abbrev Br (P:Pg) (c:Ct) (es:List Expr) (xs:List Ex):Prop:=uf (Cm P c) es xs
abbrev CmO (P:Pg) (c:Ct) (e:Option Expr) (x:Option Ex):Prop:=Hl (Cm P c) e x
abbrev HF (P:Pg) (c:Ct) (es:List Expr) (x:Option Ex):Prop:=vm (Cm P c) es x
abbrev Vv (P:Pg) (c:Ct) (e:Expr) (x:Ex):Prop:=ug P (Cm P c) c e x
noncomputable def ek(t:Stmt):List Expr:=match t with
 |.Return o p=>[o.getD (.Name Str.empty p)]
 |.Assign ts e _=>e::ts
 |.AugAssign a _ e _=>[a,e]
 |.For a b _ _ _=>[a,b]
 |.While a _ _ _=>[a]
 |.If a _ _ _=>[a]
 |.Raise o _ p=>[o.getD (.Name Str.empty p)]
 |.Expr e _=>[e]
 |_=>[]
def aI(t:Stmt)(i:Nat):Expr:=(ek t).getD i (.Name Str.empty t.pos)
noncomputable def p9(t:Stmt):List Stmt:=match t with |.For _ _ b _ _=>b |.While _ b _ _=>b |.If _ b _ _=>b |_=>[]
noncomputable def Qk(t:Stmt):List Stmt:=match t with |.If _ _ b _=>b |_=>[]
noncomputable def sg(l:List Stmt)(i:Nat):Stmt:=l.getD i (.Pass p0)
def Ql(ss:List Stmt):Stmt:=sg (p9 (sg ss 1)) 0
def pJ(ss:List Stmt):Stmt:=sg (Qk (Ql ss)) 0
def Tt(ss:List Stmt):Expr:=aI (sg (p9 (Ql ss)) 0) 0
def Vw(ss:List Stmt):Expr:=aI (sg (p9 (pJ ss)) 0) 0
def Qm(ss:List Stmt):Stmt:=sg (p9 (pJ ss)) 1
def DX(ss:List Stmt):Expr:=aI (sg (p9 (pJ ss)) 2) 0
def sA(ss:List Stmt):Expr:=aI (sg ss 2) 0
def Tv(y s br th:Str)(C1 C2 C3 J:Expr)(ss:List Stmt):List Stmt:=
 [tZ y (aI (sg ss 0) 1).pos (kid (aI (sg ss 0) 0) 0).pos (aI (sg ss 0) 0).pos (sg ss 0).pos,
 .For (.Name s (aI (sg ss 1) 0).pos) (.Name th (aI (sg ss 1) 1).pos) (Av y br C1 C2 C3 J (kid (kid (Tt ss) 0) 0).pos (kid (Tt ss) 0).pos (kid (Tt ss) 1).pos (Tt ss).pos (sg (p9 (Ql ss)) 0).pos
  (kid (kid (kid (aI (pJ ss) 0) 1) 0) 0).pos (kid (kid (kid (aI (pJ ss) 0) 1) 0) 1).pos (kid (kid (aI (pJ ss) 0) 1) 0).pos (kid (kid (aI (pJ ss) 0) 1) 1).pos (kid (aI (pJ ss) 0) 1).pos (aI (pJ ss) 0).pos
  (aI (sg (p9 (pJ ss)) 0) 1).pos (kid (kid (Vw ss) 0) 0).pos (kid (Vw ss) 0).pos (Vw ss).pos (sg (p9 (pJ ss)) 0).pos (Qm ss).pos (aI (sg (p9 (Qm ss)) 0) 0).pos (sg (p9 (Qm ss)) 0).pos
  (kid (kid (kid (DX ss) 0) 0) 0).pos (kid (kid (kid (kid (DX ss) 0) 0) 1) 0).pos (kid (kid (kid (DX ss) 0) 0) 1).pos (kid (kid (DX ss) 0) 0).pos (kid (DX ss) 0).pos (DX ss).pos (sg (p9 (pJ ss)) 2).pos
  (aI (sg (Qk (pJ ss)) 0) 0).pos (sg (Qk (pJ ss)) 0).pos (Ql ss).pos (pJ ss).pos (gQ (kid (kid (aI (pJ ss) 0) 1) 1)) (gQ (aI (sg (p9 (Qm ss)) 0) 0)) (gQ (kid (kid (kid (kid (DX ss) 0) 0) 1) 0)) (gQ (aI (sg (Qk (pJ ss)) 0) 0))) [] (sg ss 1).pos,
 .Return (some (Np y (kid (kid (kid (sA ss) 0) 0) 0).pos (kid (kid (kid (sA ss) 0) 0) 1).pos (kid (kid (sA ss) 0) 0).pos (kid (kid (sA ss) 0) 1).pos (kid (sA ss) 0).pos (kid (kid (kid (sA ss) 1) 0) 0).pos (kid (kid (kid (kid (sA ss) 1) 0) 1) 0).pos (kid (kid (kid (kid (sA ss) 1) 0) 1) 1).pos (kid (kid (kid (sA ss) 1) 0) 1).pos (kid (kid (sA ss) 1) 0).pos (kid (kid (sA ss) 1) 1).pos (kid (sA ss) 1).pos (sA ss).pos
  (gQ (kid (kid (sA ss) 0) 1)) (gQ (kid (kid (kid (kid (sA ss) 1) 0) 1) 1)) (gQ (kid (kid (sA ss) 1) 1)))) (sg ss 2).pos]
def Tw(ss:List Stmt):Bool:=JH (Tt ss)&&(JH (Vw ss)&&JH (DX ss))
inductive Vx(P:Pg)(R:Expr->Ex->Prop)(RS:Stmt->Sm->Prop)(c:Ct):List Stmt->Sm->Prop
 |Az {y s br th:Str}{tW bO iy cz:Nat}{c1 c2 c3 jx:Ex}{C1 C2 C3 J:Expr}{ss:List Stmt} :
   (c.N[iy]?=some y/\xP c.sc y=true/\fP y=true)->gP c y=true->(c.N[bO]?=some s/\gP c s=true)->(c.N[cz]?=some br/\gP c br=true)->(c.N[tW]?=some th/\xP c.sc th=true/\fP th=true)->(cz≠iy/\bO≠iy/\bO≠cz)->(("len":Str)∈P.bn/\c.sc.names.lookup ("len":Str)=some .globalImplicit)->
   R C1 c1->R C2 c2->R C3 c3->R J jx->Tw ss=true->Vx P R RS c (Tv y s br th C1 C2 C3 J ss) (.Az tW bO iy cz c1 c2 c3 jx)
def N7:Sm->Nat
 |.Az _ _ _ _ _ _ _ _=>3
 |_=>0
def mC(fg:Sm->List Stmt->List Stmt)(fs:Sm->Stmt->Stmt):List Sm->List Stmt->List Stmt
 | [],_=>[]
 |x::xs,ss=>if 0<N7 x then fg x (ss.take (N7 x))++mC fg fs xs (ss.drop (N7 x))else fs x (sg ss 0)::mC fg fs xs ss.tail
def DY(fg:Sm->List Stmt->Bool)(fs:Sm->Stmt->Bool):List Sm->List Stmt->Bool
 | [],_=>true
 |x::xs,ss=>if 0<N7 x then fg x (ss.take (N7 x))&&DY fg fs xs (ss.drop (N7 x))else fs x (sg ss 0)&&DY fg fs xs ss.tail
theorem N8(hg:∀{x ss},kg x ss=true->RG (sg' x ss) x)(hs:∀{x t},ks x t=true->RS (ss' x t) x)(h:DY kg ks xs ss=true):uh RG RS (mC sg' ss' xs ss) xs:=by
 induction xs generalizing ss with
 |nil=>exact .nil
 |cons x xs ih=>
  unfold DY at h;unfold mC;by_cases hx:0<N7 x
  .
   rw[eR hx]at h ⊢
   exact .grp (hg (aj h).1) (ih (aj h).2)
  .
   rw[fI hx]at h ⊢
   exact .cons (hs (aj h).1) (ih (aj h).2)
def N9(P:Pg)(m:Nat)(fs:Sm->Stmt->Stmt)(c:Ct)(x:Sm)(ss:List Stmt):List Stmt:=match x with
 |.Az tW bO iy cz c1 c2 c3 jx=>Tv (nm c iy) (nm c bO) (nm c cz) (nm c tW) (eN P m c c1 (aI (Ql ss) 0)) (eN P m c c2 (kid (aI (pJ ss) 0) 0)) (eN P m c c3 (aI (Qm ss) 0)) (eN P m c jx (kid (DX ss) 1)) ss
 |_=>ss
def Oa(P:Pg)(m:Nat)(ks:Sm->Stmt->Bool)(c:Ct)(x:Sm)(ss:List Stmt):Bool:=match x with
 |.Az tW bO iy cz c1 c2 c3 jx=>decide (cz≠iy/\bO≠iy/\bO≠cz)&&((pI c iy&&gP c (nm c iy))&&(Vt c bO&&(Vt c cz&&(pI c tW&&(yu P c "len" && ((nO P m c c1 (aI (Ql ss) 0)&&nO P m c c2 (kid (aI (pJ ss) 0) 0))&&((nO P m c c3 (aI (Qm ss) 0)&&nO P m c jx (kid (DX ss) 1))&&Tw ss)))))))
 |_=>false
theorem Ob(hs:∀{x t},ks x t=true->RS (fs x t) x)(h:Oa P m ks c x ss=true):Vx P (Cm P c) RS c (N9 P m fs c x ss) x:=by
 cases x
 case Az tW bO iy cz c1 c2 c3 jx=>obtain⟨h1,a1⟩:=aj h;obtain⟨h2,a2⟩:=aj a1;obtain⟨h3,a3⟩:=aj a2;obtain⟨h4,a4⟩:=aj a3;obtain⟨h5,a5⟩:=aj a4;obtain⟨h6,a6⟩:=aj a5;obtain⟨h7,a7⟩:=aj a6;obtain⟨h8,h9⟩:=aj a7;exact .Az (dZ (aj h2).1) (aj h2).2 ⟨dec (aj h3).1,(aj h3).2⟩ ⟨dec (aj h4).1,(aj h4).2⟩ (dZ h5) (dec h1) (bh h6) (.mk (aj h7).1) (.mk (aj h7).2) (.mk (aj h8).1) (.mk (aj h8).2) h9
 all_goals exact nt h
def Tz(P:Pg)(m:Nat)(fs:Sm->Stmt->Stmt)(c:Ct)(x:Sm)(t:Stmt):Stmt:=match x with
 |.ret x=>.Return (some (eN P (m+1) c x (aI t 0))) t.pos
 |.expr x=>.Expr (eN P (m+1) c x (aI t 0)) t.pos
 |.set i x=>.Assign [.Name (nm c i) (aI t 1).pos] (eN P (m+1) c x (aI t 0)) t.pos
 |.setC i x=>.Assign [.Name (nm c i) (aI t 1).pos] (eN P (m+1) c x (aI t 0)) t.pos
 |.item i xj x=>.Assign [.Subscript (.Name (nm c i) (kid (aI t 1) 0).pos) (eN P (m+1) c xj (kid (aI t 1) 1)) (aI t 1).pos] (eN P (m+1) c x (aI t 0)) t.pos
 |.par i j a b=>.Assign [.Tuple [.Name (nm c i) (kid (aI t 1) 0).pos,.Name (nm c j) (kid (aI t 1) 1).pos] (gQ (aI t 1)) (aI t 1).pos] (.Tuple [eN P (m+1) c a (kid (aI t 0) 0),eN P (m+1) c b (kid (aI t 0) 1)] (gQ (aI t 0)) (aI t 0).pos) t.pos
 |.ite e a b=>.If (eN P (m+1) c e (aI t 0)) (mC (N9 P m fs c) fs a (p9 t)) (mC (N9 P m fs c) fs b (Qk t)) t.pos
 |.loop T it b=>.For (Hz c T (aI t 0)) (Hy (eN P (m+1) c) it (aI t 1)) (mC (N9 P m fs c) fs b (p9 t)) [] t.pos
 |.while e b=>.While (eN P (m+1) c e (aI t 0)) (mC (N9 P m fs c) fs b (p9 t)) [] t.pos
 |_=>t
def TF(P:Pg)(m:Nat)(ks:Sm->Stmt->Bool)(c:Ct)(x:Sm)(t:Stmt):Bool:=match x with
 |.ret x=>nO P (m+1) c x (aI t 0)
 |.expr x=>nO P (m+1) c x (aI t 0)&&!um (λ_ _=>true) (eN P (m+1) c x (aI t 0))
 |.set i x=>Vt c i&&(nO P (m+1) c x (aI t 0)&&!um (λs p=>S9 c (nm c i) (aI t 1).pos p s) (eN P (m+1) c x (aI t 0)))
 |.setC i x=>decide (c.N[i]?=some (nm c i))&&(S9 c (nm c i) (aI t 1).pos (aI t 0).pos (jN (aI t 0))&&(nO P (m+1) c x (aI t 0)&&(match x with
  |.comp _ _ _ _ _ _=>true
  |_=>false)))
 |.item i xj x=>pI c i&&(nO P (m+1) c xj (kid (aI t 1) 1)&&(nO P (m+1) c x (aI t 0)&&!um (λ_ _=>true) (eN P (m+1) c x (aI t 0))))
 |.par i j a b=>decide (c.N[i]?=some (nm c i)/\c.N[j]?=some (nm c j)/\i≠j)&&(NC c (nm c i) (nm c j) (kid (aI t 1) 0).pos (kid (aI t 1) 1).pos (eN P (m+1) c a (kid (aI t 0) 0)) (eN P (m+1) c b (kid (aI t 0) 1))&&(nO P (m+1) c a (kid (aI t 0) 0)&&nO P (m+1) c b (kid (aI t 0) 1)))
 |.ite e a b=>nO P (m+1) c e (aI t 0)&&(DY (Oa P m ks c) ks a (p9 t)&&DY (Oa P m ks c) ks b (Qk t))
 |.loop T it b=>okN c T.ix&&(Xs P c (nO P (m+1) c) it (aI t 1)&&DY (Oa P m ks c) ks b (p9 t))
 |.while e b=>nO P (m+1) c e (aI t 0)&&DY (Oa P m ks c) ks b (p9 t)
 |.stuck=>true
 |_=>false
def JK(P:Pg)(m:Nat):Nat->Ct->Sm->Stmt->Stmt
 | 0=>λ_ _ t=>t
 |n+1=>λc=>Tz P m (JK P m n c) c
def JL(P:Pg)(m:Nat):Nat->Ct->Sm->Stmt->Bool
 | 0=>λ_ _ _=>false
 |n+1=>λc=>TF P m (JL P m n c) c
def JM(P:Pg)(c:Ct)(s:Stmt)(x:Sm):Prop:=∃m n t,s=JK P m n c x t/\JL P m n c x t=true
abbrev Bt (P:Pg) (c:Ct) (ss:List Stmt) (xs:List Sm):Prop:=uh (Vx P (Cm P c) (JM P c) c) (JM P c) ss xs
theorem JM.mk{P:Pg}{m n:Nat}{c:Ct}{x:Sm}{t:Stmt}(h:JL P m n c x t=true):JM P c (JK P m n c x t) x:=⟨m,n,t,rfl,h⟩
theorem Bt.mk{P:Pg}{m n:Nat}{c:Ct}{xs:List Sm}{ss:List Stmt}(h:DY (Oa P m (JL P m n c) c) (JL P m n c) xs ss=true):Bt P c (mC (N9 P m (JK P m n c) c) (JK P m n c) xs ss) xs:=N8 (Ob .mk) .mk h
theorem Y8(h:(!um (λ_ _=>true) e)=true):um (λ_ _=>true) e=false:=jg h
theorem JM.G6(h:JM P c s x):∃m n t,s=Tz P m (JK P m n c) c x t/\TF P m (JL P m n c) c x t=true:=by
 obtain⟨m,n,t,rfl,h⟩:=h;cases n with
 |zero=>symm
 |succ n=>exact⟨m,n,t,rfl,h⟩
noncomputable def Bu(e:Expr):Bool:=match e with
 |.Constant .. |.Name .. |.BinOp .. |.Compare .. |.UnaryOp .. |.BoolOp .. |.IfExp .. |.Tuple .. |.List .. |.Subscript .. |.Call .. |.JoinedStr .. |.ListComp .. |.Dict .. |.DictComp ..=>true
 |_=>false
theorem Cm.Bu(h:Cm P c e x):Bu e=true:=by
 obtain⟨n,t,rfl,q⟩:=h.G6;clear h;cases x
 case val d=>show Ev.Bu (uq d t)=true;unfold uq;split <;> rfl
 case peek xe=>obtain⟨x,p,a,es,pos,e⟩:=rF (aj q).1;show Ev.Bu (eN P n c xe t)=true;rw[e];rfl
 all_goals first |rfl |exact Bool.noConfusion (show false=true from q)
section
theorem Cm.star(h:Cm P c e x)(es:List Expr):starEach (e::es) env=(false,eval e env)::starEach es env:=by have hs:=h.Bu;cases e <;> first |rfl |exact Bool.noConfusion (show false=true from hs)
theorem uf.star(h:Br P c es xs):starEach es env=es.map λe=>(false,eval e env):=by
 induction es generalizing xs with
 |nil=>rfl
 |cons e es ih=>
  cases h with
  |cons h1 h2=>rw[h1.star,ih h2];rfl
theorem uf.plain(h:Br P c es xs):(backTo pos (starEach es env)).any (·.1)=false:=by
 rw[h.star];unfold backTo
 induction es generalizing xs with
 |nil=>rfl
 |cons e es ih=>
  cases h with
  |cons h1 h2=>rw[List.map_cons,List.map_cons,List.any_cons,ih h2];rfl
theorem Cm.folded(h:Cm P c e x)(y:Value):foldedSetIterable e env y=pure y:=by have hs:=h.Bu;cases e <;> first |rfl |exact Bool.noConfusion (show false=true from hs)
theorem ug.folded(h:Vv P c e x)(y:Value):foldedSetIterable e env y=pure y:=by
 cases h with
 |seq h=>exact h.folded y
 |fG _ _ _=>rfl
 |je _ _ _ _=>rfl
 |zip _ _ _ _=>rfl
theorem Cm.HJ(h:Cm P c e x):oH e:=by have hs:=h.Bu;cases e <;> first |exact λ_ _=>rfl |exact Bool.noConfusion (show false=true from hs)
end
structure lH(P:Pg)(rn:Rn):Prop where
 e:∀{X:Cx}{c:Ct}{z:Z}{k:Nat}{x:Ex}{e:Expr}{g g':G}{r:R},aZ P k X c->z.K=X.K->Cm P c e x->rn.e z.bor k x g=some (r,g')->au X z e g r g'
 t:∀{X:Cx}{c:Ct}{z:Z}{k:Nat}{x:Ex}{e:Expr}{g g':G}{b:Bool},aZ P k X c->z.K=X.K->Cm P c e x->rn.t z.bor k x g=some (b,g')->bx X z e g b g'
 b:∀{X:Cx}{c:Ct}{z:Z}{k:Nat}{xs:List Sm}{pY:List Stmt}{g g':G}{f:Fl},aZ P k X c->c.df=true->z.K=X.K->Bt P c pY xs->rn.b z.bor k xs g=some (f,g')->cV X z pY g f g'
theorem nP(h:pH N N' scope k=true):Names N N' scope k:=by
 unfold pH at h;simp only[eM,mN,tP,tJ]at h;obtain⟨⟨h1,h2⟩,h3⟩:=h;refine⟨h1,λx e=>?_,λi x e hi=>?_⟩
 . rw[e]at h2;exact w8 h2
 . have h4:=h3 i hi;rw[e]at h4;simp only[y7,eM,mN]at h4;exact h4
theorem vo(ct:aZ P k X c)(h:Hj c.sc scope=true):dj X.env.scope scope:=by
 unfold Hj at h;simp only[eM,mN,tP,y7]at h;obtain⟨h1,h2⟩:=h;refine⟨h1,λy hy=>(h2 y hy).1.1,λy hy e=>?_,λy hy e=>?_,λy hy e=>?_⟩
 . exact ((h2 y hy).1.2).elim (λq=>absurd e q) id
 . exact ((h2 y hy).2).elim (λq=>absurd e q) λq=>q.1
 . exact ((h2 y hy).2).elim (λq=>absurd e q) λq=>ct.Xo _ q.2
theorem gR{X:Cx}{N':List Str}{scope:Scope}{b:Bk}{x:Str}:(X.blk N' scope b).env.scope.names.lookup x=(scope.names.lookup x).map λk=>if (k==NameKind.free&&X.env.scope.kind==.function&&X.env.kindOf x==some .cell)then NameKind.cell else k:=cI
theorem aZ.blk{P:Pg}{k:Nat}{X:Cx}{c:Ct}{scope:Scope}{N':List Str}(ct:aZ P k X c)(hnd:N'.Nodup)(b:Bk):aZ P k (X.blk N' scope b) ⟨N',scope,false,Str.empty⟩:=by
 refine⟨rfl,hnd,λx e=>?_,λx e=>?_,λx e=>?_,λe=>absurd e ⋯,λx e=>?_,λe=>absurd e ⋯,ct.calm,rfl,ct.md,ct.room,λe=>absurd (show Str.empty∈qA from e) ⋯⟩
 . have e':=e;rw[gR,e'];rfl
 . have e':=e;show (X.blk N' scope b).env.scope.names.lookup x=_;rw[gR,e'];rfl
 .
  rw[gR];rcases e with e |e
  . have e':=e;rw[e'];exact .inl rfl
  .
   have e':=e;rw[e',BD];by_cases hq:(NameKind.free==NameKind.free&&X.env.scope.kind==.function&&X.env.kindOf x==some .cell)=true
   . rw[eR hq];exact .inl rfl
   . rw[fI hq];exact .inr rfl
 .
  rcases e with e |e
  . cases e
  . have e':=e;show (scope.names.lookup x==some .local)=true;rw[e'];rfl
section
theorem bz(h:au X z e g r g'):au X z e g (norm r) g':=by
 cases r with
 |dat d=>exact h
 |new l=>exact kJ h
 |var i=>exact h
theorem Bv(h:au X z e g r g1)(hd:toD z.bor r g1=some (d,g')):au X z e g (.dat d) g':=by
 cases r with
 |dat d'=>cases hd;exact h
 |new l=>cases hd;exact kJ h
 |var i=>
  have hd:(if i∈z.bor then none else match g1[i]? with |some (.own l)=>some (D.lst l,g1.set i (.dat (.lst l))) |_=>none)=some (d,g'):=hd
  split at hd
  . cases hd
  .
   rename_i hb;split at hd
   . rename_i l hg;cases hd;exact wF h hg hb
   . cases hd
theorem aV(hS:lH P rn)(ct:aZ P k X c)(hK:z.K=X.K)(hc:Cm P c e x)(h:gk rn z.bor k x g=some (d,g')):au X z e g (.dat d) g':=by
 unfold gk at h;split at h
 . rename_i r g1 e1;exact Bv (hS.e ct hK hc e1) h
 . symm
theorem lI:∀(ds:List D),qC (ds.map R.dat)=some ds
 | []=>rfl
 |d::ds=>by
  show (match qC (ds.map R.dat)with |some ds=>some (d::ds) |none=>none)=_
  rw[lI ds]
theorem iG(hS:lH P rn)(ct:aZ P k X c)(hK:z.K=X.K):∀{es:List Expr}{xs:List Ex}{g g':G}{ds:List D},Br P c es xs->jC rn z.bor k xs g=some (ds,g')->cJ X z es g (ds.map .dat) g':=by
 intro es xs g g' ds hc h
 induction hc generalizing g ds with
 |nil=>symm;exact fz
 |cons h1 h2 ih=>
  unfold jC at h;split at h
  .
   rename_i d g1 e1;split at h
   . rename_i ds g2 e2;symm;exact dF (aV hS ct hK h1 e1) (ih e2) (h1.star _)
   . symm
  . symm
theorem rG(hS:lH P rn)(ct:aZ P k X c)(hK:z.K=X.K):∀{es:List Expr}{xs:List Ex}{g g':G}{rs:List R},Br P c es xs->argsR rn z.bor k xs g=some (rs,g')->cJ X z es g rs g':=by
 intro es xs g g' rs hc h
 induction hc generalizing g rs with
 |nil=>symm;exact fz
 |cons h1 h2 ih=>
  unfold argsR at h;split at h
  .
   rename_i r g1 e1;split at h
   .
    rename_i rs g2 e2;symm;have q:=bz (hS.e ct hK h1 e1);have q2:=ih e2;cases r with
    |dat d=>exact dF q q2 (h1.star _)
    |new l=>exact dF q q2 (h1.star _)
    |var i=>exact Lv q q2 (h1.star _)
   . symm
  . symm
theorem fQ(h:argsR rn bor k [a,b] g=some (rs,g2)):∃r1 r2 g1,rn.e bor k a g=some (r1,g1)/\rn.e bor k b g1=some (r2,g2)/\rs=[norm r1,norm r2]:=by
 unfold argsR at h;split at h
 .
  rename_i r1 g1 e1;unfold argsR at h;split at h
  .
   rename_i rs' g3 e3;split at e3
   . rename_i r2 g4 e2;cases e3;symm;exact⟨r1,r2,g1,e1,e2,rfl⟩
   . cases e3
  . symm
 . symm
theorem Bw(hS:lH P rn)(ct:aZ P k X c)(hK:z.K=X.K):∀{bs:List Expr}{xs:List Ex}{ops:List CmpOp}{g g':G}{d1:D}{b:Bool},Br P c bs xs->Nr rn z.bor k d1 ops xs g=some (b,g')->oX X z d1 ops bs g b g':=by
 intro bs xs ops g g' d1 b hc h
 induction hc generalizing ops g d1 with
 |nil=>unfold Nr at h;split at h <;> first |contradiction |symm
 |cons h1 h2 ih=>
  unfold Nr at h;split at h
  .
   rename_i op x _ e;cases e;cases h2;split at h
   .
    rename_i d2 g1 e1;split at h
    . rename_i b e2;symm;exact .last (aV hS ct hK h1 e1) (lF hK ct.room e2)
    . symm
   . symm
  .
   rename_i e;cases e;split at h
   .
    rename_i d2 g1 e1;split at h
    .
     rename_i e2;cases h2 with
     |cons h2 h3=>exact .link (aV hS ct hK h1 e1) (lF hK ct.room e2) (ih h)
    .
     rename_i e2;symm;cases h2 with
     |cons h2 h3=>exact .stop (aV hS ct hK h1 e1) (lF hK ct.room e2)
    . symm
   . symm
  . symm
theorem HN(hS:lH P rn)(ct:aZ P k X c)(hK:z.K=X.K):∀{es:List Expr}{xs:List Ex}{g g':G}{r:R},Br P c es xs->Bb rn z.bor k xs g=some (r,g')->au X z (.BoolOp .And es pos) g r g':=by
 intro es xs g g' b hc h
 induction hc generalizing g with
 |nil=>symm
 |cons h1 h2 ih=>
  cases h2 with
  |nil=>exact zl (hS.e ct hK h1 h)
  |cons h2 h3=>
   unfold Bb at h;split at h
   . rename_i g1 e1;exact FH (hS.e ct hK h1 e1) (ih h)
   . rename_i g1 e1;symm;exact FG (hS.e ct hK h1 e1)
   . symm
theorem Oc(hS:lH P rn)(ct:aZ P k X c)(hK:z.K=X.K):∀{es:List Expr}{xs:List Ex}{g g':G}{r:R},Br P c es xs->S8 rn z.bor k xs g=some (r,g')->au X z (.BoolOp .Or es pos) g r g':=by
 intro es xs g g' b hc h
 induction hc generalizing g with
 |nil=>symm
 |cons h1 h2 ih=>
  cases h2 with
  |nil=>exact zl (hS.e ct hK h1 h)
  |cons h2 h3=>
   unfold S8 at h;split at h
   . rename_i g1 e1;exact Lp (hS.e ct hK h1 e1) (ih h)
   . rename_i g1 e1;symm;exact Ln (hS.e ct hK h1 e1)
   . symm
theorem Bx(hS:lH P rn)(ct:aZ P k X c)(hK:z.K=X.K):∀{es:List Expr}{xs:List Ex}{g g':G}{b:Bool},Br P c es xs->rz rn z.bor k xs g=some (b,g')->jK X z (.BoolOp .And es pos) g b g':=by
 intro es xs g g' b hc h
 induction hc generalizing g with
 |nil=>symm
 |cons h1 h2 ih=>
  cases h2 with
  |nil=>exact Fw (hS.t ct hK h1 h)
  |cons h2 h3=>
   unfold rz at h;split at h
   . rename_i g1 e1;exact Fz (hS.t ct hK h1 e1) (ih h)
   . rename_i g1 e1;symm;exact Fy (hS.t ct hK h1 e1)
   . symm
theorem HQ(hS:lH P rn)(ct:aZ P k X c)(hK:z.K=X.K):∀{es:List Expr}{xs:List Ex}{g g':G}{b:Bool},Br P c es xs->Bc rn z.bor k xs g=some (b,g')->jK X z (.BoolOp .Or es pos) g b g':=by
 intro es xs g g' b hc h
 induction hc generalizing g with
 |nil=>symm
 |cons h1 h2 ih=>
  cases h2 with
  |nil=>exact Li (hS.t ct hK h1 h)
  |cons h2 h3=>
   unfold Bc at h;split at h
   . rename_i g1 e1;exact Lk (hS.t ct hK h1 e1) (ih h)
   . rename_i g1 e1;symm;exact Lj (hS.t ct hK h1 e1)
   . symm
theorem rH(hS:lH P rn)(ct:aZ P k X c)(hK:z.K=X.K)(hc:CmO P c e x)(h:nJ rn z.bor k x g=some (o,g')):kW X z e g o g':=by
 cases hc with
 |none=>symm;exact wO
 |@some e' x' hc=>
  have h:(match gk rn z.bor k x' g with |some (.int i,g1)=>some (some i,g1) |_=>none)=some (o,g'):=h
  split at h
  . rename_i e1;symm;exact wQ (aV hS ct hK hc e1)
  . symm
theorem By(ct:aZ P k X c)(h:c.sc.names.lookup x=some .globalImplicit):Gl X x:=ct.yt x h
theorem HR{tp:Bool}{bor:List Nat}{it:Ex}{g:G}(h:Xn it=false):jD rn bor k tp it g=match gk rn bor k it g with |some (.tup l,g1)=>some (l,g1) |some (.lst l,g1)=>some (l,g1) |some (.fix l,g1)=>some (l,g1) |some (.str x,g1)=>some (mw x,g1) |_=>none:=by cases it <;> first |rfl |exact Bool.noConfusion (show true=false from h)
theorem BG(hS:lH P rn)(ct:aZ P k X c)(hK:z.K=X.K){TJ tg:Expr}{it:Ex}{g g':G}{items:List D}{tp:Bool}(htp:tp=true->∃es k pos,tg=.Tuple es k pos)(hc:Vv P c TJ it)(h:jD rn z.bor k tp it g=some (items,g')):fV X z tg TJ g items g':=by
 cases hc with
 |zip ha ha2 hb hg=>
  unfold jD at h;dsimp only at h;split at h
  .
   rename_i ht;obtain⟨es,k0,pos,rfl⟩:=htp ht;split at h
   .
    rename_i d1 d2 g1 e1;split at h
    .
     rename_i l m e2 e3;split at h
     . rename_i e4;symm;exact M7 hK (iG hS ct hK (.cons ha (.cons ha2 .nil)) e1) e2 e3 e4 (By ct hg) (ct.md.bn _ hb) (ha.star _) (by rw[ha2.star];rfl)
     . symm
    . symm
   . symm
  . symm
 |fG ha hb hg=>
  unfold jD at h;dsimp only at h;split at h
  .
   rename_i j g1 e1;split at h
   . rename_i hj;symm;simp only[Hf,eM,mN]at hj;exact Gh (dF (aV hS ct hK ha e1) fz (ha.star _)) (By ct hg) (ct.md.bn _ hb) (by rw[ha.star];rfl) hj.1 hj.2
   . symm
  . symm
 |je ha hb' hb hg=>
  unfold jD at h;dsimp only at h;split at h
  .
   rename_i c0 g1 e1;split at h
   .
    rename_i j g2 e2;split at h
    . rename_i hj;symm;simp only[Hf,eM,mN]at hj;exact Gi (dF (aV hS ct hK ha e1) (dF (aV hS ct hK hb' e2) fz (hb'.star _)) (ha.star _)) (By ct hg) (ct.md.bn _ hb) (by rw[ha.star,hb'.star];rfl) (by rw[hb'.star];rfl) ⟨hj.1.1,hj.1.2,hj.2.1,hj.2.2⟩
    . symm
   . symm
  . symm
 |seq hc=>
  have h':=(HR hc.Xy).symm.trans h;split at h'
  . rename_i e1;cases h';exact Mp hK (aV hS ct hK hc e1)
  . rename_i e1;cases h';exact Mq (aV hS ct hK hc e1)
  . rename_i e1;cases h';exact Mr hK (aV hS ct hK hc e1)
  . rename_i e1;cases h';exact Nf (aV hS ct hK hc e1)
  . cases h'
theorem BJ(hS:lH P rn)(ct:aZ P k X c)(hK:z.K=X.K)(hc:HF P c ifs co)(h:DT rn z.bor k co g=some (b,g')):gi X z ifs g b g':=by
 cases hc with
 |none=>symm;exact Gj
 |some hc=>exact Gk (hS.t ct hK hc h)
theorem JN(h:NB c tg T):T.pF=true->∃es k pos,tg=.Tuple es k pos:=by
 cases h with
 |nm _ _=>intro e;cases e
 |tp _=>intro _;exact⟨_,_,_,rfl⟩
theorem Od(ct:aZ P k X c)(h:xQ c es is):iB X es is:=by
 induction h with
 |nil=>exact .nil
 |cons h1 h2 _ ih=>exact .cons (ct.nm h1 h2) ih
theorem JQ(ct:aZ P k X c)(hK:z.K=X.K)(h:NB c tg T)(hb:∀i∈T.ix,i∉z.bor):qJ X z tg T:=by
 cases h with
 |nm h1 h2=>exact RX (ct.nm h1 h2) (hb _ (dE.mpr rfl))
 |tp h1=>exact RZ ct.calm hK (Od ct h1) hb
theorem ur(hS:lH P rn){Xb:Bk->Cx}{cb:Ct}(TL:∀b,aZ P k (Xb b) cb)(Jz:∀b,z.K=(Xb b).K){T:Tg}{last:Nat}{ifs:List Expr}{co:Option Ex}{jQ:Expr}{xe:Ex}(hi:HF P cb ifs co)(he:Cm P cb jQ xe) :
  ∀{items:List D}{g gE:G},Bd rn z.bor k T last co xe items g=some gE->jL T last (λg b g'=>∀bk:Bk,gi (Xb bk) z ifs g b g') (λg d g'=>∀bk:Bk,au (Xb bk) z jQ g (.dat d) g') items g gE
 | [],_,_,h=>by symm;exact .nil
 |d::l,_,_,h=>by
  unfold Bd at h;split at h
  . symm
  .
   rename_i g1 e1;split at h
   . symm
   . rename_i g2 e2;exact .skip e1 (λbk=>BJ hS (TL bk) (Jz bk) hi e2) (ur hS TL Jz hi he h)
   .
    rename_i g2 e2;split at h
    . symm
    .
     rename_i x g3 e3;split at h
     .
      rename_i acc e4;split at h
      . rename_i hl;exact .take e1 (λbk=>BJ hS (TL bk) (Jz bk) hi e2) (λbk=>aV hS (TL bk) (Jz bk) he e3) e4 hl (ur hS TL Jz hi he h)
      . symm
     . symm
end
structure TQ(P:Pg)(rn:Rn):Prop where
structure HS(P:Pg)(fi:Fi)(fx:Fx):Prop where
 np:fx.np=fi.ps.length
 n:fx.n=fi.N.length
 body:Bt P ⟨fi.N,aQ fi.st,true,fi.qual⟩ (bC fi.st) fx.body
def lJ(P:Pg)(fns:List Fx):Prop:=∀(f:Nat) (fi:Fi) (fx:Fx),P.fn[f]?=some fi->fns[f]?=some fx->HS P fi fx
theorem rJ{P:Pg}{k:Nat}{prog:Program}{w:World}{K:Frag}{mg:Str->Option Value}{base:Heap}{N ps:List Str}{qual:Str}{scope:Scope}{f:Addr}{dz:Value}{A:Around}{outer:List Env}{s:Shared}{H:Hp}{E:XK}
  (S:dg N ps scope) (md:xO P K mg) (bY:PySem.W.codeIn K dz qual=true) (hr:eW k (A.deeper (envOfC qual scope s⁻¹ f dz))):aZ P k (ql Dy prog w K mg base N qual scope f dz A outer s H E).P0 ⟨N,scope,true,qual⟩:=by
 refine⟨rfl,S.nd,λx e=>e,λx e=>e,λx e=>e,λ_ x e=>e,λx _=>rfl,λ_=>?_,rfl,rfl,md,hr,λe h=>⟨rfl,md.lam h _ e _ bY⟩⟩
 show (if scope.kind.isAnnotationScope then ScopeKind.function else scope.kind)=.function
 rw[S.kind];rfl
section
theorem BK(hS:lH P rn){k':Nat}(ct:aZ P (k'+1) X c)(hK:z.K=X.K){f:Nat}{fi:Fi}{fx:Fx}(TV:P.fn[f]?=some fi)(yz:HS P fi fx)(Nk:c.sc.names.lookup fi.name=some .globalImplicit){e:Expr}{es:List Expr}{xs:List Ex}{rs:List R}{g g1 gO:G}{r:R}
  (hc:Br P c (e::es) xs) (ha:cJ X z (e::es) g rs g1) (h:aX rn fx k' rs g1=some (r,gO)):au X z (.Call (.Name fi.name p) (e::es) [] pos) g r gO:=by
 obtain⟨f,fd,hm,hF,Y9,hB,vV⟩:=ct.md.fn _ fi TV;have F:lZ X.prog X.w X.K X.mg X.base Dy (k'+1) f fd fi.ps (Ml X.K fi.N fi.ps.length λbor g r g'=>rn.b bor k' fx.body g=some (.rt r,g')\/(rn.b bor k' fx.body g=some (.nx,g')/\r=.dat .non)):=by
  refine Jw hF Y9 λdz A outer s H E bY hr z' g r g' Za hrun=>?_
  have TX:aZ P k' (ql Dy X.prog X.w X.K X.mg X.base fi.N fi.qual (aQ fi.st) f dz A outer s H E).P0 ⟨fi.N,aQ fi.st,true,fi.qual⟩:=rJ Y9 ct.md bY hr;rcases hrun with h |⟨h,rfl⟩
  . exact⟨_,hS.b TX rfl Za yz.body h,.inl rfl⟩
  . exact⟨_,hS.b TX rfl Za yz.body h,.inr ⟨rfl,rfl⟩⟩
 have h1:∃h2:Br P c es xs.tail,starEach (e::es) X.env=(false,eval e X.env)::starEach es X.env:=by
  cases hc with
  |cons h1 h2=>exact⟨h2,h1.star _⟩
 obtain⟨h2,gX⟩:=h1;unfold aX at h;split at h
 .
  rename_i hl;split at h
  . symm
  .
   rename_i gs e1;split at h
   .
    rename_i r0 gc e2;split at h
    .
     rename_i gO' e3;split at h
     . rename_i r' e4;symm;exact uV F hK ct.room (ct.yt _ Nk) hm hF.kp hB ha (by rw[hl.1,yz.np]) e1 hl.2 (.inl (by rw[<- yz.n];exact e2)) e3 e4 vV gX h2.plain
     . symm
    . symm
   .
    rename_i gc e2;split at h
    . rename_i gO' e3;symm;exact uV F hK ct.room (ct.yt _ Nk) hm hF.kp hB ha (by rw[hl.1,yz.np]) e1 hl.2 (.inr ⟨by rw[<- yz.n];exact e2,rfl⟩) e3 rfl vV gX h2.plain
    . symm
   . symm
 . symm
theorem rK(hS:lH P rn)(ct:aZ P k X c)(hK:z.K=X.K){tg TJ jQ:Expr}{ifs:List Expr}{scope:Scope}{N':List Str}{kk:Nat}{T:Tg}{it xe:Ex}{co:Option Ex}{g g':G}{acc:List D}
  (hnd:N'.Nodup) (hT:NB ⟨N',scope,false,Str.empty⟩ tg T) (Zb:∀i∈T.ix,c.N.length<=i/\i<c.N.length+kk) (hi:Vv P c TJ it) (hf:HF P ⟨N',scope,false,Str.empty⟩ ifs co) (he:Cm P ⟨N',scope,false,Str.empty⟩ jQ xe)
  (h:dm rn z.bor k c.N.length kk T it co xe g=some (acc,g')) :
  ∃items g1 gE,fV X z tg TJ g items g1/\(∀b:Bk,qJ (X.blk N' scope b) z tg T)/\(∀i∈T.ix,g1.length<=i/\i<g1.length+kk)/\
   jL T (g1.length+kk) (λg b g'=>∀bk:Bk,gi (X.blk N' scope bk) z ifs g b g') (λg d g'=>∀bk:Bk,au (X.blk N' scope bk) z jQ g (.dat d) g') items (gC kk g1) gE/\gE[g1.length+kk]?=some (.own acc)/\g'=gE.take g1.length:=by
 unfold dm at h;split at h
 . symm
 .
  rename_i items g1 e1;split at h
  .
   rename_i hl;split at h
   . symm
   .
    rename_i gE e2;split at h
    .
     rename_i acc' e3;symm;obtain⟨hl,hb⟩:=hl;rw[<- hl]at e2 e3 Zb ⊢
     refine⟨items,g1,gE,BG hS ct hK (JN hT) hi e1,λb=>JQ (ct.blk hnd b) hK hT λi hi hm=>?_,Zb,ur hS (λb=>ct.blk hnd b) (λb=>hK) hf he e2,e3,rfl⟩
     rw[List.any_eq_false]at hb;exact hb i hi (i4 hm)
    . symm
  . symm
end
section
variable{X:Cx}{c:Ct}
theorem BL(ct:aZ P k X c)(h:xR P c es ns):kX X es ns/\∀n∈ns,n∈pG:=by
 induction h with
 |nil=>exact⟨.nil,λn hn=>nomatch hn⟩
 |@cons T n pos es ns h1 h2 h3 h4 _ ih=>
  refine⟨.cons ?_ ih.1,λm hm=>(c6.mp hm).elim (λe=>e▸h4) (ih.2 m)⟩
  subst h3;refine⟨ct.yt _ h2,ct.md.bn _ h1,?_,?_,?_⟩ <;> (unfold pG at h4;simp only[c6,i5,Ap]at h4;rcases h4 with rfl |rfl |rfl |rfl |rfl |rfl <;> first |rfl |decide)
theorem lK(hc:Cm P c e x):((backTo cK (starEach [e] X.env)).all (λx=>!x.1)&&(backToKw cK (keywordEach [] X.env)).all (λx=>x.1.isSome)
   && decide ([e].length+([]:List Keyword).length+(if ([]:List Keyword).isEmpty then 0 else 1)<30))=true:=by
 rw[hc.star];rfl
def Qn(X:Cx)(z:Z)(e:Expr)(g:G)(o:Option (R×G)):Prop:=∀r g',o=some (r,g')->au X z e g r g'
theorem Qn.none:Qn X z e g none:=λ_ _ h=>nomatch h
theorem Qn.some{e:Expr}{g g':G}{r:R}(h:au X z e g r g'):Qn X z e g (some (r,g')):=λ_ _ q=>by cases q;exact h
theorem rL(h:nO P (m+1) c (.comp n' kk T it co xe) t=true):n'=c.N.length/\Hj c.sc (jN t)=true/\pH c.N (rE c.N (jN t)) (jN t) kk=true/\(rE c.N (jN t)).Nodup/\NB (yw c t) (Hz (yw c t) T (kid t 1)) T/\(∀i∈T.ix,c.N.length<=i/\i<c.N.length+kk)/\Vv P c (Hy (eN P m c) it (kid t 2)) it/\HF P (yw c t) (NT (eN P m (yw c t)) (kid t 3) co) co/\Cm P (yw c t) (eN P m (yw c t) xe (kid t 0)) xe:=by obtain⟨h1,a1⟩:=aj h;obtain⟨h2,a2⟩:=aj a1;obtain⟨h3,a3⟩:=aj a2;obtain⟨h4,a4⟩:=aj a3;obtain⟨h5,a5⟩:=aj a4;exact⟨dec h1,(aj h2).1,(aj (aj h2).2).1,nM (aj (aj h2).2).2,Bq h3,N6 h4,Bp .mk h5,NX .mk (aj a5).1,.mk (aj a5).2⟩
theorem Oe(ct:aZ P k X c)(hK:z.K=X.K)(h:Xx P c d t=true):au X z (uq d t) g (.dat d) g:=by
 unfold Xx at h;unfold uq;cases e:DW t with
 |some y=>rw[e]at h;obtain⟨hd,v,u,q1,q2,q3⟩:=ct.md.ct _ _ (N5 (aj h).2);exact Fv (ct.yt _ (dec (aj h).1)) q1 q2 (hK▸q3) hd
 |none=>
  rw[e]at h;cases d with
  |int i=>exact La
  |bl i=>exact RC
  |str i=>exact Lc
  |non=>exact Lb
  |_=>exact nt h
theorem HW(hS:lH P rn)(hX:TQ P rn){fns:List Fx}(hF:lJ P fns)(ct:aZ P k X c)(hK:z.K=X.K){e:Expr}{x:Ex}{g:G}(hc:Cm P c e x):Qn X z e g (aU rn z.bor k fns x g):=by
 obtain⟨n,t,rfl,hk⟩:=hc.G6;cases x
 case val d=>exact .some (Oe ct hK hk)
 case slot i=>
  have h1:=(dZ hk).1;have h2:=(dZ hk).2.1;have h3:=(dZ hk).2.2;obtain⟨hd,bY⟩:=cG h3;unfold aU;dsimp only;split
  . rename_i e1;exact .some (Ld (by rw[ct.N];exact h1) (ct.vis h2) hd bY e1)
  . rename_i e1;exact .some (Ft (by rw[ct.N];exact h1) (ct.vis h2) hd bY e1)
  . exact .none
 case bin op a b=>
  have h1:=(Cm.mk (aj hk).1);have h2:=(Cm.mk (aj hk).2);unfold aU;dsimp only;split
  .
   rename_i r1 r2 g2 e1;obtain⟨s1,s2,g1,q1,q2,q3⟩:=fQ e1;cases q3;split
   .
    rename_i d1 d2 p1 p2;split
    . rename_i r0 e3;exact .some (Le (bz (hS.e ct hK h1 q1)) (bz (hS.e ct hK h2 q2)) p1 p2 (Nv hK e3))
    . exact .none
   . exact .none
  . exact .none
 case cmp op a b=>
  have h1:=(Cm.mk (aj hk).1);have h2:=(Cm.mk (aj (aj hk).2).1);have h3:=jg (aj (aj hk).2).2;unfold aU;dsimp only;split
  .
   rename_i r1 r2 g2 e1;obtain⟨s1,s2,g1,q1,q2,q3⟩:=fQ e1;cases q3;split
   .
    rename_i d1 d2 p1 p2;split
    . rename_i r0 e3;exact .some (Lf (bz (hS.e ct hK h1 q1)) (bz (hS.e ct hK h2 q2)) p1 p2 (lF hK ct.room e3) h3)
    . exact .none
   . exact .none
  . exact .none
 case chain a ops xs=>
  obtain⟨k1,k2⟩:=aj hk;obtain⟨k3,k4⟩:=aj k2;obtain⟨k5,k6⟩:=aj k4;obtain⟨Mv,Mw,ops,rfl⟩:=two (dec (aj k6).1);obtain⟨x1,x2,xs,rfl⟩:=two (dec (aj k6).2);have h1:=Cm.mk k1;have h2:=cZ (R:=Cm P c) .mk k3;have h3:=jg k5;unfold aU;dsimp only;split
  .
   rename_i d1 g1 e1;split
   . rename_i b g2 e2;exact .some (zQ (aV hS ct hK h1 e1) (Bw hS ct hK h2 e2) h3)
   . exact .none
  . exact .none
 case neg a=>
  have h1:=Cm.mk hk;unfold aU;dsimp only;split
  . rename_i i g1 e1;exact .some (RJ (aV hS ct hK h1 e1) rfl LW)
  . exact .none
 case not a=>
  have h1:=Cm.mk hk;unfold aU;dsimp only;split
  . rename_i b g1 e1;exact .some (Lq (hS.e ct hK h1 e1))
  . exact .none
 case and xs=>have h1:=cZ (R:=Cm P c) .mk hk;exact λ_ _ h=>HN hS ct hK h1 h
 case or xs=>have h1:=cZ (R:=Cm P c) .mk hk;exact λ_ _ h=>Oc hS ct hK h1 h
 case ite a b d=>
  have h1:=(Cm.mk (aj hk).1);have h2:=(Cm.mk (aj (aj hk).2).1);have h3:=(Cm.mk (aj (aj hk).2).2);unfold aU;dsimp only;split
  . rename_i g1 e1;exact λ_ _ h=>Lr (hS.t ct hK h1 e1) (hS.e ct hK h2 h)
  . rename_i g1 e1;exact λ_ _ h=>Ls (hS.t ct hK h1 e1) (hS.e ct hK h3 h)
  . exact .none
 case tup xs=>
  have h1:=cZ (R:=Cm P c) .mk hk;unfold aU;dsimp only;split
  .
   rename_i ds g1 e1;split
   . rename_i hl;exact .some (Lw (iG hS ct hK h1 e1) (lI _) hl)
   . exact .none
  . exact .none
 case lst xs=>
  have h1:=cZ (R:=Cm P c) .mk hk;unfold aU;dsimp only;split
  .
   rename_i ds g1 e1;split
   . rename_i hl;exact .some (Lx (iG hS ct hK h1 e1) (lI _) hl)
   . exact .none
  . exact .none
 case ix a b=>
  have h1:=(Cm.mk (aj hk).1);have h2:=(Cm.mk (aj hk).2);unfold aU;dsimp only;split
  .
   rename_i r1 r2 g2 e1;obtain⟨s1,s2,g1,q1,q2,q3⟩:=fQ e1;cases q3;split
   .
    rename_i d1 d2 p1 p2;split
    . rename_i r0 e3;exact .some (RD (bz (hS.e ct hK h1 q1)) (bz (hS.e ct hK h2 q2)) p1 p2 (Nx hK (by have:=ct.room.units;lia) e3) h2.HJ)
    . exact .none
   . exact .none
  . exact .none
 case slice a lo hi=>
  have h1:=(Cm.mk (aj hk).1);have h2:=Bo (R:=Cm P c) .mk (aj (aj hk).2).1;have h3:=Bo (R:=Cm P c) .mk (aj (aj hk).2).2;unfold aU;dsimp only;split
  .
   rename_i r0 g1 e1;have q:=bz (hS.e ct hK h1 e1);split
   .
    rename_i i g2 e2;have q2:=rH hS ct hK h2 e2;split
    .
     rename_i j g3 e3;have q3:=rH hS ct hK h3 e3;split
     . rename_i l e4;rw[e4]at q;exact .some (wV hK q q2 q3)
     . rename_i l e4;rw[e4]at q;exact .some (wU hK q q2 q3)
     .
      rename_i x e4;rw[e4]at q;split
      . rename_i hl;exact .some (xG hl q q2 q3)
      . exact .none
     .
      split
      . rename_i e5;exact .some (wR (d:=.non) hK q q2 q3 e5)
      . exact .none
    . exact .none
   . exact .none
  . exact .none
 case call i xs=>
  obtain⟨k1,k2⟩:=aj hk;obtain⟨k3,k4⟩:=aj k2;obtain⟨fi,h1,h2⟩:=Hw k1;cases xs with
  |nil=>cases (aj k4).2
  |cons x xs=>
  have h3:=dec k3;have h4:=cZ (R:=Cm P c) .mk (aj k4).1;show Qn X z (.Call (.Name (Bm P i) (kid t 0).pos) (jO (eN P n c) t 1 (x::xs)) [] t.pos) g _;rw[<- h2]at h3 ⊢
  unfold aU;dsimp only;split
  .
   rename_i fx k' TX yz;split
   . rename_i rs g1 e1;exact λ_ _ h=>BK hS ct hK h1 (hF _ _ _ h1 yz) h3 h4 (rG hS ct hK h4 e1) h
   . exact .none
  . exact .none
 case blt b xs=>
  cases xs with
  |nil=>cases (aj (aj hk).2).2
  |cons x xs=>
  have h2:=(bh (aj hk).1).1;have h3:=(bh (aj hk).1).2;have h4:=cZ (R:=Cm P c) .mk (aj (aj hk).2).1;unfold aU;dsimp only;split
  .
   rename_i rs g1 e1;split
   .
    rename_i ds e2;split
    .
     rename_i r0 e3;have ha:=rG hS ct hK h4 e1;have bY:=Nz hK ct.calm (by have:=ct.room.units;lia) e3
     have gX:=(Cm.mk (aj (aj (aj hk).2).1).1).star (env:=X.env) (jO (eN P n c) t 2 xs);have su:=(cZ .mk (aj (aj (aj hk).2).1).2).plain (env:=X.env) (pos:=t.pos);cases b <;> first |exact .some (zm ha e2 bY (ct.yt _ h3) (ct.md.bn _ h2) rfl ⋯ ⋯ gX su) |exact .some (wH ha e2 bY (ct.yt _ h3) (ct.md.bn _ h2) rfl ⋯ ⋯ gX su)
    . exact .none
   . exact .none
  . exact .none
 case vj a n'=>
  have h1:=Cm.mk (aj (aj hk).2).1;have h2:=(bh (aj hk).1).1;have h3:=(bh (aj hk).1).2;have h4:=(bh (aj (aj (aj hk).2).2).2).1;have h5:=(bh (aj (aj (aj hk).2).2).2).2;have h7:=y8.mp (aj (aj (aj hk).2).2).1;unfold aU;dsimp only;split
  .
   rename_i r0 g1 e1;split
   .
    rename_i d e2;obtain⟨t1,_⟩:=BL ct (xR.cons (pos:=(kid t 2).pos) h4 h5 rfl h7 .nil);cases t1 with
    |cons t1 _=>exact .some (Mf hK (bz (hS.e ct hK h1 e1)) e2 (λ_ _ _ p=>rC p h7) (ct.yt _ h3) (ct.md.bn _ h2) rfl t1.gl t1.mg t1.bt t1.nn t1.db (h1.star _))
   . exact .none
  . exact .none
 case Ay a ns=>
  have h1:=Cm.mk (aj (aj hk).2).1;have h2:=(bh (aj hk).1).1;have h3:=(bh (aj hk).1).2;have h4:=dec (aj (aj (aj hk).2).2).1;have h5:=N1 (t:=kid t 2) (i:=0) (aj (aj (aj hk).2).2).2;unfold aU;dsimp only;split
  .
   rename_i r0 g1 e1;split
   . rename_i d e2;obtain⟨t1,t2⟩:=BL ct h5;exact .some (Gs hK (bz (hS.e ct hK h1 e1)) e2 t1 ⋯ (λ_ _ _ p=>nL p t2) (ct.yt _ h3) (ct.md.bn _ h2) rfl (h1.star _))
   . exact .none
  . exact .none
 case rev a=>
  have h1:=Cm.mk hk;unfold aU;dsimp only;split
  .
   rename_i r0 g1 e1;have q:=bz (hS.e ct hK h1 e1);split
   . rename_i l e4;rw[e4]at q;exact .some (GC hK q)
   .
    rename_i x e4;rw[e4]at q;split
    . rename_i hl;exact .some (G0 hl q)
    . exact .none
   .
    split
    . rename_i e5;exact .some (Gz hK q e5)
    . exact .none
  . exact .none
 case emp=>exact .some (MN)
 case peek xe=>
  have h1:=Cm.mk (aj hk).2;unfold aU;dsimp only;split
  .
   rename_i hb;have hb:=List.isEmpty_iff.mp hb;split
   .
    rename_i d g1 e1;split
    . rename_i hf;exact .some (GJ hb hf (hS.e ct hK h1 (by rw[hb];exact e1)))
    . exact .none
   .
    rename_i l g1 e1;split
    . rename_i hf;exact .some (Ak hb hf (hS.e ct hK h1 (by rw[hb];exact e1)))
    . exact .none
   . exact .none
  . exact .none
 case comp n' kk T it co xe=>
  obtain⟨rfl,h1,h2,h3,h4,h5,h6,h7,h8⟩:=rL hk;unfold aU;dsimp only;split
  . rename_i acc g1 e1;obtain⟨items,g1,gE,w1,w2,w3,w4,w5,rfl⟩:=rK hS ct hK h3 h4 h5 h6 h7 h8 e1;exact .some (Gm (vo ct h1) ct.calm (by rw[ct.N];exact nP h2) w1 w2 w3 w4 w5 λy=>h6.folded y)
  . exact .none
 case rq a=>
  have h1:=Cm.mk (aj hk).2;have h2:=(bh (aj (aj hk).1).1).1;have h3:=(bh (aj (aj hk).1).1).2;have h4:=(bh (aj (aj hk).1).2).1;have h5:=(bh (aj (aj hk).1).2).2;unfold aU;dsimp only;split
  .
   rename_i j g1 e1;split
   .
    rename_i hj;obtain⟨hj,hl⟩:=hj;simp only[Hf,eM,mN]at hj;have q:=zU (lp:=(kid t 0).pos) (pos:=t.pos) (W3 (p:=(kid (kid t 1) 0).pos) (rp:=(kid t 1).pos) (dF (aV hS ct hK h1 e1) fz (h1.star _)) (ct.yt _ h3) (ct.md.bn _ h2) (h1.star _)) ct.calm (ct.yt _ h5) (ct.md.bn _ h4) rfl ⟨by lia,by lia,hj.1,hj.2⟩ (by rw[Int.sub_zero];exact hl)
    rw[Int.sub_zero]at q;exact .some (q)
   . exact .none
  . exact .none
 case join a=>
  have h1:=(Cm.mk (aj hk).2);unfold aU;dsimp only;split
  .
   rename_i r0 g1 e1;split
   .
    rename_i l e2;split
    .
     rename_i m e3;split
     . rename_i hl;exact .some (G4 hK (bz (hS.e ct hK h1 e1)) e2 e3 hl (h1.star _) (aj hk).1 (lK h1))
     . exact .none
    . exact .none
   . exact .none
  . exact .none
 case append i x=>
  have h1:=(dZ (aj (aj hk).2).1).1;have h2:=(dZ (aj (aj hk).2).1).2.1;have h3:=(dZ (aj (aj hk).2).1).2.2;have h4:=(Cm.mk (aj (aj hk).2).2);have h5:=(aj hk).1;obtain⟨hd,bY⟩:=cG h3;unfold aU;dsimp only;split
  .
   rename_i l0 e0;split
   .
    rename_i d g1 e1;split
    .
     rename_i l e2;split
     . rename_i hl;exact .some (wN (by rw[ct.N];exact h1) (ct.vis h2) hd bY e0 (dF (aV hS ct hK h4 e1) fz (h4.star _)) e2 hl rfl (lK h4) h5 (h4.star _))
     . exact .none
    . exact .none
   . exact .none
  . exact .none
 case extend i x=>
  have h1:=(dZ (aj (aj hk).2).1).1;have h2:=(dZ (aj (aj hk).2).1).2.1;have h3:=(dZ (aj (aj hk).2).1).2.2;have h4:=(Cm.mk (aj (aj hk).2).2);have h5:=(aj hk).1;obtain⟨hd,bY⟩:=cG h3;unfold aU;dsimp only;split
  .
   rename_i l0 e0;split
   .
    rename_i d g1 e1;split
    .
     rename_i l e2;split
     . rename_i hl;exact .some (wX (by rw[ct.N];exact h1) (ct.vis h2) hd bY e0 (dF (aV hS ct hK h4 e1) fz (h4.star _)) e2 hl rfl (lK h4) h5 (h4.star _))
     . exact .none
    . exact .none
   . exact .none
  . exact .none
 case nG i x=>
  have h1:=(dZ (aj (aj hk).2).1).1;have h2:=(dZ (aj (aj hk).2).1).2.1;have h3:=(dZ (aj (aj hk).2).1).2.2;have h4:=(Cm.mk (aj (aj hk).2).2);have h5:=(aj hk).1;obtain⟨hd,bY⟩:=cG h3;unfold aU;dsimp only;split
  .
   rename_i l0 e0;split
   .
    rename_i j g1 e1;split
    .
     rename_i l e2;split
     .
      rename_i n e3;split
      .
       rename_i d e4;split
       . rename_i hl;exact .some (zK (by rw[ct.N];exact h1) (ct.vis h2) hd bY e0 (dF (aV hS ct hK h4 e1) fz (h4.star _)) e2 e3 e4 hl rfl (lK h4) h5 (h4.star _))
       . exact .none
      . exact .none
     . exact .none
    . exact .none
   . exact .none
  . exact .none
 case pop i=>
  have h1:=(dZ (aj hk).2).1;have h2:=(dZ (aj hk).2).2.1;have h3:=(dZ (aj hk).2).2.2;have h5:=(aj hk).1;obtain⟨hd,bY⟩:=cG h3;unfold aU;dsimp only;split
  .
   rename_i l e0;split
   . rename_i d e1;exact .some (Mz (by rw[ct.N];exact h1) (ct.vis h2) hd bY e0 e1 rfl h5)
   . exact .none
  . exact .none
 all_goals exact Bool.noConfusion (show false=true from hk)
theorem BP(hS:lH P rn)(hX:TQ P rn)(hF:lJ P fns)(ct:aZ P k X c)(hK:z.K=X.K)(hc:Cm P c e x)(h:aU rn z.bor k fns x g=some (r,g')):au X z e g r g':=HW hS hX hF ct hK hc r g' h
end
section
theorem BR(hS:lH P rn)(ct:aZ P k X c)(hK:z.K=X.K)(hc:Cm P c e x)(h:stepT rn z.bor k x g=some (b,g')):bx X z e g b g':=by
 have plain:(match rn.e z.bor k x g with |some (r,g1)=>(match pk (norm r) g1 with |some d=>(match Gq d with |some c=>some (c,g1) |none=>none) |none=>none) |none=>none)=some (b,g')->
   (∀whole,isTrue e X.env whole=(do let v <- whole;standAt e.pos;holding [v] (truthy v)))->bx X z e g b g':=by
  intro h he;split at h
  .
   rename_i r g1 e1;split at h
   .
    rename_i d e2;split at h
    . rename_i b' e3;symm;exact zT hK (bz (hS.e ct hK hc e1)) e2 e3 he
    . symm
   . symm
  . symm
 obtain⟨n,t,rfl,hk⟩:=hc.G6;cases x
 case cmp op a b=>
  have h1:=Cm.mk (aj hk).1;have h2:=Cm.mk (aj (aj hk).2).1;have h3:=jg (aj (aj hk).2).2;unfold stepT at h;dsimp only at h;split at h
  .
   rename_i r1 r2 g2 e1;obtain⟨s1,s2,g1,q1,q2,q3⟩:=fQ e1;cases q3;split at h
   .
    rename_i d1 d2 p1 p2;split at h
    . rename_i r0 e3;symm;exact Lg (bz (hS.e ct hK h1 q1)) (bz (hS.e ct hK h2 q2)) p1 p2 (lF hK ct.room e3) h3
    . symm
   . symm
  . symm
 case chain a ops xs=>
  obtain⟨k1,k2⟩:=aj hk;obtain⟨k3,k4⟩:=aj k2;obtain⟨k5,k6⟩:=aj k4;obtain⟨Mv,Mw,ops,rfl⟩:=two (dec (aj k6).1);obtain⟨x1,x2,xs,rfl⟩:=two (dec (aj k6).2);have h1:=Cm.mk k1;have h2:=cZ (R:=Cm P c) .mk k3;have h3:=jg k5;unfold stepT at h;dsimp only at h;split at h
  . rename_i d1 g1 e1;exact zR (aV hS ct hK h1 e1) (Bw hS ct hK h2 h) h3
  . symm
 case not a=>
  have h1:=Cm.mk hk;unfold stepT at h;dsimp only at h;split at h
  . rename_i b' g1 e1;symm;exact Lh (hS.t ct hK h1 e1)
  . symm
 case and xs=>exact (Bx hS ct hK (cZ .mk hk) h).tr
 case or xs=>exact (HQ hS ct hK (cZ .mk hk) h).tr
 case ite a b d=>symm
 case val d=>exact plain h (by rw[show HD P (eN P n) c (.val d) t=uq d t from rfl];unfold uq;split <;> exact λ_=>rfl)
 case peek xe=>exact plain h (by obtain⟨x,p,a,es,pos,e⟩:=rF (aj hk).1;rw[show HD P (eN P n) c (.peek xe) t=eN P n c xe t from rfl,e];exact λ_=>rfl)
 all_goals first |exact plain h λ_=>rfl |exact Bool.noConfusion (show false=true from hk)
theorem pK(ct:aZ P k X c):PassesOwn (~~~2) X.A X.env X.xe:=by rw[ct.xe];exact PassesOwn.never
theorem lM(hb:∀{g g':G}{f:Fl},b g=some (f,g')->cV X z body g f g'):∀{items:List D}{g g':G}{f:Fl},cP T b items g=some (f,g')->cW X z body T items g f g'
 | [],_,_,_,h=>by symm;exact .nil
 |d::l,_,_,_,h=>by
  unfold cP at h;split at h
  . symm
  .
   rename_i g0 e0;split at h
   . symm
   . rename_i g1 e1;exact .next e0 (hb e1) (lM hb h)
   . rename_i g1 e1;exact .cont e0 (hb e1) (lM hb h)
   . rename_i g1 e1;symm;exact .brk e0 (hb e1)
   . rename_i g1 e1;symm;exact .ret e0 (hb e1)
theorem uv(ht:∀{g g':G}{v:Bool},t g=some (v,g')->bx X z ce g v g')(hb:∀{g g':G}{f:Fl},b g=some (f,g')->cV X z body g f g') :
  ∀{n:Nat}{g g':G}{f:Fl},rA t b n g=some (f,g')->jM X z ce body n g f g'
 | 0,_,_,_,h=>by symm
 |n+1,_,_,_,h=>by
  unfold rA at h;split at h
  . symm
  . rename_i g1 e1;symm;exact .done (ht e1)
  .
   rename_i g1 e1;split at h
   . symm
   . rename_i g2 e2;exact .next (ht e1) (hb e2) (uv ht hb h)
   . rename_i g2 e2;exact .cont (ht e1) (hb e2) (uv ht hb h)
   . rename_i g2 e2;symm;exact .brk (ht e1) (hb e2)
   . rename_i g2 e2;symm;exact .ret (ht e1) (hb e2)
theorem rM(h:Cm P c e x)(hn:um (λ_ _=>true) e=false)(t:Option Expr)(l:Nat)(env:Env):swapsWith e t l env=pure false:=by have hs:=h.Bu;cases e <;> first |rfl |exact Bool.noConfusion (show true=false from hn) |exact Bool.noConfusion (show false=true from hs)
theorem rN(ct:aZ P k X c)(lW:c.df=true)(hl:gP c y=true):swapsWith (.ListComp a b s p) (some (.Name y py)) l X.env=pure (S9 c y py p s):=by
 show (pure (X.env.blockKind==.function&&X.env.kindOf y==some .local&&py.line==(Expr.ListComp a b s p).pos.line&&!(s.names.any λ(n,k)=>n==y&&(k==.local||k==.cell))):Sem Bool)=_
 rw[ct.bk lW];have e:(X.env.kindOf y==some .local)=(c.sc.names.lookup y==some .local):=by
  unfold gP at hl;split at hl
  . rename_i e;rw[e];show (X.env.scope.names.lookup y==_)=_;rw[ct.Qj y e]
  . rename_i e;rw[e];show (X.env.scope.names.lookup y==_)=_;rw[ct.Y5 lW y e]
  . cases hl
 rw[e];rfl
theorem xS(ct:aZ P k X c)(lW:c.df=true)(hl:gP c y=true)(h:Cm P c e x)(hn:um (λs p=>S9 c y py p s) e=false):swapsWith e (some (.Name y py)) l X.env=pure false:=by have hs:=h.Bu;cases e <;> first |rfl |exact Bool.noConfusion (show true=false from hn) |exact Bool.noConfusion (show false=true from hs) | (rw[rN ct lW hl];exact congrArg pure hn)
def Og:Expr->Bool
 |.Starred ..=>true
 |_=>false
theorem BV(h:Cm P c e x):Og e=false:=by have hs:=h.Bu;cases e <;> first |rfl |exact Bool.noConfusion (show false=true from hs)
theorem Oh{x:Str}{pn gf:Pos}{ix:Expr}{xi:Ex}{X:Cx}(h:Cm P c ix xi):∀v,assign (.Subscript (.Name x pn) ix gf) X.env v=(do
   let ov <- holding [v] (eval (.Name x pn) X.env)
   let iv <- holding [v,ov] (eval ix X.env)
   standAt gf
   holding [v,ov,iv] (setItem ov iv v)
   release [v,ov,iv] []):=by
 have hs:=h.Bu;cases ix <;> first |exact λ_=>rfl |exact Bool.noConfusion (show false=true from hs)
theorem Oi(h:Cm P c e x):swappedStores [.Subscript (.Name y pn) ix gf] e env=pure none:=by cases e <;> first |rfl |exact Bool.noConfusion (show false=true from hs)
theorem Oj(ct:aZ P k X c)(h:NC c x y px py a b=true)(ca:Cm P c a xa)(cb:Cm P c b xb):X.env.scope.names.lookup x=some .local/\X.env.scope.names.lookup y=some .local/\
  swappedStores [.Tuple [.Name x px,.Name y py] kt pt] (.Tuple [a,b] k2 Kp) X.env=pure (some [x,y]):=by
 unfold NC at h;simp only[eM]at h;obtain⟨⟨⟨⟨⟨⟨h1,h2⟩,h3⟩,h4⟩,h5⟩,h6⟩,h7⟩:=h;have e1:=ct.Qj x (eq_of_beq h1);have e2:=ct.Qj y (eq_of_beq h2);refine⟨e1,e2,?_⟩;have hb:=ct.bk h7;have sa:=BV ca;have sb:=BV cb;have k1:X.env.kindOf x=some .local:=e1;have k2':X.env.kindOf y=some .local:=e2;have hxy:(y==x)=false:=by
  simp only[Bool.not_eq_true']at h4;rw[Bz]at h4 ⊢
  exact λe=>h4 e.symm
 have h3':=eq_of_beq h3;show (if _ then _ else _:Sem (Option (List Str)))=_
 rw[fI (by rw[hb];simp)]
 rw[fI (by show ¬ ((Og a||(Og b||false))=true);rw[sa,sb];decide)]
 dsimp only;generalize hq:List.filterMap _ [Expr.Name x px,Expr.Name y py]=ns;have hn:ns=[x,y]:=by rw[<- hq];simp[k1,k2',h3',show (Expr.Name x px).pos=px from rfl]
 subst hn;have hd:[x,y].eraseDups.length=2:=by have fJ:=Bz.mp hxy;simp[List.eraseDups_cons,fJ]
 rw[fI (by rw[hd];simp)]
 rw[fI (by show ¬ ((foldedForSure 8 a&&(foldedForSure 8 b&&true))=true);rw[Bool.and_true];intro z;rw[z]at h5;exact absurd h5 ⋯)]
 rw[fI (by show ¬ ((constantsAlone 8 a&&(constantsAlone 8 b&&true))=true);rw[Bool.and_true];intro z;rw[z]at h6;exact absurd h6 ⋯)]
theorem rO(hS:lH P rn)(ct:aZ P k X c)(lW:c.df=true)(hK:z.K=X.K)(hc:JM P c s x)(h:aF rn z.bor k x g=some (f,g')):gH X z s g f g':=by
 obtain⟨mm,n,t,rfl,hk⟩:=hc.G6;cases x
 case ret x=>
  have h1:=Cm.mk hk;unfold aF at h;dsimp only at h;split at h
  . rename_i r g1 e1;symm;exact Mk (hS.e ct hK h1 e1)
  . symm
 case expr x=>
  have h1:=Cm.mk (aj hk).1;have h2:=Y8 (aj hk).2;unfold aF at h;dsimp only at h;split at h
  . rename_i r g1 e1;symm;exact Gd (hS.e ct hK h1 e1) (rM h1 h2 _ _ _)
  . symm
 case set i x=>
  have h1:=dec (aj (aj hk).1).1;have h2:=(aj (aj hk).1).2;have h3:=Cm.mk (aj (aj hk).2).1;have h4:=jg (aj (aj hk).2).2;have nm:=ct.nm h1 h2;have hsw:swapsWith (eN P (mm+1) c x (aI t 0)) (some (.Name (Ev.nm c i) (aI t 1).pos)) t.pos.line X.env=pure false:=xS ct lW h2 h3 h4;unfold aF at h;dsimp only at h;split at h
  . symm
  .
   rename_i hb;split at h
   .
    rename_i l g1 e1;split at h
    . rename_i hl;symm;exact Gf nm.nd nm.ix nm.lc (hS.e ct hK h3 e1) hl hsw nm.fn hb
    . symm
   .
    rename_i r g1 _ e1;split at h
    . rename_i d g2 e2;symm;exact Ge nm.nd nm.ix nm.lc (Bv (hS.e ct hK h3 e1) e2) hsw nm.fn hb
    . symm
   . symm
 case setC i x=>
  obtain⟨g1,g2⟩:=aj hk;obtain⟨h2,g4⟩:=aj g2;obtain⟨h3,g6⟩:=aj g4;have h1:=dec g1;cases x
  case comp n' kk T it co xe=>
   have hl:c.sc.names.lookup (Ev.nm c i)=some .local:=by unfold S9 at h2;simp only[eM]at h2;exact eq_of_beq h2.1.1
   have gX:gP c (Ev.nm c i)=true:=by unfold gP;rw[hl]
   have nm:=ct.nm h1 gX;unfold aF at h;dsimp only at h;split at h
   . symm
   .
    rename_i hb;split at h
    .
     rename_i acc g1 e1;split at h
     .
      rename_i hi;symm;obtain⟨rfl,k1,k2,k3,k4,k5,k6,k7,k8⟩:=rL h3
      . obtain⟨items,g1,gE,w1,w2,w3,w4,w5,rfl⟩:=rK hS ct hK k3 k4 k5 k6 k7 k8 e1;exact Gn (vo ct k1) ct.calm (by rw[ct.N];exact nP k2) w1 w2 w3 w4 w5 nm.nd nm.ix (ct.Qj _ hl) hb hi (by rw[rN ct lW gX,h2]) λww=>k6.folded ww
     . symm
    . symm
  all_goals exact Bool.noConfusion (show false=true from g6)
 case item i xj x=>
  have h1:=(dZ (aj hk).1).1;have h2:=(dZ (aj hk).1).2.1;have h3:=(dZ (aj hk).1).2.2;have h4:=Cm.mk (aj (aj hk).2).1;have h5:=Cm.mk (aj (aj (aj hk).2).2).1;have h6:=Y8 (aj (aj (aj hk).2).2).2;obtain⟨hd,bY⟩:=cG h3;unfold aF at h;dsimp only at h;split at h
  .
   rename_i d g1 e1;split at h
   .
    rename_i l0 e2;split at h
    .
     rename_i n g2 e3;split at h
     .
      rename_i l e4;split at h
      . rename_i m e5;symm;have hsw:=rM h5 h6 (some (.Subscript (.Name (Ev.nm c i) (kid (aI t 1) 0).pos) (eN P (mm+1) c xj (kid (aI t 1) 1)) (aI t 1).pos)) t.pos.line X.env;have gX:swappedStores [.Subscript (.Name (Ev.nm c i) (kid (aI t 1) 0).pos) (eN P (mm+1) c xj (kid (aI t 1) 1)) (aI t 1).pos] (eN P (mm+1) c x (aI t 0)) X.env=pure none:=Oi h5;exact Gg (by rw[ct.N];exact h1) (ct.vis h2) hd bY (aV hS ct hK h5 e1) e2 (aV hS ct hK h4 e3) e4 e5 (Oh h4) hsw gX rfl
      . symm
     . symm
    . symm
   . symm
  . symm
 case par i j a b=>
  have h1:=(dec (aj hk).1).1;have h2:=(dec (aj hk).1).2.1;have h3:=(dec (aj hk).1).2.2;have h4:=(aj (aj hk).2).1;have h5:=Cm.mk (aj (aj (aj hk).2).2).1;have h6:=Cm.mk (aj (aj (aj hk).2).2).2;unfold aF at h;dsimp only at h;split at h
  . symm
  .
   rename_i hbi;split at h
   . symm
   .
    rename_i W5;split at h
    . rename_i d1 d2 g1 e1;symm;obtain⟨w1,w2,w3⟩:=Oj ct h4 h5 h6;exact MK ct.calm (ct.N▸ct.nd) (by rw[ct.N];exact h1) (by rw[ct.N];exact h2) h3 w1 w2 (iG hS ct hK (.cons h5 (.cons h6 .nil)) e1) hbi W5 w3 rfl
    . symm
 case ite e a b=>
  have h1:=Cm.mk (aj hk).1;have h2:=Bt.mk (aj (aj hk).2).1;have h3:=Bt.mk (aj (aj hk).2).2;unfold aF at h;dsimp only at h;split at h
  . rename_i g1 e1;exact Ju (hS.t ct hK h1 e1) (by rw[eR rfl];exact hS.b ct lW hK h2 h)
  . rename_i g1 e1;exact Ju (hS.t ct hK h1 e1) (by rw[fI mP];exact hS.b ct lW hK h3 h)
  . symm
 case loop T it b=>
  have h1:=Bq (t:=aI t 0) (aj hk).1;have h2:=Bp (R:=Cm P c) .mk (aj (aj hk).2).1;have h3:=Bt.mk (aj (aj hk).2).2;unfold aF at h;dsimp only at h;split at h
  . symm
  .
   rename_i hb;split at h
   . rename_i items g1 e1;exact Ms (pK ct) ct.calm (BG hS ct hK (JN h1) h2 e1) (JQ ct hK h1 λi hi hm=>hb (by rw[List.any_eq_true];exact⟨i,hi,i4 hm⟩)) (lM (λe=>hS.b ct lW hK h3 e) h) λy=>h2.folded y
   . symm
 case «while» e b=>have h1:=Cm.mk (aj hk).1;have h2:=Bt.mk (aj hk).2;exact zS (pK ct) (uv (λe=>hS.t ct hK h1 e) (λe=>hS.b ct lW hK h2 e) h)
 case stuck=>symm
 all_goals exact Bool.noConfusion (show false=true from hk)
theorem BW{α:Type}{ll:List α}{b t:α}(h1:ll.getLast?=some b)(h2:ll.dropLast.getLast?=some t):ll=ll.dropLast.dropLast++[t]++[b]:=by
 obtain⟨ys,rfl⟩:=AC.mp h1;rw[tS]at h2 ⊢
 obtain⟨zs,rfl⟩:=AC.mp h2;rw[tS]
theorem HX(hS:lH P rn)(ct:aZ P k X c)(hK:z.K=X.K){bO cz:Nat}{c1 c2 c3 jx:Ex}{C1 C2 C3 J:Expr}{g:G}(q1:Cm P c C1 c1)(q2:Cm P c C2 c2)(q3:Cm P c C3 c3)(q4:Cm P c J jx) :
  ∀{ds:List D}{ll:List (List D)}{r:Option (List (List D))},rB rn z.bor k bO cz c1 c2 c3 jx g ds ll=some r->dY X z g bO cz C1 C2 C3 J ds ll r:=by
 intro ds
 induction ds with
 |nil=>intro ll r h;symm;exact .done ll
 |cons d ds ih=>
  intro ll r h;unfold rB at h;split at h
  .
   rename_i x;split at h
   .
    rename_i g1 e1;split at h
    . rename_i hl;exact .G6 (hS.t ct hK q1 e1) hl (ih h)
    . symm
   .
    rename_i g1 e1;split at h
    .
     rename_i b2 g2 e2;split at h
     .
      rename_i hb;split at h
      .
       rename_i b t eb et;have Xz:=BW eb et;obtain⟨hb2,_⟩:=aj hb;subst hb2;split at h
       . rename_i g3 e3;symm;rw[Xz];exact .bad (hS.t ct hK q1 e1) (hS.t ct hK q2 e2) (hS.t ct hK q3 e3)
       .
        rename_i g3 e3;split at h
        .
         rename_i s g4 e4;split at h
         . rename_i ht;rw[Xz];exact .cls (hS.t ct hK q1 e1) (hS.t ct hK q2 e2) (hS.t ct hK q3 e3) (hS.e ct hK q4 e4) ht (ih h)
         . symm
        . symm
       . symm
      . symm
     . rename_i hb;symm;exact .no (hS.t ct hK q1 e1) (hS.t ct hK q2 e2) (by simpa using hb)
    . symm
   . symm
  . symm
theorem BX(hS:lH P rn)(ct:aZ P k X c)(lW:c.df=true)(hK:z.K=X.K)(h:Vx P (Cm P c) (JM P c) c ss x)(e:aF rn z.bor k x g=some (f,g')):xD X z ss g f g':=by
 cases h with
 |@Az y sn br th tW bO iy cz c1 c2 c3 jx C1 C2 C3 J ss h1 h2 h3 h4 h5 h6 h7 q1 q2 q3 q4 h8=>
  unfold aF at e;dsimp only at e;split at e
  .
   rename_i x gt gs;split at e
   .
    rename_i gy gb;split at e
    .
     rename_i hn;split at e
     .
      rename_i r er;cases e;obtain⟨n1,n2⟩:=aj hn;obtain⟨dy,cy⟩:=cG h1.2.2;obtain⟨dt,TX⟩:=cG h5.2.2;have hb:z.bor=[]:=List.isEmpty_iff.mp n2;obtain⟨l1,l2⟩:=aj h8;exact xM (pK ct) ct.calm (ct.nm h1.1 h2) (ct.nm h3.1 h3.2) ⟨by rw[ct.N];exact h5.1,ct.vis h5.2.1,dt,TX⟩ gt gy
       ⟨n1,hb,⟨by rw[ct.N];exact h1.1,ct.vis h1.2.1,dy,cy⟩,ct.nm h4.1 h4.2,h6.1,h6.2.1,h6.2.2,gs,gb,ct.yt _ h7.2,ct.md.bn _ h7.1,l1,(aj l2).1,(aj l2).2,q4.star _,lK q4,rfl⟩ (HX hS ct hK q1 q2 q3 q4 er)
     . cases e
    . cases e
   . cases e
  . cases e
theorem BZ(hS:lH P rn)(ct:aZ P k X c)(lW:c.df=true)(hK:z.K=X.K):∀{pY:List Stmt}{xs:List Sm}{g g':G}{f:Fl},Bt P c pY xs->bJ rn z.bor k xs g=some (f,g')->cV X z pY g f g':=by
 intro pY xs g g' f hc h
 induction hc generalizing g with
 |nil=>symm;exact Mg
 |grp h1 h2 ih=>
  unfold bJ at h;split at h
  . rename_i g1 e1;exact (BX hS ct lW hK h1 e1).bk (ih h)
  . rename_i hn e1;symm;exact (BX hS ct lW hK h1 e1).end λe=>hn e
  . symm
 |cons h1 h2 ih=>
  unfold bJ at h;split at h
  . rename_i g1 e1;exact Gb (rO hS ct lW hK h1 e1) (ih h)
  .
   rename_i hn e1;symm;have q:=rO hS ct lW hK h1 e1;cases f with
   |nx=>exact absurd rfl hn
   |rt r=>exact Mh q
   |bk=>exact Mi q
   |ct=>exact Mj q
  . symm
end
theorem rP{P:Pg}{fns:List Fx}(hF:lJ P fns):∀n,lH P (run fns n)
 | 0=>⟨λ_ _ _ h=>(by symm),λ_ _ _ h=>(by symm),λ_ _ _ _ h=>(by symm)⟩
 |n+1=>
  let a:=rP hF n
  ⟨λct hK hc h=>BP a ⟨⟩ hF ct hK hc h,λct hK hc h=>BR a ct hK hc h,λct lW hK hc h=>BZ a ct lW hK hc h⟩
theorem HY{P:Pg}{fns:List Fx}(hF:lJ P fns)(n:Nat):lH P (run fns n):=rP hF n
def eS(K:Frag)(mg:Str->Option Value)(fi:Fi):Prop:=
 ∃f fd,mg fi.name=some (.ref f)/\Ro K fi.name fi.qual fi.st f fd/\dg fi.N fi.ps (aQ fi.st)/\(∀us:List Value,us.length=fi.ps.length->bindArgs fd ⟨us,[]⟩=pure (fi.ps.zip us))/\(fi.name==(~~~3))=false
def Ol(K:Frag)(mg:Str->Option Value)(p:Str×D):Prop:=(p.1==(~~~3))=false/\∃v u,mg p.1=some u/\RelV v u/\∀M H,Rep K M H p.2 v
inductive All{α:Type}(p:α->Prop):List α->Prop
 |nil:All p []
 |cons {a:α}{l:List α}:p a->All p l->All p (a::l)
theorem All.mem{α:Type}{p:α->Prop}:∀{l:List α},All p l->∀a∈l,p a:=by
 intro l h
 induction h with
 |nil=>intro a h;symm
 |cons h t ih=>
  intro a hm;rcases c6.mp hm with rfl |hm
  . exact h
  . exact ih a hm
structure Om(P:Pg)(K:Frag)(mg:Str->Option Value):Prop where
 lam:P.lam=true->∀n∈qA,∀dz,PySem.W.codeIn K dz n=true->Nu K mg n dz
 JF:∀(i:Nat) (C:Addr),P.JF[i]?=some C->∃x,P.cls[i]?=some x/\mg x=some (.ref C)/\xh K C/\Rw K C
 kt:P.lam=true->(P.kt==(~~~3))=false/\∃D,mg P.kt=some (.ref D)/\xh K D/\∀C∈P.JF,Sx K C D=true
 ups:∀(x:Str) (l:List (Addr×Bool)),(x,l)∈P.ups->(x==(~~~3))=false/\∃cv,((mg x=some cv/\∃D,cv=.ref D)\/(x∈P.bn/\x≠ "__name__" /\bootBuiltins x=some cv/\∃n,cv=.type n))/\PySem.W.kitOne K (.type "NoneType") cv=some false/\∀C b,l.lookup C=some b->PySem.W.kitOne K (.ref C) cv=some b
theorem Ia{P:Pg}{K:Frag}{mg:Str->Option Value}(h1:P.lam=false)(h2:P.JF=[])(h3:P.ups=[]):Om P K mg:=
 ⟨λh=>(by rw[h1]at h;symm),λi C h=>(by rw[h2]at h;symm),λh=>(by rw[h1]at h;symm),λx l h=>(by rw[h3]at h;symm)⟩
theorem TY{P:Pg}{K:Frag}{mg:Str->Option Value}(h1:All (eS K mg) P.fn)(h2:All (Ol K mg) P.ct)(h3:All (λx=>mg x=none) P.bn)(h4:All (λx=>(x==(~~~3))=false/\∃C,mg x=some (.ref C)/\xh K C) P.cls)(h5:Om P K mg):xO P K mg:=
 ⟨λi fi e=>by obtain⟨f,fd,q1,q2,q3,q4,q5⟩:=h1.mem fi (rV e);exact⟨f,fd,q1,q2,q3,.all q4,q5⟩,λx d h=>h2.mem (x,d) h,λx h=>h3.mem x h,λx h=>h4.mem x h,h5.lam,h5.JF,h5.kt,h5.ups⟩
def XC(fi:Fi):Prop:=∀(kV doc pm:Value) (an:Option Addr) (dz ct:Value) (us:List Value),us.length=fi.ps.length->bindArgs (PySem.W.fnOf fi.name fi.qual (fK fi.st) (bC fi.st) (aQ fi.st) .none kV doc pm an dz ct) ⟨us,[]⟩=pure (fi.ps.zip us)
section
variable{K:Frag}
theorem T3{fi:Fi}{oc:Value}{od an:Option Addr}{osl:Array (Option Value)}{kV doc pm dz ct:Value}(X:K.In h)(G:h.Ns mainGlobals mg)(a:PySem.W.nsIn K mainGlobals fi.name=some (some (.ref f)))
  (l:K.lookup f=some ⟨oc,od,.func (PySem.W.fnOf fi.name fi.qual (fK fi.st) (bC fi.st) (aQ fi.st) .none kV doc pm an dz ct),osl⟩) (c:PySem.W.codeIn K dz fi.qual=true) (k:PySem.W.keepIn K (.ref f)=true)
  (sc:dg fi.N fi.ps (aQ fi.st)) (hb:XC fi)
  (hd:(fi.name==(~~~3))=false):eS K mg fi:=
 let F:=K5 l c k
 ⟨f,_,PySem.W.mg_of X G a,F,sc,hb kV doc pm an dz ct,hd⟩
theorem Oo(X:K.In h)(G:h.Ns mainGlobals mg)(a:PySem.W.nsIn K mainGlobals x=some (some (.int i t)))(hd:(x==(~~~3))=false):Ol K mg (x,.int i):=
 ⟨hd,.int i,.int i t,PySem.W.mg_of X G a,⟨t,rfl⟩,λ_ _=>.int i⟩
theorem Oq{P:Pg}{fns:List Fx}{prog:Program}{w:World}{base:Heap}(hF:lJ P fns)(md:xO P K mg){i:Nat}{fi:Fi}{fx:Fx}{x:Str}{fd:FuncData}{n k:Nat}(TV:P.fn[i]?=some fi)(yz:fns[i]?=some fx)(hp:fi.ps=[x])(F:Ro K fi.name fi.qual fi.st f fd)(sc:dg fi.N fi.ps (aQ fi.st)) :
  lZ prog w K mg base Dy (k+1) f fd [x] (Ml K fi.N 1 λbor g r g'=>(run fns n).b bor k fx.body g=some (.rt r,g')):=by
 have:=Jw (P:=prog) (w:=w) (base:=base) (run:=λbor g r g'=>(run fns n).b bor k fx.body g=some (.rt r,g')) F sc λdz A outer s H E bY hr z g r g' hK hrun=>
  ⟨_,(HY hF n).b (rJ sc md bY hr) rfl hK (hF i fi fx TV yz).body hrun,.inl rfl⟩
 rw[hp]at this;exact this
theorem Ca{P:Pg}{fns:List Fx}{prog:Program}{w:World}(hF:lJ P fns)(md:xO P K mg){i:Nat}{fi:Fi}{fx:Fx}{x:Str}{n k:Nat}(TV:P.fn[i]?=some fi)(yz:fns[i]?=some fx)(hp:fi.ps=[x])(h:eS K mg fi)(hm:mg fi.name=some (.ref f)) :
  ∃fd:FuncData,(∀(s:Shared) (u:Value),BindsTo s fd ⟨[u],[]⟩ [(x,u)])/\∀base:Heap,K.In base->base.Ns mainGlobals mg->lZ prog w K mg base Dy (k+1) f fd [x] (Ml K fi.N 1 λbor g r g'=>(run fns n).b bor k fx.body g=some (.rt r,g')):=by
 obtain⟨f',fd,q1,q2,q3,q4,q5⟩:=h;rw[hm]at q1;cases q1;refine⟨fd,λs u=>.of_eq ?_,λbase _ _=>Oq hF md TV yz hp q2 q3⟩
 have:=q4 [u] (by rw[hp];rfl)
 rw[hp]at this;exact this
theorem Ot{N:List Str}{run:List Nat->G->R->G->Prop}(hev:∀ns:List Int,ns.length<=63->∃g',run [] (cF N.length [.dat (.fix (ns.map .int))]) (.dat (.bl true)) g')(K:Frag)(H:Hp)(a:Addr)(ns: ~~~0)(hl:ns.length<=63)(hO:u9 ((cT K).map (·.1)) H)(hS:bH K H a (ns.map V.int)) :
  Ml K N 1 run [.ref a] H (λv _=>v=.bl true) λ_ _ _=>False:=by
 obtain⟨g',hg⟩:=hev ns hl;have fx:kI K ((cT K).map (·.1)) H a (ns.map V.int):=by
  rcases hS with h |h
  .
   rcases hO a with ⟨_,z⟩ |⟨na,z⟩
   . rcases h with h |⟨o,h⟩ <;> (rw[z]at h;symm)
   .
    refine .inl ⟨na,?_⟩;rcases h with h |h
    .
     rcases z with z |⟨o,xs,z⟩
     . rw[z]at h;symm
     . rw[z]at h;symm
    . exact h
  . exact .inr (.inr h)
 have rr:∀ns:List Int,aG K ((cT K).map (·.1)) H (ns.map D.int) (ns.map V.int):=λns=>by
  induction ns with
  |nil=>exact .nil
  |cons n ns ih=>exact .cons (.int n) ih
 have tb:∀p∈cT K,H p.1=some (.yj #[]):=λp hp=>by
  rcases hO p.1 with ⟨_,z⟩ |⟨z,_⟩
  . exact z
  . exact absurd (gN.mpr ⟨p,hp,rfl⟩) z
 refine⟨rfl,⟨K,H,(cT K).map (·.1),[],cT K⟩,cF N.length [.dat (.fix (ns.map .int))],g',[],(cT K).map (·.1),.dat (.bl true),rfl,?_,hg,λv σ' aC M' H' s' st R=>dQ R⟩
 refine⟨?_,AB,(λa ha=>nomatch ha),λi b l e1 e2=>?_,(λm hm=>.inr hm),(λb o e _ _=>e),(λm hm=>hm),(λm hm=>?_),(λb hb=>nomatch hb),(λp hp=>nomatch hp),(λp hp=>⟨#[],tb p hp,trivial,λpos cv e=>nomatch e⟩),(λp hp=>gN.mpr ⟨p,hp,rfl⟩),rfl⟩
 . exact Slots.append (.dat (.fix fx (rr ns)) .nil) (Slots.U7 _)
 .
  exfalso;unfold cF at e1;cases i with
  |zero=>simp at e1
  |succ i=>rw[eD ⋯]at e1;have:=rV e1;rw[yY]at this;exact absurd this.2 ⋯
 . obtain⟨p,hp,rfl⟩:=gN.mp hm;intro z;have z:H p.1=none:=z;rw[tb p hp]at z;cases z
end
noncomputable abbrev Fi.ct(fi:Fi):Ct:=⟨fi.N,aQ fi.st,true,fi.qual⟩
def vp(P:Pg)(fi:Fi)(fx:Fx):List Stmt:=mC (N9 P 99 (JK P 99 20 fi.ct) fi.ct) (JK P 99 20 fi.ct) fx.body (bC fi.st)
def Zc(P:Pg)(fi:Fi)(fx:Fx):Bool:=decide (fx.np=fi.ps.length)&&(decide (fx.n=fi.N.length)&&DY (Oa P 99 (JL P 99 20 fi.ct) fi.ct) (JL P 99 20 fi.ct) fx.body (bC fi.st))
theorem Ou(e:vp P fi fx=bC fi.st)(h:Zc P fi fx=true):HS P fi fx:=⟨dec (aj h).1,dec (aj (aj h).2).1,Eq.mp (congrArg (λl=>Bt P fi.ct l fx.body) e) (Bt.mk (aj (aj h).2).2)⟩
def Ib(P:Pg):List Fi->List Fx->Bool
 |fi::l,fx::r=>Zc P fi fx&&Ib P l r
 |_,_=>true
theorem Ic(e:List.zipWith (vp P) l r=l.map λfi=>bC fi.st)(h:Ib P l r=true)(f:Nat)(fi:Fi)(fx:Fx)(h1:l[f]?=some fi)(h2:r[f]?=some fx):HS P fi fx:=by
 induction l generalizing r f with
 |nil=>cases h1
 |cons a l ih=>cases r with
  |nil=>cases h2
  |cons b r=>
   cases f with
   |zero=>cases h1;cases h2;exact Ou (List.cons.inj e).1 (aj h).1
   |succ f=>exact ih (List.cons.inj e).2 (aj h).2 f h1 h2
theorem Ov(h:Ib P P.fn fns=true)(e:List.zipWith (vp P) P.fn fns=P.fn.map λfi=>bC fi.st):lJ P fns:=λf fi fx h1 h2=>Ic e h f fi fx h1 h2
theorem T4(h:us.length=1):∃a,us=[a]:=by
 cases us with
 |nil=>symm
 |cons a us=>cases us with
  |nil=>exact⟨a,rfl⟩
  |cons _ _=>symm
theorem T5(h:us.length=2):∃a b,us=[a,b]:=by
 cases us with
 |nil=>symm
 |cons a us=>obtain⟨b,rfl⟩:=T4 (AX h);exact⟨a,b,rfl⟩
theorem XD(h:us.length=3):∃a b c,us=[a,b,c]:=by
 cases us with
 |nil=>symm
 |cons a us=>obtain⟨b,c,rfl⟩:=T5 (AX h);exact⟨a,b,c,rfl⟩
def fY(st:Stmt):Fi:=match st with
 |.FunctionDef name args _ _ _ _ scope _ _ _=>⟨name,name,st,(args.args.map (·.arg))++scope.names.filterMap (λy=>if (y.2==.local||y.2==.cell)&&!(args.args.map (·.arg)).contains y.1 then some y.1 else none),args.args.map (·.arg)⟩
 |st=>⟨"", "",st,[],[]⟩
section
theorem Cb(ds:List D):∀i,vars i (ds.map R.dat)=[]:=by
 induction ds with
 |nil=>intro i;rfl
 |cons d ds ih=>intro i;exact ih (i+1)
theorem Cd(ds:List D):bW (ds.map R.dat) g1=some (ds.map .dat):=by
 induction ds with
 |nil=>rfl
 |cons d ds ih=>
  show (match bW (ds.map R.dat) g1 with |some gs=>some (Slot.dat d::gs) |none=>none)=_
  rw[ih];rfl
noncomputable def Ea:List D->G
 | []=>[]
 |d::l=>.dat d::Ea l
theorem Ie(ds:List D):Ea ds=ds.map .dat:=by
 induction ds with
 |nil=>rfl
 |cons d ds ih=>rw[Ea,ih];rfl
def dI(rn:Rn)(k:Nat)(fx:Fx)(ds:List D):Option R:=match rn.b [] k fx.body (cF fx.n (Ea ds))with
 |some (.rt r,gc)=>iW [] gc r
 |some (.nx,_)=>some (.dat .non)
 |_=>none
theorem jh(hl:ds.length=fx.np):aX rn fx k (ds.map .dat) g1=(dI rn k fx ds).map λr=>(r,g1):=by
 unfold aX dI;rw[Cb,Cd,Ie];simp only[eC,hl,List.map_nil];cases rn.b [] k fx.body (cF fx.n (ds.map .dat))with
 |none=>rfl
 |some p=>
  obtain⟨f,gc⟩:=p;cases f with
  |nx=>rfl
  |rt r=>simp only[back];cases iW [] gc r <;> rfl
  |bk=>rfl
  |ct=>rfl
noncomputable def gM(g m:G)(acc:List D):G:=g++(m++[.own acc])
theorem fS{g m:G}{acc:List D}{i:Nat}(h:i<g.length):(gM g m acc)[i]?=g[i]?:=by unfold gM;rw[eA h]
theorem gS{g m:G}{acc:List D}{i:Nat}(h:i<m.length):(gM g m acc)[g.length+i]?=m[i]?:=by unfold gM;rw[eD ⋯,t0,eA h]
theorem ki:(gM g m acc)[g.length+m.length]?=some (.own acc):=by unfold gM;rw[eD ⋯,t0,eD (dC _),Nat.sub_self];rfl
theorem eT(h:i<m.length):(gM g m acc).set (g.length+i) s=gM g (m.set i s) acc:=by unfold gM;rw[A5 _ _ ⋯,t0,List.set_append_left _ _ h]
theorem jE:(gM g m acc).set (g.length+m.length) (.own acc')=gM g m acc':=by unfold gM;rw[A5 _ _ ⋯,t0,A5 _ _ (dC _),Nat.sub_self];rfl
theorem vq:(gM g m acc).take g.length=g:=by unfold gM;simp
theorem JR:gC kk g=gM g (List.replicate kk .no) []:=rfl
theorem lN{α:Type}(jR:α->D)(f:α->D)(p:α->Bool)(st:α->G->G)(I:G->Prop)(hI:∀m,I m->m.length=kk)(cM:last=g.length+kk)(gX:∀d m,I m->I (st d m)) :
  ∀(items:List α) (m:G) (acc:List D),I m->acc.length+items.length<=lim->
  (∀d∈items,∀m acc,I m->T.set (jR d) (gM g m acc)=some (gM g (st d m) acc))->
  (∀d∈items,∀m acc,I m->DT rn bor k c (gM g (st d m) acc)=some (p d,gM g (st d m) acc))->
  (∀d∈items,p d=true->∀m acc,I m->gk rn bor k e (gM g (st d m) acc)=some (f d,gM g (st d m) acc))->
  ∃m',I m'/\Bd rn bor k T last c e (items.map jR) (gM g m acc)=some (gM g m' (acc++(items.filter p).map f))
 | [],m,acc,hm,_,_,_,_=>⟨m,hm,by simp[Bd]⟩
 |d::items,m,acc,hm,hl,hT,hi,he=>by
  rw[i3]at hl;have q1:=hT d bP m acc hm;have q2:=hi d bP m acc hm;have hm':=gX d m hm;have hk:=hI _ hm';rw[List.map_cons];unfold Bd;rw[q1];dsimp only;rw[q2];cases hp:p d with
  |false=>
   dsimp only;obtain⟨m',w1,w2⟩:=lN jR f p st I hI cM gX items (st d m) acc hm' ⋯ (λx hx=>hT x (a8 _ hx)) (λx hx=>hi x (a8 _ hx)) (λx hx=>he x (a8 _ hx))
   exact⟨m',w1,by rw[w2,List.filter_cons,hp];rfl⟩
  |true=>
   have q3:=he d bP hp m acc hm;dsimp only;rw[q3];dsimp only;have q4:(gM g (st d m) acc)[last]?=some (.own acc):=by rw[cM,<- hk];exact ki
   rw[q4];dsimp only;rw[eR ⋯];have q5:(gM g (st d m) acc).set last (.own (acc++[f d]))=gM g (st d m) (acc++[f d]):=by rw[cM,<- hk];exact jE
   rw[q5];obtain⟨m',w1,w2⟩:=lN jR f p st I hI cM gX items (st d m) (acc++[f d]) hm' (by rw[hZ,u8];lia) (λx hx=>hT x (a8 _ hx)) (λx hx=>hi x (a8 _ hx)) (λx hx=>he x (a8 _ hx))
   refine⟨m',w1,?_⟩;rw[w2,List.filter_cons,hp];simp
theorem Ig{α:Type}(jR:α->D)(f:α->D)(p:α->Bool)(st:α->G->G)(cM:last=g.length+kk)(gX:∀d m,m.length=kk->(st d m).length=kk) :
  ∀(items:List α) (m:G) (acc:List D),m.length=kk->acc.length+items.length<=lim->
  (∀d∈items,∀m acc,m.length=kk->T.set (jR d) (gM g m acc)=some (gM g (st d m) acc))->
  (∀d∈items,∀m acc,m.length=kk->DT rn bor k c (gM g (st d m) acc)=some (p d,gM g (st d m) acc))->
  (∀d∈items,p d=true->∀m acc,m.length=kk->gk rn bor k e (gM g (st d m) acc)=some (f d,gM g (st d m) acc))->
  ∃m',m'.length=kk/\Bd rn bor k T last c e (items.map jR) (gM g m acc)=some (gM g m' (acc++(items.filter p).map f)):=
 lN jR f p st (λm=>m.length=kk) (λ_ h=>h) cM gX
theorem nQ{α:Type}{kk nn:Nat}{T:Tg}{it:Ex}{c:Option Ex}{e:Ex}(items:List α)(jR:α->D)(f:α->D)(p:α->Bool)(st:α->G->G)(hw:jD rn bor k T.pF it g=some (items.map jR,g1))(hn:nn=g1.length)(hb:(T.ix.any λi=>decide (i∈bor))=false)(hl:items.length<=lim)(gX:∀d m,m.length=kk->(st d m).length=kk)
  (hT:∀d∈items,∀m acc,m.length=kk->T.set (jR d) (gM g1 m acc)=some (gM g1 (st d m) acc))
  (hi:∀d∈items,∀m acc,m.length=kk->DT rn bor k c (gM g1 (st d m) acc)=some (p d,gM g1 (st d m) acc))
  (he:∀d∈items,p d=true->∀m acc,m.length=kk->gk rn bor k e (gM g1 (st d m) acc)=some (f d,gM g1 (st d m) acc)) :
  dm rn bor k nn kk T it c e g=some ((items.filter p).map f,g1):=by
 subst hn;obtain⟨m',w1,w2⟩:=Ig jR f p st rfl gX items (List.replicate kk .no) [] ⋯ (by simpa using hl) hT hi he
 unfold dm;rw[hw];dsimp only;rw[eR ⟨rfl,hb⟩,JR,w2];dsimp only;have:(gM g1 m' ([]++(items.filter p).map f))[g1.length+kk]?=some (.own ([]++(items.filter p).map f)):=by rw[<- w1];exact ki
 rw[this];rw[vq,BE]
theorem Ow{j kk:Nat}{d:D}{m:G}{acc:List D}(hj:g.length<=j)(hk:j - g.length<m.length):(Tg.nm j).set d (gM g m acc)=some (gM g (m.set (j - g.length) (.dat d)) acc):=by
 show some ((gM g m acc).set j (.dat d))=_;have:=eT (g:=g) (acc:=acc) (s:=.dat d) hk;rw[show g.length+(j - g.length)=j by lia]at this
 rw[this]
def Ox(g:G)(j:Nat)(d:D)(G':G):Prop:=(∀i,i<g.length->G'[i]?=g[i]?)/\G'[j]?=some (.dat d)
theorem T6{α:Type}{kk nn j:Nat}{it:Ex}{c:Option Ex}{e:Ex}(items:List α)(jR:α->D)(p:α->Bool)(f:α->D)(hw:jD rn bor k false it g=some (items.map jR,g1))(hn:nn=g1.length)(hj1:g1.length<=j)(hj2:j<g1.length+kk)(hb:j∉bor)(hl:items.length<=lim)
  (hi:∀a∈items,∀G',Ox g1 j (jR a) G'->DT rn bor k c G'=some (p a,G')) (he:∀a∈items,p a=true->∀G',Ox g1 j (jR a) G'->gk rn bor k e G'=some (f a,G')) :
  dm rn bor k nn kk (.nm j) it c e g=some ((items.filter p).map f,g1):=by
 have sees:∀(a:α) (m:G) (acc:List D),m.length=kk->Ox g1 j (jR a) (gM g1 (m.set (j - g1.length) (.dat (jR a))) acc):=λa m acc hm=>by
  refine⟨λi hi=>fS hi,?_⟩
  have:=gS (g:=g1) (m:=m.set (j - g1.length) (.dat (jR a))) (acc:=acc) (i:=j - g1.length) (by simp;lia)
  rw[show g1.length+(j - g1.length)=j by lia]at this
  rw[this,fR ⋯]
 refine nQ items jR f p (λa m=>m.set (j - g1.length) (.dat (jR a))) hw hn (by simp[Tg.ix,hb]) hl (λd m hm=>by simpa using hm) (λa _ m acc hm=>Ow (kk:=kk) hj1 ⋯) (λa ha m acc hm=>hi a ha _ (sees a m acc hm)) λa ha hp m acc hm=>he a ha hp _ (sees a m acc hm)
theorem filter_all{α:Type}(l:List α):l.filter (λ_=>true)=l:=List.filter_eq_self.mpr λ_ _=>rfl
def vA(g:G)(j1 j2:Nat)(d1 d2:D)(G':G):Prop:=(∀i,i<g.length->G'[i]?=g[i]?)/\G'[j1]?=some (.dat d1)/\G'[j2]?=some (.dat d2)
theorem JT{α:Type}(items:List α)(fZ gU:α->D)(p:α->Bool)(f:α->D)(hw:jD rn bor k true it g=some (items.map λa=>.tup [fZ a,gU a],g1))(hn:nn=g1.length)(hj1:g1.length<=j1)(T7:j1<g1.length+kk)(hj2:g1.length<=j2)(T8:j2<g1.length+kk)(fJ:j1≠j2)(hb1:j1∉bor)(hb2:j2∉bor)(hl:items.length<=lim)
  (hi:∀a∈items,∀G',vA g1 j1 j2 (fZ a) (gU a) G'->DT rn bor k c G'=some (p a,G')) (he:∀a∈items,p a=true->∀G',vA g1 j1 j2 (fZ a) (gU a) G'->gk rn bor k e G'=some (f a,G')) :
  dm rn bor k nn kk (.tp [j1,j2]) it c e g=some ((items.filter p).map f,g1):=by
 have sees:∀(a:α) (m:G) (acc:List D),m.length=kk->vA g1 j1 j2 (fZ a) (gU a) (gM g1 ((m.set (j1 - g1.length) (.dat (fZ a))).set (j2 - g1.length) (.dat (gU a))) acc):=λa m acc hm=>by
  refine⟨λi hi=>fS hi,?_,?_⟩
  .
   have:=gS (g:=g1) (m:=(m.set (j1 - g1.length) (.dat (fZ a))).set (j2 - g1.length) (.dat (gU a))) (acc:=acc) (i:=j1 - g1.length) (by simp;lia)
   rw[show g1.length+(j1 - g1.length)=j1 by lia]at this
   rw[this,dL ⋯,fR ⋯]
  .
   have:=gS (g:=g1) (m:=(m.set (j1 - g1.length) (.dat (fZ a))).set (j2 - g1.length) (.dat (gU a))) (acc:=acc) (i:=j2 - g1.length) (by simp;lia)
   rw[show g1.length+(j2 - g1.length)=j2 by lia]at this
   rw[this,fR (by simp;lia)]
 refine nQ items (λa=>.tup [fZ a,gU a]) f p (λa m=>(m.set (j1 - g1.length) (.dat (fZ a))).set (j2 - g1.length) (.dat (gU a))) hw hn (by simp[Tg.ix,hb1,hb2]) hl (λd m hm=>by simpa using hm) (λa _ m acc hm=>?_) (λa ha m acc hm=>hi a ha _ (sees a m acc hm)) λa ha hp m acc hm=>he a ha hp _ (sees a m acc hm)
 have q1:=eT (g:=g1) (m:=m) (acc:=acc) (i:=j1 - g1.length) (s:=.dat (fZ a)) ⋯;have q2:=eT (g:=g1) (m:=m.set (j1 - g1.length) (.dat (fZ a))) (acc:=acc) (i:=j2 - g1.length) (s:=.dat (gU a)) (by simp;lia)
 rw[show g1.length+(j1 - g1.length)=j1 by lia]at q1
 rw[show g1.length+(j2 - g1.length)=j2 by lia]at q2
 show some (((gM g1 m acc).set j1 (.dat (fZ a))).set j2 (.dat (gU a)))=_;rw[q1,q2]
theorem Oz{α:Type}(items:List α)(fZ gU:α->D)(f:α->D)(hw:jD rn bor k true it g=some (items.map λa=>.tup [fZ a,gU a],g1))(hn:nn=g1.length)(hj1:g1.length<=j1)(T7:j1<g1.length+kk)(hj2:g1.length<=j2)(T8:j2<g1.length+kk)(fJ:j1≠j2)(hb1:j1∉bor)(hb2:j2∉bor)(hl:items.length<=lim)
  (he:∀a∈items,∀G',vA g1 j1 j2 (fZ a) (gU a) G'->gk rn bor k e G'=some (f a,G')):dm rn bor k nn kk (.tp [j1,j2]) it none e g=some (items.map f,g1):=by
 have:=JT (c:=none) items fZ gU (λ_=>true) f hw hn hj1 T7 hj2 T8 fJ hb1 hb2 hl (λ_ _ _ _=>rfl) λa ha _ G' hG=>he a ha G' hG
 rw[filter_all]at this;exact this
theorem vB(I:Nat->G->Prop)(step:∀m g,I (m+1) g->∃g1 g2,c g=some (true,g1)/\b g1=some (.nx,g2)/\I m g2)(fin:∀g,I 0 g->c g=some (false,g)) :
  ∀m N g,m<N->I m g->∃g',I 0 g'/\rA c b N g=some (.nx,g')
 | 0,N+1,g,_,h=>⟨g,h,by unfold rA;rw[fin g h]⟩
 |m+1,N+1,g,hN,h=>by
  obtain⟨g1,g2,q1,q2,q3⟩:=step m g h;obtain⟨g',w1,w2⟩:=vB I step fin m N g2 ⋯ q3;exact⟨g',w1,by unfold rA;rw[q1];dsimp only;rw[q2];exact w2⟩
theorem d7{α:Type}(jR:α->D)(I:List α->G->Prop)(step:∀a l g,I (a::l) g->∃g1 g2,T.set (jR a) g=some g1/\b g1=some (.nx,g2)/\I l g2):∀l g,I l g->∃g',I [] g'/\cP T b (l.map jR) g=some (.nx,g')
 | [],g,h=>⟨g,h,rfl⟩
 |a::l,g,h=>by
  obtain⟨g1,g2,q1,q2,q3⟩:=step a l g h;obtain⟨g',w1,w2⟩:=d7 jR I step l g2 q3;exact⟨g',w1,by rw[List.map_cons];unfold cP;rw[q1];dsimp only;rw[q2];exact w2⟩
end
theorem ints_map(l: ~~~0):cU (l.map .int)=some l:=by
 induction l with
 |nil=>rfl
 |cons a l ih=>simp[cU,ih]
theorem Ih(l:List Bool):qF (l.map .bl)=some l:=by
 induction l with
 |nil=>rfl
 |cons a l ih=>simp[qF,ih]
theorem Ce(l: ~~~5)(h:∀x∈l,x≠[]):lA (l.map λx=>.tup (x.map .int))=some l:=by
 induction l with
 |nil=>rfl
 |cons a l ih=>
  have ha:=h a bP;cases a with
  |nil=>exact absurd rfl ha
  |cons x a=>
   have:=ints_map (x::a);simp only[List.map_cons]at this ⊢
   simp only[lA,this,ih λy hy=>h y (a8 _ hy)]
theorem xT(a: ~~~0)(l: ~~~5):cU ((a::l).map λ(x: ~~~0)=>.tup (x.map .int))=none:=rfl
theorem Cg(l:List D):nI .len [.tup l]=some (.dat (.int l.length)):=rfl
theorem Ci(l:List D):nI .len [.lst l]=some (.dat (.int l.length)):=rfl
theorem lO(l:List D):nI .len [.fix l]=some (.dat (.int l.length)):=rfl
theorem xU(l:List D):nI .list [.tup l]=some (.new l):=rfl
theorem xV(l:List D):nI .list [.lst l]=some (.new l):=rfl
theorem uw(l:List D):nI .tuple [.lst l]=some (.dat (.tup l)):=rfl
theorem ux(l:List D):nI .tuple [.tup l]=some (.dat (.tup l)):=rfl
theorem Ii(i j:Int):nI .max [.int i,.int j]=some (.dat (.int (if j > i then j else i))):=rfl
theorem Ij(i j:Int):nI .min [.int i,.int j]=some (.dat (.int (if j<i then j else i))):=rfl
theorem OD(l:List Bool):nI .all [.lst (l.map .bl)]=some (.dat (.bl (l.all id))):=by simp only[nI,S7,Ih]
theorem lP(l: ~~~5)(hn:∀x∈l,x≠[])(h:l.length<64):nI .sorted [.lst (l.map λx=>.tup (x.map .int))]=some (.new ((bT fC l).map λx=>.tup (x.map .int))):=by
 cases l with
 |nil=>rfl
 |cons a l=>have e:=Ce (a::l) hn;simp only[nI,S7,dR,xT,e,h,if_true]
theorem d8:∀a b:List Int,cg (a.map .int) (b.map .int)=decide (a=b)
 | [],[]=>rfl
 | [],_::_=>rfl
 |_::_,[]=>rfl
 |x::a,y::b=>by
  simp only[List.map_cons,cg,d8 a b,List.cons.injEq,Bool.decide_and];rfl
theorem jj(a: ~~~0):gG (a.map .int)=true:=by
 induction a with
 |nil=>rfl
 |cons x a ih=>simp[gG,iQ,ih]
theorem jk(a: ~~~0):deps (a.map .int)=0:=by
 induction a with
 |nil=>rfl
 |cons x a ih=>simp[deps,dep,ih]
theorem nR(a b: ~~~0):dH (.tup (a.map .int)) (.tup (b.map .int))=true:=by simp[dH,iQ,jj,dep,jk]
theorem lQ(a b: ~~~0):dH (.lst (a.map .int)) (.lst (b.map .int))=true:=by simp[dH,iQ,jj,dep,jk]
theorem OJ(a b: ~~~0):cO .Eq (.tup (a.map .int)) (.tup (b.map .int))=some (decide (a=b)):=by simp only[cO,nR,if_true,bL,d8]
theorem O1(a b: ~~~0):cO .NotEq (.tup (a.map .int)) (.tup (b.map .int))=some (!decide (a=b)):=by simp only[cO,nR,if_true,bL,d8]
theorem O2(a b: ~~~0):cO .Eq (.lst (a.map .int)) (.lst (b.map .int))=some (decide (a=b)):=by simp only[cO,lQ,if_true,bL,d8]
theorem Cj(a b: ~~~0):cO .NotEq (.lst (a.map .int)) (.lst (b.map .int))=some (!decide (a=b)):=by simp only[cO,lQ,if_true,bL,d8]
theorem O4(a b:Int):cO .Eq (.int a) (.int b)=some (decide (a=b)):=rfl
theorem Cp(a b:Int):cO .NotEq (.int a) (.int b)=some (!decide (a=b)):=rfl
theorem O5(a b:Int):cO .Lt (.int a) (.int b)=some (decide (a<b)):=rfl
theorem O6(a b:Int):cO .LtE (.int a) (.int b)=some (decide (a<=b)):=rfl
theorem O7(a b:Int):cO .Gt (.int a) (.int b)=some (decide (a > b)):=rfl
theorem O8(a b:Int):cO .GtE (.int a) (.int b)=some (decide (a ≥ b)):=rfl
theorem Ik(a b:Int):jY .Add (.int a) (.int b)=some (.dat (.int (a+b))):=rfl
theorem Il(a b:Int):jY .Sub (.int a) (.int b)=some (.dat (.int (a - b))):=rfl
theorem XF(l:List D)(i:Int):Ba (.tup l) (.int i)=L2.dD l i:=rfl
theorem XH(l:List D)(i:Int):Ba (.lst l) (.int i)=L2.dD l i:=rfl
theorem XJ(l:List D)(i:Int):Ba (.fix l) (.int i)=L2.dD l i:=rfl
theorem vC{α:Type}(l:List α)(i:Nat)(h:i<l.length):L2.dD l (i:Int)=some l[i]:=by unfold L2.dD L2.pZ;simp[h]
theorem rQ(l: ~~~0)(i:Nat)(h:i<l.length):L2.dD (l.map D.int) (i:Int)=some (.int l[i]):=by
 rw[vC _ _ (by simpa using h)]
 simp
theorem is_tup(l:List D):eY (oV (.tup l)) "tuple"=true:=rfl
theorem O9(i:Int):eY (oV (.int i)) "int"=true:=rfl
theorem Cq(i:Int):eY (oV (.int i)) "bool"=false:=rfl
theorem Cr(m:Nat):dX 0 m=((List.range m).map λ(k:Nat)=>(k:Int)).map .int:=by simp[dX]
theorem aH(m:Nat)(h:m<=1000):m<=lim:=hU h ⋯
theorem d9(i:Int)(h:0<=i/\i<=1000):Hf i=true:=by unfold Hf;simp only[eM];lia
section
theorem iH(h:fx.np=1):aX rn fx k [.dat d] g1=(dI rn k fx [d]).map λr=>(r,g1):=jh (ds:=[d]) h.symm
theorem eU(h:fx.np=2):aX rn fx k [.dat d,.dat e] g1=(dI rn k fx [d,e]).map λr=>(r,g1):=jh (ds:=[d,e]) h.symm
theorem vD(h:fx.np=3):aX rn fx k [.dat d,.dat e,.dat f] g1=(dI rn k fx [d,e,f]).map λr=>(r,g1):=jh (ds:=[d,e,f]) h.symm
end
structure rR(fns:List Fx)(rn:Nat->Rn):Prop where
 e:∀(n:Nat) (bor:List Nat) (k:Nat) (x:Ex) (g:G),(rn (n+1)).e bor k x g=aU (rn n) bor k fns x g
 t:∀(n:Nat) (bor:List Nat) (k:Nat) (x:Ex) (g:G),(rn (n+1)).t bor k x g=stepT (rn n) bor k x g
 b:∀(n:Nat) (bor:List Nat) (k:Nat) (x:List Sm) (g:G),(rn (n+1)).b bor k x g=bJ (rn n) bor k x g
 x:∀(n:Nat) (bor:List Nat) (k:Nat) (x:Ex) (g:G),(rn (n+1)).x bor k x g=Be (rn n) bor k fns x g
 xt:∀(n:Nat) (bor:List Nat) (k:Nat) (x:Ex) (g:G),(rn (n+1)).xt bor k x g=uc (rn n) bor k x g
 xb:∀(n:Nat) (bor:List Nat) (k:Nat) (x:List Sm) (g:G),(rn (n+1)).xb bor k x g=ud (rn n) bor k x g
theorem Im(fns:List Fx):rR fns (run fns):=⟨λ_ _ _ _ _=>rfl,λ_ _ _ _ _=>rfl,λ_ _ _ _ _=>rfl,λ_ _ _ _ _=>rfl,λ_ _ _ _ _=>rfl,λ_ _ _ _ _=>rfl⟩
abbrev evZ:=And.intro @is_tup (And.intro @O9 (And.intro @Cq (And.intro @Cg (And.intro @Ci (And.intro @xU (And.intro @xV (And.intro @uw (And.intro @ux (And.intro @Ii (And.intro @Ij (And.intro @OD (And.intro @OJ (And.intro @O1 (And.intro @O2 (And.intro @Cj (And.intro @O4 (And.intro @Cp (And.intro @O5 (And.intro @O6 (And.intro @O7 (And.intro @O8 (And.intro @Ik (And.intro @Il (And.intro @XF (And.intro @XH @XJ)))))))))))))))))))))))))
abbrev XM{fns rn}(U:rR fns rn):=And.intro U.e (And.intro U.t (And.intro U.b (And.intro U.x (And.intro U.xt U.xb))))
end Ev
set_option hygiene false in
local macro_rules | `(tactic|simp! [$u:term,$ls,*])=>`(tactic|simp[-List.map_map,-List.map_cons,-List.map_nil,Ev.XM $u,Ev.evZ,Ev.Be,Ev.uc,Ev.Nt,Ev.ud,Ev.xArgs,Ev.Xn,Ev.bJ,Ev.aF,Ev.aU,Ev.stepT,Ev.argsR,Ev.jC,Ev.gk,Ev.toD,Ev.norm,Ev.pk,Ev.wG,Ev.cF,Ev.iW,Ev.Ea,Ev.Bb,Ev.S8,Ev.rz,Ev.Bc,Ev.Nr,Ev.Gq,$ls,*])
set_option hygiene false in
local macro_rules | `(~~~$x)=>`(Ev.D.tup (List.map Ev.D.int $x))
set_option hygiene false in
local macro_rules|`(∅)=>`((λx=>~~~x))
set_option hygiene false in
local macro_rules|`(~~~5)=>`(List (List Int))
local macro_rules|`(~~~0)=>`(List Int)
namespace Ev
noncomputable def bX:Fx:=⟨2,4,[(.ite (.ix ⇑0 ↥1) [(.set 2 (.bin .Mod (.ix ⇑0 ↥0) ⇑1)),(.item 0 ↥0 (.bin .FloorDiv (.ix ⇑0 ↥0) ⇑1)),(.ret ⇑2)] []),(.item 0 ↥0 (.bin .Mod (.bin .Add (.bin .Mult (.ix ⇑0 ↥0) ↥48271) ↥29) ↥2147483647)),(.set 3 (.bin .Mod (.bin .Add (.bin .Add (.bin .Mult (.ix ⇑0 ↥0) (.ix ⇑0 ↥0)) (.bin .Mult ↥39373 (.ix ⇑0 ↥0))) ↥7) ↥2147483629)),(.set 3 (.bin .Mod (.bin .Add (.bin .Mult ⇑3 ⇑3) (.bin .Mult ↥16807 ⇑3)) ↥2147483587)),(.ret (.bin .Mod (.bin .FloorDiv ⇑3 ↥8) ⇑1))]⟩
noncomputable def jF:Fx:=⟨2,2,[(.ite (.cmp .Lt ⇑1 (.blt .len [⇑0])) [(.ret (.ix ⇑0 ⇑1))] []),(.ret ↥0)]⟩
noncomputable def jl(ci:Nat):Fx:=⟨2,3,[(.set 2 (.call ci [⇑0,⇑1])),(.ite (.cmp .GtE ⇑2 (.bin .Pow ↥10 ↥18)) [(.ret (.lst [(.bin .Sub ⇑2 (.bin .Pow ↥10 ↥18)),(.val (.bl true))]))] []),(.ret (.lst [(.bin .Mod ⇑2 ↥2147483647),(.val (.bl false))]))]⟩
def Tn(m:Nat)(t: ~~~0):Prop:=iC t=(List.range m).map λ(k:Nat)=>(k:Int)
theorem Tn.length(h:Tn m t):t.length=m:=by have:=(cj t).length_eq;rw[h]at this;simpa using this.symm
theorem Tn.mem(h:Tn m t):x∈t ↔ 0<=x/\x<m:=by
 rw[<- (cj t).mem_iff,h,gN];constructor
 . rintro⟨k,hk,rfl⟩;have:=tJ.mp hk;lia
 . rintro⟨h1,h2⟩;exact⟨x.toNat,tJ.mpr ⋯,by lia⟩
theorem Tn.of(h:t.Perm ((List.range m).map λ(k:Nat)=>(k:Int))):Tn m t:=by refine (lg h.symm ?_).symm;rw[List.pairwise_map];exact List.pairwise_lt_range.imp λh=>by lia
theorem Tn.perm(h:Tn m t):t.Perm ((List.range m).map λ(k:Nat)=>(k:Int)):=by rw[<- h];exact (cj t).symm
noncomputable def gt(t: ~~~0)(i:Int):Int:=t.getD i.toNat 0
theorem Cv{t: ~~~0}{i:Int}(h:0<=i/\i<t.length):L2.dD (t.map D.int) i=some (.int (gt t i)):=by
 obtain⟨n,rfl⟩:∃n:Nat,i=n:=⟨i.toNat,by lia⟩
 rw[rQ t n ⋯];simp[gt,(by lia:n<t.length)]
noncomputable def nums(m:Nat): ~~~0:=(List.range m).map λ(k:Nat)=>(k:Int)
theorem Cw(m:Nat):(nums m).length=m:=by simp[nums]
theorem Tn.Cy{m:Nat}{t: ~~~0}(h:Tn m t){i:Int}(hi:0<=i/\i<m):0<=gt t i/\gt t i<m:=by
 refine h.mem.mp ?_;have hl:=h.length;have:i.toNat<t.length:=by lia
 unfold gt;rw[sR,i7 this];exact List.getElem_mem _
theorem Tn.nodup(h:Tn m t):t.Nodup:=by refine (h.perm.nodup_iff).mpr ?_;rw[List.nodup_iff_pairwise_ne,List.pairwise_map];exact List.nodup_range.imp λh=>by lia
theorem Tn.inj{m:Nat}{t: ~~~0}(h:Tn m t){i j:Int}(hi:0<=i/\i<m)(hj:0<=j/\j<m)(e:gt t i=gt t j):i=j:=by
 have hl:=h.length;have h1:i.toNat<t.length:=by lia
 have h2:j.toNat<t.length:=by lia
 unfold gt at e;rw[sR,i7 h1,sR,i7 h2]at e;have:=(List.getElem_inj h.nodup).mp (show t[i.toNat]=t[j.toNat]from e)
 lia
theorem ao{rn:Rn}{bor:List Nat}{k:Nat}{st:Sm}{aE:List Sm}{g g1:G}(h:aF rn bor k st g=some (.nx,g1)):bJ rn bor k (st::aE) g=bJ rn bor k aE g1:=by
 conv=>lhs;unfold bJ
 rw[h]
noncomputable abbrev St(s:Int)(fl:Bool):Slot:=.own [.int s,.bl fl]
theorem pL(a b:Int)(h:0<b):jY .Mod (.int a) (.int b)=some (.dat (.int (a % b))):=by simp[jY,jf,h]
theorem vE(a b:Int)(h:0<b/\b<18446744073709551616):jY .FloorDiv (.int a) (.int b)=some (.dat (.int (a / b))):=by simp[jY,jf,h]
theorem Io(a b:Int)(h:0<b/\b<1073741824):jY .FloorDiv (.int a) (.int b)=some (.dat (.int (a / b))):=vE a b ⋯
theorem iI(a b:Int)(h:(-(2 ^ 64)<a/\a<2 ^ 64)\/(-(2 ^ 64)<b/\b<2 ^ 64)):jY .Mult (.int a) (.int b)=some (.dat (.int (a * b))):=by
 have:G8 a b=true:=by unfold G8;simp only[y7,eM,mN];exact h
 simp[jY,G9,this]
section
variable{ti mi:Nat}(U:rR fns rn)(hT:fns[ti]?=some bX)
include U
theorem Pa(s:Int)(fl:Bool)(m:Int)(hm:0<m/\m<18446744073709551616):∃r s' s2 s3,0<=r/\r<m/\(rn (n+20)).b [0] k bX.body [St s fl,‹m›,.no,.no]=some (.rt ‹r›,[St s' fl,‹m›,s2,s3]):=by
 have i0:L2.dD [D.int s,D.bl fl] 0=some (.int s):=rfl;have i1:L2.dD [D.int s,D.bl fl] 1=some (.bl fl):=rfl;have x0':L2.pZ 2 0=some 0:=rfl;cases fl with
 |true=>refine⟨s % m,s / m,.dat (.int (s % m)),.no,Int.emod_nonneg _ ⋯,Int.emod_lt_of_pos _ hm.1,?_⟩;unfold bX;simp! [U,i0,i1,x0',pL _ _ hm.1,vE _ _ hm]
 |false=>generalize hs1:(s * 48271+29) % 2147483647=s1;have j0:L2.dD [D.int s1,D.bl false] 0=some (.int s1):=rfl;generalize hs2:(s1 * s1+39373 * s1+7) % 2147483629=s2;generalize hs3:(s2 * s2+16807 * s2) % 2147483587=s3;refine⟨s3 / 8 % m,s1,.no,‹s3›,Int.emod_nonneg _ ⋯,Int.emod_lt_of_pos _ hm.1,?_⟩;unfold bX;simp! [U,i0,i1,x0',pL,iI s 48271 (.inr ⋯),hs1,j0,iI s1 s1 (.inl ⋯),iI 39373 s1 (.inl ⋯),hs2,iI s2 s2 (.inl ⋯),iI 16807 s2 (.inl ⋯),hs3,Io _ _ (show (0:Int)<8/\(8:Int)<1073741824 by decide),hm.1]
theorem Cz{i:Nat}{s:Int}{fl:Bool}{m:Int}(hi:g[i]?=some (St s fl))(hm:0<m/\m<18446744073709551616):∃r s',0<=r/\r<m/\aX (rn (n+20)) bX k [.var i,‹m›] g=some (‹r›,g.set i (St s' fl)):=by obtain⟨r,s',s2,s3,h1,h2,h⟩:=Pa U s fl m hm;refine⟨r,s',h1,h2,?_⟩;have hp:cF bX.n [St s fl,‹m›]=[St s fl,‹m›,.no,.no]:=rfl;unfold aX;simp only[vars,bW,hi,List.map_cons,List.map_nil];rw[hp,h];rfl
theorem cA{i:Nat}{s:Int}{fl:Bool}{m:Int}(hi:g[i]?=some (St s fl))(hm:0<m/\m<1000):∃r s',0<=r/\r<m/\aX (rn (n+20)) bX k [.var i,‹m›] g=some (‹r›,g.set i (St s' fl)):=Cz U hi ⋯
omit U in
theorem CG(a: ~~~0):cO .NotEq (.lst (a.map .int)) (.lst [])=some (!decide (a=[])):=Cj a []
omit U in
theorem Pb(h:i<l):L2.pZ l (i:Int)=some i:=by unfold L2.pZ;rw[eR ⋯,eR ⋯];simp
omit U in
theorem nU:∀(l: ~~~0) (j:Nat),(l.map D.int).eraseIdx j=(l.eraseIdx j).map .int
 | [],_=>rfl
 |_::_,0=>rfl
 |a::l,j+1=>by simp[nU l j]
omit U in
theorem rS:∀(l: ~~~0) (j:Nat) (h:j<l.length),([l[j]]++l.eraseIdx j).Perm l
 |a::l,0,_=>nV _
 |a::l,j+1,h=>(List.Perm.swap a _ _).trans ((rS l j (by simpa using h)).cons a)
end
section
variable{ci:Nat}(U:rR fns rn)(hC:fns[ci]?=some jF)
include U hC
omit U hC in
theorem oq:jY .Pow (.int 10) (.int 18)=some (.dat (.int (10 ^ 18))):=by rfl
theorem CJ(ns: ~~~0)(hl:ns.length<=1000)(j:Nat):∃(s:Int) (fl:Bool),dI (rn (n+40)) (k+1) (jl ci) [.fix (ns.map .int),.int j]=some (.new [.int s,.bl fl]):=by
 obtain⟨v,q⟩:∃v:Int,∀n,dI (rn (n+20)) k jF [.fix (ns.map .int),.int j]=some ‹v›:=by
  by_cases h:j<ns.length
  .
   refine⟨ns[j],λn=>?_⟩
   have h':(j:Int)<ns.length:=by lia
   have:=rQ ns j h;unfold dI jF;simp! [U,lO,h',this]
  .
   refine⟨0,λn=>?_⟩
   have h' : ¬ (j:Int)<ns.length:=by lia
   unfold dI jF;simp! [U,lO,h']
 by_cases hv:(1000000000000000000:Int)<=v
 . refine⟨v - 1000000000000000000,true,?_⟩;unfold dI jl;simp! [U,hC,eU (fx:=jF) rfl,q,oq,hv,aH 2 ⋯]
 . refine⟨v % 2147483647,false,?_⟩;unfold dI jl;simp! [U,hC,eU (fx:=jF) rfl,q,oq,hv,aH 2 ⋯,pL]
end
noncomputable def c7(i:Nat):Fx:=⟨2,2,[(.ite (.Ay ⇑1 ["tuple", "list"]) [(.ite (.or [(.cmp .NotEq (.vj ⇑0 "tuple") (.vj ⇑1 "tuple")),(.cmp .NotEq (.vj ⇑0 "list") (.vj ⇑1 "list"))]) [(.ret (.val (.bl false)))] []),(.ite (.cmp .NotEq (.blt .len [⇑0]) (.blt .len [⇑1])) [(.ret (.val (.bl false)))] []),(.ret (.blt .all [(.comp 2 3 (.tp [3,4]) (.zip ⇑0 ⇑1) none (.call i [⇑3,⇑4]))]))] []),(.ret (.and [(.cmp .Eq ⇑0 ⇑1),(.cmp .Eq (.vj ⇑0 "bool") (.vj ⇑1 "bool"))]))]⟩
theorem vF{l:List D}{r:Int}(h:0<=r/\r<l.length):∃x∈l,L2.dD l r=some x:=by
 obtain⟨j,rfl⟩:∃j:Nat,r=j:=⟨r.toNat,by lia⟩
 have hj:j<l.length:=by lia
 exact⟨l[j],List.getElem_mem hj,vC l j hj⟩
theorem pM(l m:List D)(h:l.length+m.length<=1000):jY .Add (.lst l) (.lst m)=some (.new (l++m)):=by
 show (if l.length+m.length<=lim then _ else _)=_
 rw[eR (aH _ h)]
noncomputable def Sd:Nat->D->Prop
 |_,.int _=>True
 |_,.bl _=>True
 |_,.str _=>True
 |_,.non=>True
 |c+1,.tup l=>l.length<=1000/\∀x∈l,Sd c x
 |c+1,.lst l=>l.length<=1000/\∀x∈l,Sd c x
 |_,_=>False
theorem rT:∀l:List D,pA l l=l.map λa=>D.tup [a,a]
 | []=>rfl
 |a::l=>by
  show D.tup [a,a]::pA l l=_;rw[rT l];rfl
section
variable(U:rR fns rn)
include U
theorem rW(hS:fns[i]?=some (c7 i))(ih:∀n k d,Sd c d->dI (rn (n+20 * c+20)) (k+c) (c7 i) [d,d]=some (.dat (.bl true)))(hw:∀n k,jD (rn (n+2)) [] k true (.zip ⇑0 ⇑1) [.dat d,.dat d]=some (pA l l,[.dat d,.dat d]))(hl:l.length<=1000)(h:∀x∈l,Sd c x):∀n k,dm (rn (n+20 * c+23)) [] (k+c+1) 2 3 (.tp [3,4]) (.zip ⇑0 ⇑1) none (.call i [⇑3,⇑4]) [.dat d,.dat d]=some ((l.map λ_=>true).map .bl,[.dat d,.dat d]):=λn k=>by
 rw[List.map_map];exact Oz l id id _ (by rw[hw (n+20 * c+21)];rw[rT];rfl) rfl ⋯ ⋯ ⋯ ⋯ ⋯ ⋯ ⋯ (aH _ hl) λa ha G' hG=>by
  have h1:=hG.2.1;have h2:=hG.2.2;have q:=ih (n+2) k a (h a ha);rw[show n+2+20 * c+20=n+20 * c+22 by lia]at q
  simp! [U,h1,h2,hS,eU (fx:=c7 i) rfl,q]
theorem eo(d:D)(h:Sd 0 d):dI (rn (n+20)) k (c7 i) [d,d]=some (.dat (.bl true)):=by
 cases d with
 |int j=>unfold dI c7;simp! [U,oV,eY,cO,dH,bL,iQ,dep]
 |bl j=>unfold dI c7;simp! [U,oV,eY,cO,dH,bL,iQ,dep]
 |str j=>unfold dI c7;simp! [U,oV,eY,cO,dH,bL,iQ,dep]
 |non=>unfold dI c7;simp! [U,oV,eY,cO,dH,bL,iQ,dep]
 |_=>exact h.elim
theorem vG(hS:fns[i]?=some (c7 i)):∀(c n k:Nat) (d:D),Sd c d->dI (rn (n+20 * c+20)) (k+c) (c7 i) [d,d]=some (.dat (.bl true))
 | 0,n,k,d,h=>eo U d h
 |c+1,n,k,d,h=>by
  have ih:=vG hS c;rw[show n+20 * (c+1)+20=n+20 * c+40 by lia,show k+(c+1)=k+c+1 by lia]
  cases d with
  |int j=>exact eo U _ trivial
  |bl j=>exact eo U _ trivial
  |str j=>exact eo U _ trivial
  |non=>exact eo U _ trivial
  |tup l=>
   have w:=rW U hS ih (d:=.tup l) (λn k=>by simp! [U,jD,dR]) h.1 h.2
   have w':=w (n+13) k;rw[show n+13+20 * c+23=n+20 * c+36 by lia]at w'
   unfold dI c7;simp! [U,oV,eY,cO,dH,bL,iQ,dep,w']
  |lst l=>
   have w:=rW U hS ih (d:=.lst l) (λn k=>by simp! [U,jD,dR]) h.1 h.2
   have w':=w (n+13) k;rw[show n+13+20 * c+23=n+20 * c+36 by lia]at w'
   unfold dI c7;simp! [U,oV,eY,cO,dH,bL,iQ,dep,w']
  |_=>exact h.elim
end
end Ev
namespace CK
abbrev bu:=List Nat
def brk(l:List bu):bu:=40::(l.flatten++[41])
section
variable(bw:List bu->Bool)
inductive Code:bu->Prop
 |mk (l:List bu):(∀b,b∈l->Code b)->bw l=true->Code (brk l)
def eZ(st:List (List bu))(c:Nat):Option (List (List bu)):=
 if c=40 then some ([]::st)
 else if c=41 then match st with
  |b::t::aE=>if bw b=true then some ((t++[brk b])::aE)else none
  |_=>none
 else none
def iJ:bu->List (List bu)->Option (List (List bu))
 | [],st=>some st
 |c::s,st=>match eZ bw st c with
  |some st'=>iJ s st'
  |none=>none
def xW:List (List bu)->Bool
 | [[_]]=>true
 |_=>false
def CN(s:bu):Bool:=match iJ bw s [[]]with
 |some st=>xW st
 |none=>false
theorem xX{s:bu}(h:Code bw s):∀(t:List bu) (aE:List (List bu)) (u:bu),iJ bw (s++u) (t::aE)=iJ bw u ((t++[s])::aE):=by
 induction h with
 |mk l hb hs ih=>
  have inner:∀(m:List bu),(∀b∈m,b∈l)->∀(b:List bu) (st:List (List bu)) (v:bu),iJ bw (m.flatten++v) (b::st)=iJ bw v ((b++m)::st):=by
   intro m
   induction m with
   |nil=>intro _ b st v;rw[nN];rfl
   |cons x m T9=>
    intro hm b st v;rw[An,mM,ih x (hm x bP),T9 λy hy=>hm y (a8 _ hy),mM]
    rfl
  intro t aE u;have e:brk l++u=40::(l.flatten++(41::u)):=by simp[brk]
  rw[e];show iJ bw (l.flatten++(41::u)) ([]::t::aE)=_;rw[inner l (λ_ h=>h),BE]
  show (match eZ bw (l::t::aE) 41 with |some st'=>iJ bw u st' |none=>none)=_
  have:eZ bw (l::t::aE) 41=some ((t++[brk l])::aE):=by simp[eZ,hs]
  rw[this]
def jP:List (List bu)->bu
 | []=>[]
 | [b]=>b.flatten
 |b::t::aE=>jP (t::aE)++40::b.flatten
theorem Ip(b c:List bu):∀aE,jP ((b++c)::aE)=jP (b::aE)++c.flatten
 | []=>by simp[jP]
 |t::aE=>by simp[jP]
theorem Iq{st st':List (List bu)}{c:Nat}(h:eZ bw st c=some st')(hn:st≠[])(ha:∀b∈st,∀s∈b,Code bw s):jP st'=jP st++[c]/\st'≠[]/\∀b∈st',∀s∈b,Code bw s:=by
 unfold eZ at h;split at h
 .
  rename_i hc;symm;subst hc;refine⟨?_,by simp,λb hb s hs=>?_⟩
  .
   cases st with
   |nil=>exact absurd rfl hn
   |cons b aE=>simp[jP]
  .
   rcases c6.mp hb with rfl |hb
   . cases hs
   . exact ha b hb s hs
 .
  split at h
  .
   rename_i hc;subst hc;split at h
   .
    rename_i b t aE;split at h
    .
     rename_i hs;symm;refine⟨?_,by simp,λx hx s hs'=>?_⟩
     . rw[Ip];simp[jP,brk]
     .
      rcases c6.mp hx with rfl |hx
      .
       rcases gL.mp hs' with q |q
       . exact ha t ⋯ s q
       . rw[dE.mp q];exact .mk b (λy hy=>ha b bP y hy) hs
      . exact ha x (by simp[hx]) s hs'
    . symm
   . symm
  . symm
theorem CP:∀{s:bu}{st st':List (List bu)},iJ bw s st=some st'->st≠[]->(∀b∈st,∀s∈b,Code bw s)->jP st'=jP st++s/\∀b∈st',∀s∈b,Code bw s:=by
 intro s
 induction s with
 |nil=>intro st st' h hn ha;symm;exact⟨by simp,ha⟩
 |cons c s ih=>
  intro st st' h hn ha;have h:(match eZ bw st c with |some st'=>iJ bw s st' |none=>none)=some st':=h
  split at h
  . rename_i bN e;obtain⟨p1,p2,p3⟩:=Iq bw e hn ha;obtain⟨q1,q2⟩:=ih h p2 p3;exact⟨by rw[q1,p1];simp,q2⟩
  . symm
theorem pN(s:bu):CN bw s=true ↔ Code bw s:=by
 constructor
 .
  intro h;unfold CN at h;split at h
  .
   rename_i st e;obtain⟨p,q⟩:=CP bw e ⋯ ⋯;unfold xW at h;split at h
   .
    rename_i c;have:c=s:=by simpa [jP]using p
    rw[<- this];exact q [c] ⋯ c ⋯
   . symm
  . symm
 . intro h;have:=xX bw h [] [] [];rw[nN]at this;unfold CN;rw[this];rfl
structure Bs where
 found:List bu
 deep:Int
 word:bu
noncomputable def kr(b:Bs)(c:Nat):Option Bs:=
 let d:=b.deep+(if c=40 then 1 else 0) - (if c=41 then 1 else 0)
 if (c≠40/\c≠41)\/d<0 then none
 else if d=0 then some ⟨b.found++[b.word++[c]],d,[]⟩else some ⟨b.found,d,b.word++[c]⟩
def dJ:bu->Bs->Option Bs
 | [],b=>some b
 |c::s,b=>match kr b c with
  |some b'=>dJ s b'
  |none=>none
def Eb(s:bu):Option (List bu):=match dJ (s.drop 1).dropLast ⟨[],0,[]⟩with
 |some b=>if b.deep≠0\/s.length<2\/s[0]?≠some 40\/s[s.length - 1]?≠some 41 then none else some b.found
 |none=>none
theorem Ir{b b':Bs}{c:Nat}(h:kr b c=some b'):b'.found.flatten++b'.word=b.found.flatten++b.word++[c]/\(b'.deep=0->b'.word=[]):=by
 unfold kr at h;dsimp only at h;generalize b.deep+(if c=40 then 1 else 0) - (if c=41 then 1 else 0)=d at h
 split at h
 . symm
 .
  split at h
  . symm;simp
  . rename_i q;symm;exact⟨by simp,λe=>absurd e q⟩
theorem CQ:∀{s:bu}{b b':Bs},dJ s b=some b'->(b.deep=0->b.word=[])->b'.found.flatten++b'.word=b.found.flatten++b.word++s/\(b'.deep=0->b'.word=[]):=by
 intro s
 induction s with
 |nil=>intro b b' h hz;symm;exact⟨by simp,hz⟩
 |cons c s ih=>
  intro b b' h hz;have h:(match kr b c with |some b'=>dJ s b' |none=>none)=some b':=h
  split at h
  . rename_i b1 e;obtain⟨p1,p2⟩:=Ir e;obtain⟨q1,q2⟩:=ih h p2;exact⟨by rw[q1,p1];simp,q2⟩
  . symm
theorem CT{s:bu}{l:List bu}(h:Eb s=some l):s=brk l:=by
 unfold Eb at h;split at h
 .
  rename_i b e;split at h
  . symm
  .
   rename_i q;symm;have q1:b.deep=0:=by rcases Classical.em (b.deep=0)with x |x;exact x;exact absurd (.inl x) q
   have q2 : ¬ s.length<2:=λx=>q (.inr (.inl x))
   have q3:s[0]?=some 40:=by rcases Classical.em (s[0]?=some 40)with x |x;exact x;exact absurd (.inr (.inr (.inl x))) q
   have q4:s[s.length - 1]?=some 41:=by rcases Classical.em (s[s.length - 1]?=some 41)with x |x;exact x;exact absurd (.inr (.inr (.inr x))) q
   obtain⟨p1,p2⟩:=CQ e (λ_=>rfl)
   rw[p2 q1]at p1;simp at p1;cases s with
   |nil=>cases q3
   |cons x r=>
    have hx:x=40:=by simpa using q3
    subst hx;simp at p1;rw[brk,p1];have hr:r≠[]:=by intro e;subst e;simp at q2
    have:r.getLast hr=41:=by have e2:=List.getLast?_eq_getElem? (l:=40::r);simp only[i3]at q4 e2;rw[q4]at e2;rw[List.getLast?_cons_of_ne_nil hr]at e2;rw[List.getLast?_eq_some_getLast hr]at e2;exact i6 e2
    congr 1
    rw[<- this];exact (List.dropLast_concat_getLast hr).symm
 . symm
theorem xY{s:bu}(h:Code bw s):∀(f:List bu) (d:Int) (w u:bu),1<=d->dJ (s++u) ⟨f,d,w⟩=dJ u ⟨f,d,w++s⟩:=by
 induction h with
 |mk l hb hs ih=>
  have inner:∀(m:List bu),(∀b∈m,b∈l)->∀(f:List bu) (d:Int) (w v:bu),1<=d->dJ (m.flatten++v) ⟨f,d,w⟩=dJ v ⟨f,d,w++m.flatten⟩:=by
   intro m
   induction m with
   |nil=>intro _ f d w v _;simp
   |cons x m T9=>intro hm f d w v hd;rw[An,mM,ih x (hm x bP) f d w _ hd,T9 (λy hy=>hm y (a8 _ hy)) f d _ v hd,mM]
  intro f d w u hd;have e:brk l++u=40::(l.flatten++(41::u)):=by simp[brk]
  have s1:kr ⟨f,d,w⟩ 40=some ⟨f,d+1,w++[40]⟩:=by
   unfold kr;have h1 : ¬ d+1<0:=by omega
   have h2 : ¬ d+1=0:=by omega
   simp[h1,h2]
  have s2:kr ⟨f,d+1,w++[40]++l.flatten⟩ 41=some ⟨f,d,w++brk l⟩:=by
   unfold kr;have h1 : ¬ d+1 - 1<0:=by omega
   have h2 : ¬ d+1 - 1=0:=by omega
   have h3:d+1 - 1=d:=by omega
   have h4 : ¬ d<0:=by omega
   have h5 : ¬ d=0:=by omega
   simp[h3,h4,h5,brk]
  rw[e];show (match kr ⟨f,d,w⟩ 40 with |some b'=>dJ (l.flatten++(41::u)) b' |none=>none)=_
  rw[s1];dsimp only;rw[inner l (λ_ h=>h) f (d+1) _ _ (by omega)]
  show (match kr ⟨f,d+1,w++[40]++l.flatten⟩ 41 with |some b'=>dJ u b' |none=>none)=_
  rw[s2]
theorem uy:∀{l:List bu},(∀b∈l,Code bw b)->∀(f:List bu),dJ l.flatten ⟨f,0,[]⟩=some ⟨f++l,0,[]⟩:=by
 intro l
 induction l with
 |nil=>intro _ f;simp[dJ]
 |cons x l ih=>
  intro h f;cases h x bP with
  |mk m hb hs=>
   have s1:kr ⟨f,0,[]⟩ 40=some ⟨f,1,[40]⟩:=by simp[kr]
   have s2:kr ⟨f,1,[40]++m.flatten⟩ 41=some ⟨f++[brk m],0,[]⟩:=by simp[kr,brk]
   have mid:∀(m':List bu),(∀b∈m',Code bw b)->∀(w v:bu),dJ (m'.flatten++v) ⟨f,1,w⟩=dJ v ⟨f,1,w++m'.flatten⟩:=by
    intro m'
    induction m' with
    |nil=>intro _ w v;simp
    |cons y m' T9=>intro hm w v;rw[An,mM,xY bw (hm y bP) f 1 w _ (by omega),T9 (λz hz=>hm z (a8 _ hz)),mM]
   have e:(brk m::l).flatten=40::(m.flatten++(41::l.flatten)):=by simp[brk]
   rw[e];show (match kr ⟨f,0,[]⟩ 40 with |some b'=>dJ (m.flatten++(41::l.flatten)) b' |none=>none)=_
   rw[s1];dsimp only;rw[mid m hb];show (match kr ⟨f,1,[40]++m.flatten⟩ 41 with |some b'=>dJ l.flatten b' |none=>none)=_
   rw[s2];dsimp only;rw[ih (λb hb'=>h b (a8 _ hb')),mM]
   rfl
theorem CV{l:List bu}(h:∀b∈l,Code bw b):Eb (brk l)=some l:=by
 unfold Eb;have e:((brk l).drop 1).dropLast=l.flatten:=by simp[brk]
 rw[e,uy bw h []];simp[brk]
theorem iK(s:bu):Code bw s ↔ ∃l,Eb s=some l/\bw l=true/\∀b∈l,Code bw b:=by
 constructor
 . rintro⟨l,hb,hs⟩;exact⟨l,CV bw hb,hs,hb⟩
 . rintro⟨l,h1,h2,h3⟩;rw[CT h1];exact .mk l h3 h2
end
end CK
namespace CK
abbrev vH:=List (Int×Int)
noncomputable def aY(E:vH)(p:Int): ~~~0:=(E.filter λe=>decide (p=e.1\/p=e.2)).map λe=>e.1+e.2 - p
def aO(E:vH)(p:Int)(a:Option Int): ~~~0:=(aY E p).filter λq=>decide (some q≠a)
inductive RT(E:vH):Int->Option Int->~~~0->Prop
 |mk (p:Int) (a:Option Int) (vs:Int->~~~0):(∀c,c∈aO E p a->RT E c (some p) (vs c))->RT E p a (p::(aO E p a).flatMap vs)
theorem c9{α β:Type}{l:List α}{f:α->List β}:(l.flatMap f).Nodup ↔ (∀a∈l,(f a).Nodup)/\l.Pairwise λa b=>∀x∈f a,∀y∈f b,x≠y:=List.pairwise_flatMap
theorem fH(E F:vH)(p:Int):aY (E++F) p=aY E p++aY F p:=by simp[aY]
theorem CW{E:vH}{p q:Int}(h:q∈aY E p):(p,q)∈E\/(q,p)∈E:=by
 obtain⟨e,he,rfl⟩:=gN.mp h;obtain⟨h1,h2⟩:=eQ.mp he;rcases w8 h2 with rfl |rfl
 . exact .inl (by rw[show e.1+e.2 - e.1=e.2 by omega];exact h1)
 . exact .inr (by rw[show e.1+e.2 - e.2=e.1 by omega];exact h1)
section
variable{E:vH}{x y u w:Int}(hxy:(x=u/\y=w)\/(x=w/\y=u))(xZ:u≠w)(hw:∀e∈E,e.1≠w/\e.2≠w)
include hxy xZ
theorem CZ:aY [(x,y)] u=[w]:=by rcases hxy with ⟨rfl,rfl⟩ |⟨rfl,rfl⟩ <;> simp[aY] <;> omega
theorem Dc:aY [(x,y)] w=[u]:=by rcases hxy with ⟨rfl,rfl⟩ |⟨rfl,rfl⟩ <;> simp[aY] <;> omega
theorem Ph{p:Int}(h1:p≠u)(h2:p≠w):aY [(x,y)] p=[]:=by rcases hxy with ⟨rfl,rfl⟩ |⟨rfl,rfl⟩ <;> simp[aY,h1,h2]
include hw
omit hxy xZ in
theorem vI:aY E w=[]:=by
 unfold aY;rw[List.map_eq_nil_iff,List.filter_eq_nil_iff];intro e he h;have:=hw e he;rcases w8 h with q |q
 . exact this.1 q.symm
 . exact this.2 q.symm
omit hxy xZ in
theorem rX{p q:Int}(h:q∈aY E p):q≠w:=λe=>by
 rcases CW h with h |h
 . exact (hw _ h).2 e
 . exact (hw _ h).1 e
theorem RT.grow{p:Int}{a:Option Int}{vs: ~~~0}(h:RT E p a vs):vs.Nodup->w∉vs->a≠some w->∃vs',RT (E++[(x,y)]) p a vs'/\vs'.Nodup/\∀q,q∈vs' ↔ q∈vs\/(q=w/\u∈vs):=by
 induction h with
 |mk p a vs hk ih=>
  intro nd hn ha;obtain⟨n1,n2⟩:=d6.mp nd;obtain⟨n3,n4⟩:=c9.mp n2;have Vy:p≠w:=λe=>hn (e▸bP)
  have sub:∀c∈aO E p a,∀q∈vs c,q∈p::(aO E p a).flatMap vs:=λc hc q hq=>a8 _ (sK.mpr ⟨c,hc,hq⟩)
  have ex:∀c,∃v,c∈aO E p a->RT (E++[(x,y)]) c (some p) v/\v.Nodup/\∀q,q∈v ↔ q∈vs c\/(q=w/\u∈vs c):=λc=>by
   by_cases hc:c∈aO E p a
   .
    obtain⟨v,hv⟩:=ih c hc (n3 c hc) (λh=>hn (sub c hc w h)) (λe=>Vy (i6 e))
    exact⟨v,λ_=>hv⟩
   . exact⟨[],λh=>absurd h hc⟩
  obtain⟨v,hv⟩:=AM ex;have pw:(aO E p a).Pairwise λc d=>∀q∈v c,∀r∈v d,q≠r:=by
   have n5:=(List.Pairwise.and_mem).mp n4;refine n5.imp λ{c d} h q hq r hr e=>?_
   obtain⟨hc,hd,h⟩:=h;subst e;rcases ((hv c hc).2.2 q).mp hq with q1 |⟨q1,q2⟩
   .
    rcases ((hv d hd).2.2 q).mp hr with r1 |⟨r1,r2⟩
    . exact h q q1 q r1 rfl
    . exact hn (r1▸sub c hc q q1)
   .
    rcases ((hv d hd).2.2 q).mp hr with r1 |⟨r1,r2⟩
    . exact hn (q1▸sub d hd q r1)
    . exact h u q2 u r2 rfl
  have pn:∀c∈aO E p a,p∉v c:=λc hc h=>by
   rcases ((hv c hc).2.2 p).mp h with q |⟨q,_⟩
   . exact n1 (sK.mpr ⟨c,hc,q⟩)
   . exact Vy q
  by_cases hu:p=u
  .
   subst hu;have hk':aO (E++[(x,y)]) p a=aO E p a++[w]:=by
    unfold aO;rw[fH,CZ hxy xZ,List.filter_append]
    congr 1
    simp[oS ha]
   have wk:w∉aO E p a:=λh=>rX hw (eQ.mp h).1 rfl
   have leaf:RT (E++[(x,y)]) w (some p) [w]:=by
    have e:aO (E++[(x,y)]) w (some p)=[]:=by unfold aO;rw[fH,Dc hxy xZ,vI hw];simp
    have:=RT.mk (E:=E++[(x,y)]) w (some p) (λ_=>[]) (by rw[e];intro c h;symm)
    rw[e]at this;exact this
   have fw:∀c∈aO E p a,(if c=w then [w]else v c)=v c:=λc hc=>fI λ(e:c=w)=>wk (by rw[<- e];exact hc)
   have fm:(aO E p a++[w]).flatMap (λc=>if c=w then [w]else v c)=(aO E p a).flatMap v++[w]:=by
    rw[List.flatMap_append,List.flatMap_singleton,eR rfl]
    congr 1
    rw[List.flatMap_def,List.flatMap_def,AF fw]
   have key:=RT.mk (E:=E++[(x,y)]) p a (λc=>if c=w then [w]else v c) (by
    rw[hk'];intro c hc;rcases gL.mp hc with hc |hc
    . rw[fw c hc];exact (hv c hc).1
    .
     cases dE.mp hc;rw[eR rfl];exact leaf)
   rw[hk',fm]at key;have mem:∀q,q∈(aO E p a).flatMap v ↔ q∈(aO E p a).flatMap vs:=λq=>by
    simp only[sK];constructor
    .
     rintro⟨c,hc,h⟩;rcases ((hv c hc).2.2 q).mp h with h |⟨_,h⟩
     . exact⟨c,hc,h⟩
     . exact absurd (sK.mpr ⟨c,hc,h⟩) n1
    . rintro⟨c,hc,h⟩;exact⟨c,hc,((hv c hc).2.2 q).mpr (.inl h)⟩
   refine⟨_,key,?_,λq=>?_⟩
   .
    refine d6.mpr ⟨λh=>?_,t5.mpr ⟨c9.mpr ⟨λc hc=>(hv c hc).2.1,pw⟩,by simp,λq hq r hr e=>?_⟩⟩
    .
     rcases gL.mp h with h |h
     . exact n1 ((mem p).mp h)
     . exact Vy (dE.mp h)
    . rw[dE.mp hr]at e;subst e;exact hn (a8 _ ((mem q).mp hq))
   . simp only[c6,gL,i5,Ap,mem q,true_or,and_true,or_assoc]
  .
   have hk':aO (E++[(x,y)]) p a=aO E p a:=by unfold aO;rw[fH,Ph hxy xZ hu Vy,nN]
   have key:=RT.mk (E:=E++[(x,y)]) p a v (by rw[hk'];exact λc hc=>(hv c hc).1)
   rw[hk']at key;have up:u≠p:=λe=>hu e.symm
   refine⟨_,key,d6.mpr ⟨λh=>?_,c9.mpr ⟨λc hc=>(hv c hc).2.1,pw⟩⟩,λq=>?_⟩
   . obtain⟨c,hc,h⟩:=sK.mp h;exact pn c hc h
   .
    simp only[c6,sK,up,false_or];constructor
    .
     rintro (h |⟨c,hc,h⟩)
     . exact .inl (.inl h)
     .
      rcases ((hv c hc).2.2 q).mp h with h |⟨h,h'⟩
      . exact .inl (.inr ⟨c,hc,h⟩)
      . exact .inr ⟨h,c,hc,h'⟩
    .
     rintro ((h |⟨c,hc,h⟩) |⟨h,c,hc,h'⟩)
     . exact .inl h
     . exact .inr ⟨c,hc,((hv c hc).2.2 q).mpr (.inl h)⟩
     . exact .inr ⟨c,hc,((hv c hc).2.2 q).mpr (.inr ⟨h,h'⟩)⟩
end
def Good(E:vH)(V: ~~~0):Prop:=(∀e∈E,e.1∈V/\e.2∈V)/\∀p∈V,∃vs,RT E p none vs/\vs.Nodup/\∀q∈vs,q∈V
theorem Good.one(p:Int):Good [] [p]:=by
 refine⟨(λe h=>nomatch h),λq hq=>?_⟩
 have r:=RT.mk (E:=[]) q none (λ_=>[]) (λc h=>nomatch (show c∈([]: ~~~0)from h))
 exact⟨_,r,by simp[aO,aY],λr hr=>by
  have:r=q:=by simpa [aO,aY]using hr
  rw[this];exact hq⟩
theorem Good.more{E:vH}{V: ~~~0}{x y u w:Int}(h:Good E V)(hxy:(x=u/\y=w)\/(x=w/\y=u))(hu:u∈V)(Qo:w∉V):Good (E++[(x,y)]) (V++[w]):=by
 obtain⟨h1,h2⟩:=h;have xZ:u≠w:=λe=>Qo (e▸hu)
 have hw:∀e∈E,e.1≠w/\e.2≠w:=λe he=>⟨λz=>Qo (z▸(h1 e he).1),λz=>Qo (z▸(h1 e he).2)⟩
 refine⟨λe he=>?_,λp hp=>?_⟩
 .
  rcases gL.mp he with he |he
  . exact⟨fA _ (h1 e he).1,fA _ (h1 e he).2⟩
  . cases dE.mp he;rcases hxy with ⟨rfl,rfl⟩ |⟨rfl,rfl⟩ <;> simp[hu]
 .
  rcases gL.mp hp with hp |hp
  .
   obtain⟨vs,r,nd,sub⟩:=h2 p hp;obtain⟨vs',r',nd',m'⟩:=r.grow hxy xZ hw nd (λz=>Qo (sub w z)) ⋯
   refine⟨vs',r',nd',λq hq=>?_⟩
   rcases (m' q).mp hq with z |⟨z,_⟩
   . exact fA _ (sub q z)
   . rw[z];simp
  .
   cases dE.mp hp;obtain⟨vs,r,nd,sub⟩:=h2 u hu;cases r with
   |mk _ _ vs hk=>
    obtain⟨n1,n2⟩:=d6.mp nd;obtain⟨n3,n4⟩:=c9.mp n2;have mv:∀c∈aO E u none,∀q∈vs c,q∈V:=λc hc q hq=>sub q (a8 _ (sK.mpr ⟨c,hc,hq⟩))
    have ex:∀c,∃v,c∈aO E u none->RT (E++[(x,y)]) c (some u) v/\v.Nodup/\∀q,q∈v ↔ q∈vs c:=λc=>by
     by_cases hc:c∈aO E u none
     .
      obtain⟨v,a1,a2,a3⟩:=(hk c hc).grow hxy xZ hw (n3 c hc) (λz=>Qo (mv c hc w z)) (λe=>xZ (i6 e))
      refine⟨v,λ_=>⟨a1,a2,λq=>(a3 q).trans ⟨λz=>z.elim id λz=>absurd (sK.mpr ⟨c,hc,z.2⟩) n1,.inl⟩⟩⟩
     . exact⟨[],λh=>absurd h hc⟩
    obtain⟨v,hv⟩:=AM ex;have ku:aO (E++[(x,y)]) u (some w)=aO E u none:=by
     unfold aO;rw[fH,CZ hxy xZ,List.filter_append];have e1:([w]: ~~~0).filter (λq=>decide (some q≠some w))=[]:=by simp
     rw[e1,nN];refine List.filter_congr λq hq=>?_
     have:q≠w:=rX hw hq;simp[this]
    have kw:aO (E++[(x,y)]) w none=[u]:=by unfold aO;rw[fH,Dc hxy xZ,vI hw];simp
    have r1:=RT.mk (E:=E++[(x,y)]) u (some w) v (by rw[ku];exact λc hc=>(hv c hc).1)
    rw[ku]at r1;have r2:=RT.mk (E:=E++[(x,y)]) w none (λ_=>u::(aO E u none).flatMap v) (by rw[kw];intro c hc;cases dE.mp hc;exact r1)
    rw[kw,List.flatMap_singleton]at r2;have mem:∀q,q∈(aO E u none).flatMap v ↔ q∈(aO E u none).flatMap vs:=λq=>by
     simp only[sK];exact⟨λ⟨c,hc,z⟩=>⟨c,hc,((hv c hc).2.2 q).mp z⟩,λ⟨c,hc,z⟩=>⟨c,hc,((hv c hc).2.2 q).mpr z⟩⟩
    refine⟨_,r2,?_,λq hq=>?_⟩
    .
     refine d6.mpr ⟨λz=>?_,d6.mpr ⟨λz=>n1 ((mem u).mp z),c9.mpr ⟨λc hc=>(hv c hc).2.1,?_⟩⟩⟩
     .
      rcases c6.mp z with z |z
      . exact xZ z.symm
      . exact Qo (sub w (a8 _ ((mem w).mp z)))
     .
      refine ((List.Pairwise.and_mem).mp n4).imp λ{c d} h q hq r hr=>?_
      exact h.2.2 q (((hv c h.1).2.2 q).mp hq) r (((hv d h.2.1).2.2 r).mp hr)
    .
     rcases c6.mp hq with z |z
     . rw[z];simp
     .
      rcases c6.mp z with z |z
      . rw[z];exact fA _ hu
      . exact fA _ (sub q (a8 _ ((mem q).mp z)))
theorem x6{E F:vH}(h:E.Perm F)(p:Int):(aY E p).Perm (aY F p):=(h.filter _).map _
theorem x8{E F:vH}(h:E.Perm F)(p:Int)(a:Option Int):(aO E p a).Perm (aO F p a):=(x6 h p).filter _
theorem RT.perm{E F:vH}(hp:E.Perm F){p:Int}{a:Option Int}{vs: ~~~0}(h:RT E p a vs):∃ws,RT F p a ws/\ws.Perm vs:=by
 induction h with
 |mk p a vs hk ih=>
  have ex:∀c,∃v,c∈aO E p a->RT F c (some p) v/\v.Perm (vs c):=λc=>by
   by_cases hc:c∈aO E p a
   . obtain⟨v,h1,h2⟩:=ih c hc;exact⟨v,λ_=>⟨h1,h2⟩⟩
   . exact⟨[],λh=>absurd h hc⟩
  obtain⟨v,hv⟩:=AM ex;have kp:=x8 hp p a;refine⟨_,RT.mk p a v λc hc=>(hv c (kp.mem_iff.mpr hc)).1,List.Perm.cons _ ?_⟩
  have p1:((aO F p a).flatMap v).Perm ((aO E p a).flatMap v):=kp.symm.flatMap_right v;have p2:∀l:List Int,(∀c∈l,c∈aO E p a)->(l.flatMap v).Perm (l.flatMap vs):=by
   intro l
   induction l with
   |nil=>intro _;exact nV _
   |cons c l ihl=>intro h;rw[List.flatMap_cons,List.flatMap_cons];exact (hv c (h c bP)).2.append (ihl λd hd=>h d (a8 _ hd))
  exact p1.trans (p2 _ λ_ h=>h)
end CK
namespace Ev
open CK
theorem gn:PySem.Str.ofString "("=tx [40]:=by decide
theorem iL:PySem.Str.ofString ")"=tx [41]:=by decide
def bw(l:List bu):Bool:=decide (aM l=l)
noncomputable def fT:Fx:=⟨1,1,[(.ret (.bin .Add (.bin .Add (.val (.str (PySem.Str.ofString "("))) (.join ⇑0)) (.val (.str (PySem.Str.ofString ")")))))]⟩
noncomputable def cB(ji:Nat):Fx:=⟨1,4,[(.ite (.or [(.not (.vj ⇑0 "str")),(.cmp .Gt (.blt .len [⇑0]) ↥40)]) [(.ret (.val (.bl false)))] []),(.Az 0 2 1 3 (.cmp .Eq ⇑2 (.val (.str (PySem.Str.ofString "(")))) (.cmp .Eq ⇑2 (.val (.str (PySem.Str.ofString ")")))) (.cmp .NotEq ⇑3 (.blt .sorted [⇑3])) (.call ji [⇑3]))]⟩
theorem eu(a b:List Nat)(h:a.length+b.length<=1000):jY .Add (dS a) (dS b)=some (.dat (dS (a++b))):=by
 have:(tx a).length+(tx b).length<=lim:=by rw[bU,bU];exact hU h ⋯
 show (if (tx a).length+(tx b).length<=lim then some (R.dat (.str (tx a++tx b)))else none)=_
 rw[eR this,tL];rfl
theorem Pj{a b:List Nat}(h:tx a=tx b):a=b:=by
 have:=congrArg (λx:PySem.Str=>x.cps.toList) h
 exact this
theorem uz(a b:List Nat):bL (dS a) (dS b)=decide (a=b):=by show (tx a==tx b)=_;rw[pE];simp only[beq_iff_eq,mN];exact⟨Pj,λh=>by rw[h]⟩
theorem pO(a b:List Nat):cO .Eq (dS a) (dS b)=some (decide (a=b)):=by
 have e:dH (dS a) (dS b)=true:=rfl;show (if dH (dS a) (dS b)=true then some (bL (dS a) (dS b))else none)=_
 rw[eR e,uz]
theorem Dd(a b:List Nat):cO .NotEq (dS a) (dS b)=some (!decide (a=b)):=by
 have e:dH (dS a) (dS b)=true:=rfl;show (if dH (dS a) (dS b)=true then some (!bL (dS a) (dS b))else none)=_
 rw[eR e,uz]
theorem vJ:∀l:List bu,gG (l.map dS)=true
 | []=>rfl
 |a::l=>by
  show (iQ (dS a)&&gG (l.map dS))=true;rw[vJ l];rfl
theorem vK:∀l:List bu,deps (l.map dS)=0
 | []=>rfl
 |a::l=>by
  show max (dep (dS a)) (deps (l.map dS))=0;rw[vK l];rfl
theorem vL:∀a b:List bu,cg (a.map dS) (b.map dS)=decide (a=b)
 | [],[]=>rfl
 | [],_::_=>rfl
 |_::_,[]=>rfl
 |x::a,y::b=>by
  show (bL (dS x) (dS y)&&cg (a.map dS) (b.map dS))=_;rw[uz,vL a b,pE];simp
theorem pP(a b:List bu):cO .NotEq (.lst (a.map dS)) (.lst (b.map dS))=some (!decide (a=b)):=by
 have e:dH (.lst (a.map dS)) (.lst (b.map dS))=true:=by simp[dH,iQ,vJ,dep,vK]
 show (if dH (.lst (a.map dS)) (.lst (b.map dS))=true then some (!bL (.lst (a.map dS)) (.lst (b.map dS)))else none)=_
 rw[eR e];show some (!cg (a.map dS) (b.map dS))=_;rw[vL]
theorem gW(l:List bu)(h:l.length<64):nI .sorted [.lst (l.map dS)]=some (.new ((aM l).map dS)):=by
 cases l with
 |nil=>rfl
 |cons a l=>
  have e:fF ((a::l).map dS)=some (a::l):=fO _;show (match fF ((a::l).map dS)with |some m=>if m.length<64 then some (R.new ((aM m).map dS))else none |none=>none)=_
  rw[e];dsimp only;rw[eR h]
section
variable{k n ji:Nat}{rn:Nat->Rn}{fns:List Fx}(U:rR fns rn)
include U
theorem x9(l:List bu)(h:(l.map List.length).sum<=900):dI (rn (n+10)) k fT [.lst (l.map dS)]=some (.dat (dS (brk l))):=by
 have e:=fO l;have hs:(l.map List.length).sum<=lim:=hU h ⋯;have hf:l.flatten.length=(l.map List.length).sum:=BH;have o1:jY .Add (.str (tx [40])) (.str (tx l.flatten))=some (.dat (.str (tx (40::l.flatten)))):=eu [40] l.flatten (by rw[hf];simp;lia)
 have o2:jY .Add (.str (tx (40::l.flatten))) (.str (tx [41]))=some (.dat (.str (tx (brk l)))):=eu (40::l.flatten) [41] (by rw[i3,hf];simp;lia)
 generalize l.map dS=ds at e;unfold dI fT;simp! [U,e,hs,gn,iL,o1,o2];rfl
end
noncomputable def rws(st:List (List bu)):List (List D):=(st.map (List.map dS)).reverse
noncomputable def Ua(st:List (List bu)):Nat:=st.length+(st.map λb=>(b.map List.length).sum).sum
theorem dc(b:List bu)(st:List (List bu)):rws (b::st)=rws st++[b.map dS]:=by simp[rws]
theorem vM(st:List (List bu)):(rws st).length=st.length:=by simp[rws]
theorem dw(b:List bu)(st:List (List bu)):Ua (b::st)=Ua st+1+(b.map List.length).sum:=by unfold Ua;simp;lia
theorem iM:∀{b:List bu},(∀s∈b,s≠[])->b.length<=(b.map List.length).sum
 | [],_=>dC _
 |s::b,h=>by
  have:=iM (b:=b) λx hx=>h x (a8 _ hx)
  have h1:1<=s.length:=List.length_pos_iff.mpr (h s bP);simp;lia
theorem kB(b:List bu):(brk b).length=(b.map List.length).sum+2:=by simp[brk,BH]
section
variable{k n ji:Nat}{rn:Nat->Rn}{fns:List Fx}(U:rR fns rn)(hJ:fns[ji]?=some fT)
include U hJ
theorem Iu(A:Slot):∀(l:bu) (st:List (List bu)),(∀b∈st,∀s∈b,s≠[])->Ua st+l.length<=60->st≠[]->
  rB (rn (n+20)) [] (k+1) 2 3 (.cmp .Eq ⇑2 (.val (.str (PySem.Str.ofString "(")))) (.cmp .Eq ⇑2 (.val (.str (PySem.Str.ofString ")")))) (.cmp .NotEq ⇑3 (.blt .sorted [⇑3])) (.call ji [⇑3]) [A,.no,.no,.no] (l.map λc=>D.str (tx [c])) (rws st)=some ((iJ bw l st).map rws):=by
 intro l
 induction l with
 |nil=>intro st _ _ _;rfl
 |cons c l ih=>
  intro st hs hw fJ;rw[i3]at hw;have q1:cO .Eq (.str (tx [c])) (.str (tx [40]))=some (decide (c=40)):=by
   have:=pO [c] [40];rw[show decide (([c]:List Nat)=[40])=decide (c=40)by simp]at this
   exact this
  have q2:cO .Eq (.str (tx [c])) (.str (tx [41]))=some (decide (c=41)):=by
   have:=pO [c] [41];rw[show decide (([c]:List Nat)=[41])=decide (c=41)by simp]at this
   exact this
  have t1:(rn (n+20)).t [] (k+1) (.cmp .Eq ⇑2 (.val (.str (PySem.Str.ofString "(")))) [A,.no,.dat (.str (tx [c])),.no]=some (decide (c=40),[A,.no,.dat (.str (tx [c])),.no]):=by simp! [U,gn,q1]
  have t2:(rn (n+20)).t [] (k+1) (.cmp .Eq ⇑2 (.val (.str (PySem.Str.ofString ")")))) [A,.no,.dat (.str (tx [c])),.no]=some (decide (c=41),[A,.no,.dat (.str (tx [c])),.no]):=by simp! [U,iL,q2]
  have gs:([A,.no,.no,.no]:G).set 2 (.dat (.str (tx [c])))=[A,.no,.dat (.str (tx [c])),.no]:=rfl;have gb:∀b:List D,([A,.no,.dat (.str (tx [c])),.no]:G).set 3 (.dat (.lst b))=[A,.no,.dat (.str (tx [c])),.dat (.lst b)]:=λ_=>rfl
  rw[List.map_cons];unfold rB;dsimp only;rw[gs,t1];show _=some (Option.map rws (match eZ bw st c with |some st'=>iJ bw l st' |none=>none))
  have Pn:(rws st).length<1000:=by rw[vM];have:st.length<=Ua st:=Nat.le_add_right _ _;lia
  by_cases c1:c=40
  .
   rw[i4 c1];have e:eZ bw st c=some ([]::st):=by simp[eZ,c1]
   rw[e];dsimp only;rw[eR Pn,show rws st++[[]]=rws ([]::st)from (dc [] st).symm,ih ([]::st) (λb hb=>by
    rcases c6.mp hb with rfl |hb
    . intro s hs';cases hs'
    .
     exact hs b hb) (by rw[dw];simp;lia) ⋯]
  .
   rw[hV c1];dsimp only;rw[t2];dsimp only;by_cases c2:c=41
   .
    cases st with
    |nil=>exact absurd rfl fJ
    |cons b st=>
     cases st with
     |nil=>
      have e:eZ bw [b] c=none:=by simp[eZ,c1,c2]
      rw[e,fI (by simp[rws])]
      rfl
     |cons t aE=>
      have XQ:b.length<64:=by have h1:=iM (hs b bP);rw[dw]at hw;lia
      have hbs:(b.map List.length).sum<=900:=by rw[dw]at hw;lia
      have ht:(t.map dS).length<1000:=by have h1:=iM (hs t ⋯);rw[dw,dw]at hw;rw[eC];lia
      have e1:(rws (b::t::aE)).getLast?=some (b.map dS):=by rw[dc];simp
      have e2:(rws (b::t::aE)).dropLast=rws aE++[t.map dS]:=by rw[dc,tS,dc]
      have e3:(rws (b::t::aE)).dropLast.getLast?=some (t.map dS):=by rw[e2];simp
      have so:=gW b XQ;have ne:=pP b (aM b);have t3:(rn (n+20)).t [] (k+1) (.cmp .NotEq ⇑3 (.blt .sorted [⇑3])) [A,.no,.dat (.str (tx [c])),.dat (.lst (b.map dS))]=some (!bw b,[A,.no,.dat (.str (tx [c])),.dat (.lst (b.map dS))]):=by
       have:(!decide (b=aM b))=!bw b:=by unfold bw;rw[show decide (b=aM b)=decide (aM b=b)by rw[A6];exact⟨Eq.symm,Eq.symm⟩]
       rw[this]at ne;generalize b.map dS=ds at so ne;generalize (aM b).map dS=ds2 at so ne;simp! [U,so,ne]
      have jo:=λn k=>x9 (n:=n) (k:=k) U b hbs
      have t4:(rn (n+20)).e [] (k+1) (.call ji [⇑3]) [A,.no,.dat (.str (tx [c])),.dat (.lst (b.map dS))]=some (.dat (.str (tx (brk b))),[A,.no,.dat (.str (tx [c])),.dat (.lst (b.map dS))]):=by generalize b.map dS=ds at jo;simp! [U,hJ,iH (fx:=fT) rfl,jo];rfl
      rw[eR (by rw[i4 c2,vM];simp),e1,e3]
      dsimp only;rw[gb,t3];cases Ec:bw b with
      |true=>
       have e:eZ bw (b::t::aE) c=some ((t++[brk b])::aE):=by simp[eZ,c1,c2,Ec]
       rw[e];show _=some (Option.map rws (iJ bw l ((t++[brk b])::aE)));rw[t4];dsimp only;rw[eR ht,e2,tS];have e5:rws aE++[t.map dS++[D.str (tx (brk b))]]=rws ((t++[brk b])::aE):=by rw[dc,kS];rfl
       rw[e5,ih ((t++[brk b])::aE) (λx hx=>by
        rcases c6.mp hx with rfl |hx
        .
         intro s hs';rcases gL.mp hs' with q |q
         . exact hs t ⋯ s q
         . rw[dE.mp q];simp[brk]
        .
         exact hs x (by simp[hx])) (by
         rw[dw,dw]at hw;rw[dw,kS,List.sum_append];simp[kB];lia) ⋯]
       rfl
      |false=>
       have e:eZ bw (b::t::aE) c=none:=by simp[eZ,c1,c2,Ec]
       rw[e];rfl
   .
    have e:eZ bw st c=none:=by simp[eZ,c1,c2]
    rw[e,fI (by rw[hV c2];simp)]
    rfl
def iN:D->Bool
 |.str x=>decide (x.length<=40)&&CN bw x.cps.toList
 |_=>false
omit U hJ in
theorem Iv(o:Option (List (List bu))):mz (o.map rws)=match o with |some st=>xW st |none=>false:=by
 cases o with
 |none=>rfl
 |some st=>
  show mz (some (rws st))=xW st;cases st with
  |nil=>rfl
  |cons b st=>cases st with
   |nil=>
    show decide ((b.map dS).length=1)=_;rw[eC];cases b with
    |nil=>rfl
    |cons s b=>cases b with
     |nil=>rfl
     |cons _ _=>simp[xW]
   |cons t st=>
    have e:xW (b::t::st)=false:=by cases b with |nil=>rfl |cons s b=>cases b <;> rfl
    rw[dc,dc,e];cases rws st with
    |nil=>rfl
    |cons a l=>cases l <;> rfl
theorem nW(d:D)(hd:∀x,d=.str x->x.length<=1000):dI (rn (n+30)) (k+1) (cB ji) [d]=some (.dat (.bl (iN d))):=by
 have no (e:eY (oV d) "str"=false) (e2:iN d=false):dI (rn (n+30)) (k+1) (cB ji) [d]=some (.dat (.bl (iN d))):=by rw[e2];unfold dI cB;simp! [U,e]
 cases d with
 |str x=>
  have e:eY (oV (D.str x)) "str"=true:=rfl;have aJ:nI .len [.str x]=some (.dat (.int x.length)):=by
   show (if x.length<=lim then some (R.dat (.int x.length))else none)=_
   rw[eR (hU (hd x rfl) ⋯)]
  have cl:x.cps.toList.length=x.length:=by simp[PySem.Str.length]
  by_cases hl:x.length<=40
  .
   have hgt : ¬ (40:Int)<(x.length:Int):=by lia
   have run:=Iu (n:=n+9) (k:=k) U hJ (.dat (.str x)) x.cps.toList [[]] ⋯ (by rw[cl];show 1+0+_<=60;lia) ⋯
   rw[show x.cps.toList.map (λc=>D.str (tx [c]))=mw x from rfl,show rws [[]]=[[]]from rfl]at run
   have c1:aF (rn (n+29)) [] (k+1) (.ite (.or [(.not (.vj ⇑0 "str")),(.cmp .Gt (.blt .len [⇑0]) ↥40)]) [(.ret (.val (.bl false)))] []) [.dat (.str x),.no,.no,.no]=some (.nx,[.dat (.str x),.no,.no,.no]):=by simp! [U,e,aJ,hgt]
   have hr:mz ((iJ bw x.cps.toList [[]]).map rws)=iN (.str x):=by rw[Iv];show _=(decide (x.length<=40)&&CN bw x.cps.toList);rw[i4 hl,Bool.true_and];rfl
   have c2:aF (rn (n+29)) [] (k+1) (.Az 0 2 1 3 (.cmp .Eq ⇑2 (.val (.str (PySem.Str.ofString "(")))) (.cmp .Eq ⇑2 (.val (.str (PySem.Str.ofString ")")))) (.cmp .NotEq ⇑3 (.blt .sorted [⇑3])) (.call ji [⇑3])) [.dat (.str x),.no,.no,.no]=some (.rt (.dat (.bl (iN (.str x)))),[.dat (.str x),.no,.no,.no]):=by
    have hn:(bM [.dat (.str x),.no,.no,.no]&&([]:List Nat).isEmpty)=true:=rfl;rw[<- hr];show (if (bM [.dat (.str x),.no,.no,.no]&&([]:List Nat).isEmpty)=true then (match rB (rn (n+29)) [] (k+1) 2 3 _ _ _ _ [.dat (.str x),.no,.no,.no] (mw x) [[]]with |some r=>some (Fl.rt (.dat (.bl (mz r))),([.dat (.str x),.no,.no,.no]:G)) |none=>none)else none)=_
    rw[eR hn,run]
   have e5:(rn (n+30)).b [] (k+1) (cB ji).body [.dat (.str x),.no,.no,.no]=some (.rt (.dat (.bl (iN (.str x)))),[.dat (.str x),.no,.no,.no]):=by rw[U.b];refine (ao c1).trans ?_;unfold bJ;rw[c2]
   unfold dI;rw[show cF (cB ji).n (Ea [D.str x])=[.dat (.str x),.no,.no,.no]from rfl,e5]
   rfl
  .
   have hgt:(40:Int)<(x.length:Int):=by lia
   have hf:iN (.str x)=false:=by show (decide (x.length<=40)&&CN bw x.cps.toList)=false;rw[hV hl,Bool.false_and]
   rw[hf];unfold dI cB;simp! [U,e,aJ,hgt]
 |_=>exact no rfl rfl
end
open CK
theorem rY:PySem.Str.ofString "()"=tx [40,41]:=by decide
theorem vN:PySem.Str.ofString ""=tx []:=by decide
def XR:Sm:=.set 3 (.bin .Add ⇑3 ⇑4)
def XS:Sm:=.set 2 (.bin .Sub (.bin .Add ⇑2 (.cmp .Eq ⇑4 (.val (.str (PySem.Str.ofString "("))))) (.cmp .Eq ⇑4 (.val (.str (PySem.Str.ofString ")")))))
noncomputable def Ub:Sm:=.ite (.or [(.cmp .NotIn ⇑4 (.val (.str (PySem.Str.ofString "()")))),(.cmp .Lt ⇑2 ↥0)]) [(.ret (.val .non))] []
def Uc:Sm:=.ite (.cmp .Eq ⇑2 ↥0) [(.expr (.append 1 ⇑3)),(.set 3 (.val (.str (PySem.Str.ofString ""))))] []
def JV:Sm:=.ite (.or [(.cmp .NotEq ⇑2 ↥0),(.cmp .Lt (.blt .len [⇑0]) ↥2),(.cmp .NotEq (.ix ⇑0 ↥0) (.val (.str (PySem.Str.ofString "(")))),(.cmp .NotEq (.ix ⇑0 (.neg ↥1)) (.val (.str (PySem.Str.ofString ")"))))]) [(.ret (.val .non))] []
noncomputable def Ud:Ex:=.slice ⇑0 (some ↥1) (some (.neg ↥1))
def yc:List Sm:=[XR,XS,Ub,Uc]
def JW:Fx:=⟨1,5,[(.set 1 (.lst [])),(.set 2 ↥0),(.set 3 (.val (.str (PySem.Str.ofString "")))),(.loop (.nm 4) Ud yc),JV,(.ret ⇑1)]⟩
theorem vO(p:Prop) [Decidable p]:vf (decide p)=if p then 1 else 0:=by unfold vf;simp
theorem De(i:Int)(b:Bool):jY .Add (.int i) (.bl b)=some (.dat (.int (i+vf b))):=rfl
theorem Df(i:Int)(b:Bool):jY .Sub (.int i) (.bl b)=some (.dat (.int (i - vf b))):=rfl
theorem Pp(c:Nat):cO .NotIn (.str (tx [c])) (.str (tx [40,41]))=some (!decide (c=40\/c=41)):=by
 show some (!GX (tx [c]) (tx [40,41]))=_;have:=PySem.StrLaws.found_one (tx [40,41]) c;unfold GX;rw[show (tx [c])=⟨#[c]⟩from rfl,this,fE]
 simp
noncomputable def mD(A:Slot)(b:Bs)(x:Slot):G:=[A,.own (b.found.map dS),.dat (.int b.deep),.dat (.str (tx b.word)),x]
section
variable{k n:Nat}{rn:Nat->Rn}{fns:List Fx}(U:rR fns rn)
include U
theorem Pq(A:Slot)(b:Bs)(c:Nat)(h:b.found.length+b.word.length<=900):match kr b c with
  |some b'=>(rn (n+20)).b [] k yc (mD A b (.dat (.str (tx [c]))))=some (.nx,mD A b' (.dat (.str (tx [c]))))
  |none=>∃g',(rn (n+20)).b [] k yc (mD A b (.dat (.str (tx [c]))))=some (.rt (.dat .non),g'):=by
 obtain⟨f,d,w⟩:=b;dsimp only at h;have o1:jY .Add (.str (tx w)) (.str (tx [c]))=some (.dat (.str (tx (w++[c])))):=eu w [c] (by simp;lia)
 have q1:cO .Eq (.str (tx [c])) (.str (tx [40]))=some (decide (c=40)):=by
  have:=pO [c] [40];rw[show decide (([c]:List Nat)=[40])=decide (c=40)by simp]at this
  exact this
 have q2:cO .Eq (.str (tx [c])) (.str (tx [41]))=some (decide (c=41)):=by
  have:=pO [c] [41];rw[show decide (([c]:List Nat)=[41])=decide (c=41)by simp]at this
  exact this
 have q3:=Pp c;have hl:f.length<lim:=Nat.lt_of_le_of_lt (show f.length<=900 by lia) ⋯
 unfold kr;dsimp only;rw[<- vO (c=40),<- vO (c=41)];generalize hd:d+vf (decide (c=40)) - vf (decide (c=41))=d';have a1:aF (rn (n+19)) [] k XR [A,.own (f.map dS),‹d›,.dat (.str (tx w)),.dat (.str (tx [c]))]=some (.nx,[A,.own (f.map dS),‹d›,.dat (.str (tx (w++[c]))),.dat (.str (tx [c]))]):=by generalize f.map dS=fd;unfold XR;simp! [U,o1]
 have a2:aF (rn (n+19)) [] k XS [A,.own (f.map dS),‹d›,.dat (.str (tx (w++[c]))),.dat (.str (tx [c]))]=some (.nx,[A,.own (f.map dS),‹d'›,.dat (.str (tx (w++[c]))),.dat (.str (tx [c]))]):=by generalize f.map dS=fd;generalize decide (c=40)=x1 at *;generalize decide (c=41)=x2 at *;unfold XS;simp! [U,gn,iL,q1,q2,De,Df,hd]
 by_cases hbad:(c≠40/\c≠41)\/d'<0
 .
  rw[eR hbad];dsimp only;refine⟨[A,.own (f.map dS),‹d'›,.dat (.str (tx (w++[c]))),.dat (.str (tx [c]))],?_⟩;have a3:aF (rn (n+19)) [] k Ub [A,.own (f.map dS),‹d'›,.dat (.str (tx (w++[c]))),.dat (.str (tx [c]))]=some (.rt (.dat .non),[A,.own (f.map dS),‹d'›,.dat (.str (tx (w++[c]))),.dat (.str (tx [c]))]):=by
   generalize f.map dS=fd;unfold Ub;by_cases hc:c=40\/c=41
   .
    have hd':d'<0:=by rcases hbad with ⟨h1,h2⟩ |h;exact absurd hc (by simp[h1,h2]);exact h
    rw[i4 hc]at q3;simp! [U,rY,q3,hd']
   . rw[hV hc]at q3;simp! [U,rY,q3]
  unfold mD yc;rw[U.b];refine (ao a1).trans ((ao a2).trans ?_);unfold bJ;rw[a3]
 .
  rw[fI hbad];have hc:c=40\/c=41:=by
   by_cases h1:c=40
   . exact .inl h1
   .
    by_cases h2:c=41
    . exact .inr h2
    . exact absurd (.inl ⟨h1,h2⟩) hbad
  have hd' : ¬ d'<0:=λq=>hbad (.inr q)
  rw[i4 hc]at q3;have a3:aF (rn (n+19)) [] k Ub [A,.own (f.map dS),‹d'›,.dat (.str (tx (w++[c]))),.dat (.str (tx [c]))]=some (.nx,[A,.own (f.map dS),‹d'›,.dat (.str (tx (w++[c]))),.dat (.str (tx [c]))]):=by generalize f.map dS=fd;unfold Ub;simp! [U,rY,q3,hd']
  by_cases h0:d'=0
  .
   rw[eR h0];dsimp only;have a4:aF (rn (n+19)) [] k Uc [A,.own (f.map dS),‹d'›,.dat (.str (tx (w++[c]))),.dat (.str (tx [c]))]=some (.nx,[A,.own ((f++[w++[c]]).map dS),‹d'›,.dat (.str (tx [])),.dat (.str (tx [c]))]):=by
    have hl':(f.map dS).length<lim:=by rw[eC];exact hl
    have em:(f++[w++[c]]).map dS=f.map dS++[.str (tx (w++[c]))]:=by rw[kS];rfl
    rw[em];generalize f.map dS=fd at hl' ⊢
    unfold Uc;simp! [U,h0,hl',vN]
   unfold mD yc;rw[U.b];exact (ao a1).trans ((ao a2).trans ((ao a3).trans ((ao a4).trans rfl)))
  .
   rw[fI h0];dsimp only;have a4:aF (rn (n+19)) [] k Uc [A,.own (f.map dS),‹d'›,.dat (.str (tx (w++[c]))),.dat (.str (tx [c]))]=some (.nx,[A,.own (f.map dS),‹d'›,.dat (.str (tx (w++[c]))),.dat (.str (tx [c]))]):=by generalize f.map dS=fd;unfold Uc;simp! [U,h0]
   unfold mD yc;rw[U.b];exact (ao a1).trans ((ao a2).trans ((ao a3).trans ((ao a4).trans rfl)))
omit U in
theorem Iw{b b':Bs}{c:Nat}(h:kr b c=some b'):b'.found.length+b'.word.length<=b.found.length+b.word.length+1:=by
 unfold kr at h;dsimp only at h;generalize b.deep+(if c=40 then 1 else 0) - (if c=41 then 1 else 0)=d at h
 split at h
 . symm
 .
  split at h
  . symm;simp
  . symm;simp;lia
theorem Iz(A:Slot):∀(l:bu) (b:Bs) (x:Slot),b.found.length+b.word.length+l.length<=900->match dJ l b with
  |some b'=>∃x',cP (.nm 4) ((rn (n+20)).b [] k yc) (l.map λc=>D.str (tx [c])) (mD A b x)=some (.nx,mD A b' x')
  |none=>∃g',cP (.nm 4) ((rn (n+20)).b [] k yc) (l.map λc=>D.str (tx [c])) (mD A b x)=some (.rt (.dat .non),g'):=by
 intro l
 induction l with
 |nil=>intro b x _;exact⟨x,rfl⟩
 |cons c l ih=>
  intro b x hl;rw[i3]at hl;have q:=Pq (n:=n) (k:=k) U A b c ⋯;have Ue:(Tg.nm 4).set (.str (tx [c])) (mD A b x)=some (mD A b (.dat (.str (tx [c])))):=rfl;show match (match kr b c with |some b'=>dJ l b' |none=>none)with
   |some b'=>∃x',cP _ _ (D.str (tx [c])::l.map λc=>D.str (tx [c])) (mD A b x)=some (.nx,mD A b' x')
   |none=>∃g',cP _ _ (D.str (tx [c])::l.map λc=>D.str (tx [c])) (mD A b x)=some (.rt (.dat .non),g')
  cases e:kr b c with
  |none=>rw[e]at q;obtain⟨g',q⟩:=q;refine⟨g',?_⟩;unfold cP;rw[Ue];dsimp only;rw[q]
  |some b1=>
   rw[e]at q;dsimp only at q ⊢
   have aJ:=Iw e;have r:=ih b1 (.dat (.str (tx [c]))) ⋯;have step:cP (.nm 4) ((rn (n+20)).b [] k yc) (D.str (tx [c])::l.map λc=>D.str (tx [c])) (mD A b x)=cP (.nm 4) ((rn (n+20)).b [] k yc) (l.map λc=>D.str (tx [c])) (mD A b1 (.dat (.str (tx [c])))):=by
    conv=>lhs;unfold cP
    rw[Ue];dsimp only;rw[q]
   rw[step];exact r
end
open CK
theorem IK(s:bu):bQ s (some 1) (some (-1))=(s.drop 1).dropLast:=by
 have e1:HT.bA s.length 0 (some 1)=min 1 s.length:=HT.Ew s.length 0 1;have e2:HT.bA s.length s.length (some (-1))=s.length - 1:=by
  show (if (-1:Int)<0 then (-1+(s.length:Int)).toNat else min (-1:Int).toNat s.length)=_
  rw[eR ⋯];lia
 unfold bQ;rw[e1,e2,A4,AD];cases s with
 |nil=>rfl
 |cons c s=>
  have h1:min 1 (c::s).length=1:=by simp
  rw[h1]
theorem pQ(s:bu)(i:Int)(h:s.length<=1000):Ba (.str (tx s)) (.int i)=(L2.dD s i).map λc=>.str (tx [c]):=by
 show (if (tx s).length<=lim then (match L2.dD (tx s).cps.toList i with |some c=>some (D.str (tx [c])) |none=>none)else none)=_
 rw[eR (by rw[bU];exact hU h ⋯),fE]
 cases L2.dD s i <;> rfl
theorem pR(s:bu)(h:s.length<=1000):nI .len [.str (tx s)]=some (.dat (.int s.length)):=by
 show (if (tx s).length<=lim then some (R.dat (.int (tx s).length))else none)=_
 rw[bU,eR (hU h ⋯)]
theorem IV{s:bu}{c:Nat}{r:bu}(h:s=c::r):L2.dD s 0=some c:=by subst h;unfold L2.dD L2.pZ;rw[eR ⋯,eR ⋯];rfl
def Pu(s:bu):R:=match Eb s with
 |some l=>.new (l.map dS)
 |none=>.dat .non
section
variable{k n:Nat}{rn:Nat->Rn}{fns:List Fx}(U:rR fns rn)
include U
theorem Pw(s:bu)(hs:s.length<=800)(f:List D)(d:Int)(w:Slot)(x:Slot):aF (rn (n+20)) [] k JV [.dat (.str (tx s)),.own f,‹d›,w,x] =
  if d≠0\/s.length<2\/s[0]?≠some 40\/s[s.length - 1]?≠some 41 then some (.rt (.dat .non),[.dat (.str (tx s)),.own f,‹d›,w,x])else some (.nx,[.dat (.str (tx s)),.own f,‹d›,w,x]):=by
 have hl:=pR s ⋯;have i0:=pQ s 0 ⋯;have i1:=pQ s (-1) ⋯;by_cases h0:d=0
 .
  by_cases h2:s.length<2
  .
   have h2':(s.length:Int)<2:=by lia
   rw[eR (.inr (.inl h2))];unfold JV;simp! [U,h0,hl,h2']
  .
   have h2' : ¬ (s.length:Int)<2:=by lia
   obtain⟨c,r,rfl⟩:∃c r,s=c::r:=by cases s with |nil=>simp at h2 |cons c r=>exact⟨c,r,rfl⟩
   rw[IV rfl]at i0;have e1:L2.dD (c::r) (-1)=(c::r)[(c::r).length - 1]?:=by
    unfold L2.dD L2.pZ;rw[fI ⋯,eR (by simp;lia)]
    show (c::r)[(-1+((c::r).length:Int)).toNat]?=_
    congr 1
    lia
   rw[e1]at i1;have yy:(c::r).length - 1<(c::r).length:=by simp
   rw[i7 yy]at i1 ⊢
   generalize (c::r)[(c::r).length - 1]=e at i1 ⊢
   have XT:Ba (.str (tx (c::r))) (.int 0)=some (.str (tx [c])):=i0;have XX:Ba (.str (tx (c::r))) (.int (-1))=some (.str (tx [e])):=i1;have n0:cO .NotEq (.str (tx [c])) (.str (tx [40]))=some (!decide (c=40)):=by
    have:=Dd [c] [40];rw[show decide (([c]:List Nat)=[40])=decide (c=40)by simp]at this
    exact this
   have n1:cO .NotEq (.str (tx [e])) (.str (tx [41]))=some (!decide (e=41)):=by
    have:=Dd [e] [41];rw[show decide (([e]:List Nat)=[41])=decide (e=41)by simp]at this
    exact this
   by_cases h3:c=40
   .
    rw[i4 h3]at n0;by_cases h4:e=41
    .
     rw[i4 h4]at n1;rw[fI (by simp[h0,h3,h4];simpa using h2)]
     unfold JV;generalize tx (c::r)=y at *;generalize ((c::r).length:Int)=qqz at *;simp! [U,h0,hl,h2',XT,XX,gn,iL,n0,n1]
    .
     rw[hV h4]at n1;rw[eR (.inr (.inr (.inr (by simpa using h4))))]
     unfold JV;generalize tx (c::r)=y at *;generalize ((c::r).length:Int)=qqz at *;simp! [U,h0,hl,h2',XT,XX,gn,iL,n0,n1]
   .
    rw[hV h3]at n0;rw[eR (.inr (.inr (.inl (by simpa using h3))))]
    unfold JV;generalize tx (c::r)=y at *;generalize ((c::r).length:Int)=qqz at *;simp! [U,h0,hl,h2',XT,XX,gn,iL,n0,n1]
 . rw[eR (.inl h0)];unfold JV;simp! [U,h0]
theorem Ug(s:bu)(hs:s.length<=800):dI (rn (n+30)) k JW [dS s]=some (Pu s):=by
 have hlim:(tx s).length<=lim:=by rw[bU];exact hU hs ⋯
 have e1:aF (rn (n+29)) [] k (.set 1 (.lst [])) [.dat (.str (tx s)),.no,.no,.no,.no]=some (.nx,[.dat (.str (tx s)),.own [],.no,.no,.no]):=by simp! [U,U.e]
 have e2:aF (rn (n+29)) [] k (.set 2 ↥0) [.dat (.str (tx s)),.own [],.no,.no,.no]=some (.nx,[.dat (.str (tx s)),.own [],‹0›,.no,.no]):=by simp! [U,U.e]
 have e3:aF (rn (n+29)) [] k (.set 3 (.val (.str (PySem.Str.ofString "")))) [.dat (.str (tx s)),.own [],‹0›,.no,.no]=some (.nx,[.dat (.str (tx s)),.own [],‹0›,.dat (.str (tx [])),.no]):=by simp! [U,vN]
 have hw:jD (rn (n+29)) [] k false Ud (mD (.dat (.str (tx s))) ⟨[],0,[]⟩ .no)=some (((s.drop 1).dropLast).map (λc=>D.str (tx [c])),mD (.dat (.str (tx s))) ⟨[],0,[]⟩ .no):=by
  have:mw (tx (bQ s (some 1) (some (-1))))=((s.drop 1).dropLast).map λc=>D.str (tx [c]):=by unfold mw;rw[fE,IK]
  rw[<- this];unfold mD Ud;have h2:(tx s).cps.toList=s:=fE s;simp! [U,jD,nJ,hlim,h2]
 have aJ:((s.drop 1).dropLast).length<=800:=by rw[List.length_dropLast,AD];lia
 have lp:=Iz (n:=n+9) (k:=k) U (.dat (.str (tx s))) ((s.drop 1).dropLast) ⟨[],0,[]⟩ .no (by simp;simp at aJ;lia)
 have go:∀{f:Fl}{g':G},cP (.nm 4) ((rn (n+29)).b [] k yc) (((s.drop 1).dropLast).map λc=>D.str (tx [c])) (mD (.dat (.str (tx s))) ⟨[],0,[]⟩ .no)=some (f,g')->aF (rn (n+29)) [] k (.loop (.nm 4) Ud yc) [.dat (.str (tx s)),.own [],‹0›,.dat (.str (tx [])),.no]=some (f,g'):=λ{f g'} h=>by
  show aF (rn (n+29)) [] k (.loop (.nm 4) Ud yc) (mD (.dat (.str (tx s))) ⟨[],0,[]⟩ .no)=some (f,g');simp only[aF,Tg.ix,Tg.pF,hw,h];simp
 unfold dI Pu Eb;rw[show cF JW.n (Ea [dS s])=[.dat (.str (tx s)),.no,.no,.no,.no]from rfl]
 cases hr:dJ ((s.drop 1).dropLast) ⟨[],0,[]⟩with
 |none=>
  rw[hr]at lp;obtain⟨g',lp⟩:=lp;have e5:(rn (n+30)).b [] k JW.body [.dat (.str (tx s)),.no,.no,.no,.no]=some (.rt (.dat .non),g'):=by rw[U.b];refine (ao e1).trans ((ao e2).trans ((ao e3).trans ?_));unfold bJ;rw[go lp]
  rw[e5];rfl
 |some b=>
  rw[hr]at lp;obtain⟨x',lp⟩:=lp;dsimp only;have b5:=Pw (n:=n+9) (k:=k) U s hs (b.found.map dS) b.deep (.dat (.str (tx b.word))) x';have body:(rn (n+30)).b [] k JW.body [.dat (.str (tx s)),.no,.no,.no,.no]=bJ (rn (n+29)) [] k [JV,(.ret ⇑1)] [.dat (.str (tx s)),.own (b.found.map dS),.dat (.int b.deep),.dat (.str (tx b.word)),x']:=by rw[U.b];exact (ao e1).trans ((ao e2).trans ((ao e3).trans (ao (go lp))))
  rw[body];by_cases hc:b.deep≠0\/s.length<2\/s[0]?≠some 40\/s[s.length - 1]?≠some 41
  .
   rw[eR hc]at b5 ⊢
   unfold bJ;rw[b5];rfl
  .
   rw[fI hc]at b5 ⊢
   rw[ao b5];show _=some (R.new (b.found.map dS));generalize b.found.map dS=fd;simp! [U,U.e]
end
theorem uA:∀{s:bu}{b b':Bs},dJ s b=some b'->(∀w∈b.found,w≠[])->∀w∈b'.found,w≠[]:=by
 intro s
 induction s with
 |nil=>intro b b' h hz;symm;exact hz
 |cons c s ih=>
  intro b b' h hz;have h:(match kr b c with |some b'=>dJ s b' |none=>none)=some b':=h
  split at h
  .
   rename_i b1 e;refine ih h ?_;unfold kr at e;dsimp only at e;generalize b.deep+(if c=40 then 1 else 0) - (if c=41 then 1 else 0)=d at e
   split at e
   . cases e
   .
    split at e
    .
     cases e;intro w hw;rcases gL.mp hw with hw |hw
     . exact hz w hw
     . rw[dE.mp hw];simp
    . cases e;exact hz
  . symm
theorem yd{s:bu}{l:List bu}(h:Eb s=some l):∀w∈l,w≠[]:=by
 unfold Eb at h;split at h
 .
  rename_i b e;split at h
  . symm
  . symm;exact uA e ⋯
 . symm
def Ed:Ex:=.cmp .NotEq ⇑1 (.lst [])
def vP(bi:Nat):Sm:=.set 2 (.call bi [(.pop 1)])
noncomputable def uB:Sm:=.ite (.or [(.cmp .Is ⇑2 (.val .non)),(.cmp .NotEq ⇑2 (.blt .sorted [⇑2]))]) [(.ret (.val (.bl false)))] []
def yx:Sm:=.expr (.extend 1 ⇑2)
def Dg(bi:Nat):Fx:=⟨1,3,[(.ite (.or [(.not (.vj ⇑0 "str")),(.cmp .Gt (.blt .len [⇑0]) ↥40)]) [(.ret (.val (.bl false)))] []),(.set 1 (.lst [⇑0])),(.while Ed [vP bi,uB,yx]),(.ret (.val (.bl true)))]⟩
def jm(l:List bu):Nat:=(l.map List.length).sum
theorem IW(l:List bu):cO .NotEq (.lst (l.map dS)) (.lst [])=some (!decide (l=[])):=pP l []
section
variable{k n bi:Nat}{rn:Nat->Rn}{fns:List Fx}(U:rR fns rn)(hB:fns[bi]?=some JW)
include U hB
theorem Ja(A:Slot):∀(m:Nat) (left:List bu) (x:Slot) (N:Nat),jm left<=m->m<=60->(∀t∈left,t≠[])\/left=[[]]->m+1<N->
  ((∀t∈left,Code bw t)->∃x',rA ((rn (n+49)).t [] (k+1) Ed) ((rn (n+49)).b [] (k+1) [vP bi,uB,yx]) N [A,.own (left.map dS),x]=some (.nx,[A,.own [],x']))/\
  (¬ (∀t∈left,Code bw t)->∃g',rA ((rn (n+49)).t [] (k+1) Ed) ((rn (n+49)).b [] (k+1) [vP bi,uB,yx]) N [A,.own (left.map dS),x]=some (.rt (.dat (.bl false)),g')):=by
 intro m
 induction m using Nat.strongRecOn with
 |_ m ih=>
  intro left x N hm h60 fJ hN;obtain⟨N,rfl⟩:∃N',N=N'+1:=⟨N - 1,by lia⟩
  have hc:(rn (n+49)).t [] (k+1) Ed [A,.own (left.map dS),x]=some (!decide (left=[]),[A,.own (left.map dS),x]):=by
   have q:=IW left;generalize left.map dS=ld at q ⊢
   unfold Ed;simp! [U,q]
  cases hl:left.getLast? with
  |none=>
   have:left=[]:=List.getLast?_eq_none_iff.mp hl;subst this;rw[i4 rfl]at hc;refine⟨λ_=>⟨x,?_⟩,λh=>absurd (λt ht=>nomatch ht) h⟩
   unfold rA;rw[hc];rfl
  |some t=>
   obtain⟨l',rfl⟩:=AC.mp hl;rw[hV ⋯]at hc;have hc:(rn (n+49)).t [] (k+1) Ed [A,.own ((l'++[t]).map dS),x]=some (true,[A,.own ((l'++[t]).map dS),x]):=hc;have htot:jm (l'++[t])=jm l'+t.length:=by simp[jm]
   have hts:t.length<=800:=by lia
   have cM:((l'++[t]).map dS)[((l'++[t]).map dS).length - 1]?=some (dS t):=by simp
   have hdl:((l'++[t]).map dS).dropLast=l'.map dS:=by rw[kS,AL,tS]
   have bo:=λn k=>Ug (n:=n) (k:=k) U t hts
   have pop:(rn (n+47)).e [] (k+1) (.pop 1) [A,.own ((l'++[t]).map dS),x]=some (.dat (dS t),[A,.own (l'.map dS),x]):=by
    rw[<- hdl];generalize (l'++[t]).map dS=ld at cM ⊢
    simp! [U,cM]
   have call:(rn (n+48)).e [] (k+1) (.call bi [(.pop 1)]) [A,.own ((l'++[t]).map dS),x]=some (Pu t,[A,.own (l'.map dS),x]):=by rw[U.e];simp only[aU,hB,argsR,pop,norm,iH (fx:=JW) rfl,bo];rfl
   cases hb:Eb t with
   |none=>
    have hd:Pu t=.dat .non:=by unfold Pu;rw[hb]
    rw[hd]at call;have hno : ¬ Code bw t:=λh=>by
     obtain⟨l,e,_⟩:=(iK bw t).mp h;rw[hb]at e;cases e
    refine⟨λh=>absurd (h t ⋯) hno,λ_=>⟨[A,.own (l'.map dS),.dat .non],?_⟩⟩
    have a1:aF (rn (n+48)) [] (k+1) (vP bi) [A,.own ((l'++[t]).map dS),x]=some (.nx,[A,.own (l'.map dS),.dat .non]):=by
     generalize (l'++[t]).map dS=ld at call ⊢
     generalize l'.map dS=Vz at call ⊢
     unfold vP aF;simp only[call,toD];simp
    have a2:aF (rn (n+48)) [] (k+1) uB [A,.own (l'.map dS),.dat .non]=some (.rt (.dat (.bl false)),[A,.own (l'.map dS),.dat .non]):=by have q:cO .Is .non .non=some true:=rfl;generalize l'.map dS=Vz;unfold uB;simp! [U,q]
    have bb:(rn (n+49)).b [] (k+1) [vP bi,uB,yx] [A,.own ((l'++[t]).map dS),x]=some (.rt (.dat (.bl false)),[A,.own (l'.map dS),.dat .non]):=by rw[U.b];refine (ao a1).trans ?_;unfold bJ;rw[a2]
    unfold rA;rw[hc];dsimp only;rw[bb]
   |some l=>
    have hd:Pu t=.new (l.map dS):=by unfold Pu;rw[hb]
    rw[hd]at call;have htb:=CT hb;have Zd:=yd hb;have Xz:t.length=jm l+2:=by rw[htb,kB];rfl
    have XZ:l.length<64:=by have:=iM Zd;have:l.length<=jm l:=this;lia
    have a1:aF (rn (n+48)) [] (k+1) (vP bi) [A,.own ((l'++[t]).map dS),x]=some (.nx,[A,.own (l'.map dS),.own (l.map dS)]):=by
     generalize (l'++[t]).map dS=ld at call ⊢
     generalize l'.map dS=Vz at call ⊢
     generalize l.map dS=Ze at call ⊢
     unfold vP aF;simp only[call];simp
    have so:=gW l XZ;have ne:=pP l (aM l);have a2:aF (rn (n+48)) [] (k+1) uB [A,.own (l'.map dS),.own (l.map dS)]=if bw l=true then some (.nx,[A,.own (l'.map dS),.own (l.map dS)])else some (.rt (.dat (.bl false)),[A,.own (l'.map dS),.own (l.map dS)]):=by
     have:(!decide (l=aM l))=!bw l:=by unfold bw;rw[show decide (l=aM l)=decide (aM l=l)by rw[A6];exact⟨Eq.symm,Eq.symm⟩]
     rw[this]at ne;have q:∀y,cO .Is (.lst y) .non=some false:=λ_=>rfl
     generalize l'.map dS=Vz at so ne ⊢
     generalize l.map dS=Ze at so ne ⊢
     generalize (aM l).map dS=ld3 at so ne;cases Ec:bw l with
     |true=>rw[Ec]at ne;unfold uB;simp! [U,q,so,ne]
     |false=>rw[Ec]at ne;unfold uB;simp! [U,q,so,ne]
    cases Ec:bw l with
    |false=>
     rw[Ec,fI ⋯]at a2;have hno : ¬ Code bw t:=λh=>by
      obtain⟨l2,e,h2,_⟩:=(iK bw t).mp h;rw[hb]at e;cases e;rw[Ec]at h2;cases h2
     refine⟨λh=>absurd (h t ⋯) hno,λ_=>⟨[A,.own (l'.map dS),.own (l.map dS)],?_⟩⟩
     have bb:(rn (n+49)).b [] (k+1) [vP bi,uB,yx] [A,.own ((l'++[t]).map dS),x]=some (.rt (.dat (.bl false)),[A,.own (l'.map dS),.own (l.map dS)]):=by rw[U.b];refine (ao a1).trans ?_;unfold bJ;rw[a2]
     unfold rA;rw[hc];dsimp only;rw[bb]
    |true=>
     rw[Ec,eR rfl]at a2;have aJ:l'.length<=jm l'\/l'=[]:=by
      rcases fJ with fJ |fJ
      . exact .inl (iM λs hs=>fJ s (fA _ hs))
      .
       refine .inr ?_;cases l' with
       |nil=>rfl
       |cons a l''=>have:=congrArg List.length fJ;simp at this
     have uC:(l'.map dS).length+(l.map dS).length<=lim:=by
      rw[eC,eC];have h1:l'.length<=100:=by
       rcases aJ with h |h
       . lia
       . rw[h];simp
      exact hU (show _<=1000 by lia) ⋯
     have a3:aF (rn (n+48)) [] (k+1) yx [A,.own (l'.map dS),.own (l.map dS)]=some (.nx,[A,.own ((l'++l).map dS),.dat (.lst (l.map dS))]):=by
      rw[kS];generalize l'.map dS=Vz at uC ⊢
      generalize l.map dS=Ze at uC ⊢
      unfold yx;simp! [U,uC]
     have bb:(rn (n+49)).b [] (k+1) [vP bi,uB,yx] [A,.own ((l'++[t]).map dS),x]=some (.nx,[A,.own ((l'++l).map dS),.dat (.lst (l.map dS))]):=by rw[U.b];exact (ao a1).trans ((ao a2).trans ((ao a3).trans rfl))
     have Zf:jm (l'++l)=jm l'+jm l:=by simp[jm]
     obtain⟨r1,r2⟩:=ih (jm (l'++l)) ⋯ (l'++l) (.dat (.lst (l.map dS))) N (dC _) ⋯ (.inl λs hs=>by
      rcases gL.mp hs with hs |hs
      .
       rcases fJ with fJ |fJ
       . exact fJ s (fA _ hs)
       .
        cases l' with
        |nil=>cases hs
        |cons a l''=>have:=congrArg List.length fJ;simp at this
      .
       exact Zd s hs) ⋯
     have step:rA ((rn (n+49)).t [] (k+1) Ed) ((rn (n+49)).b [] (k+1) [vP bi,uB,yx]) (N+1) [A,.own ((l'++[t]).map dS),x]=rA ((rn (n+49)).t [] (k+1) Ed) ((rn (n+49)).b [] (k+1) [vP bi,uB,yx]) N [A,.own ((l'++l).map dS),.dat (.lst (l.map dS))]:=by
      conv=>lhs;unfold rA
      rw[hc];dsimp only;rw[bb]
     have iff:(∀s∈l'++[t],Code bw s) ↔ ∀s∈l'++l,Code bw s:=by
      constructor
      .
       intro h s hs;rcases gL.mp hs with hs |hs
       . exact h s (fA _ hs)
       . obtain⟨l2,e,_,h2⟩:=(iK bw t).mp (h t ⋯);rw[hb]at e;cases e;exact h2 s hs
      .
       intro h s hs;rcases gL.mp hs with hs |hs
       . exact h s (fA _ hs)
       . rw[dE.mp hs];exact (iK bw t).mpr ⟨l,hb,Ec,λb hb'=>h b (fN _ hb')⟩
     rw[step];exact⟨λh=>r1 (iff.mp h),λh=>r2 λh'=>h (iff.mpr h')⟩
theorem Uh(d:D)(hd:∀x,d=.str x->x.length<=1000):dI (rn (n+51)) (k+1) (Dg bi) [d]=some (.dat (.bl (iN d))):=by
 have no (e:eY (oV d) "str"=false) (e2:iN d=false):dI (rn (n+51)) (k+1) (Dg bi) [d]=some (.dat (.bl (iN d))):=by rw[e2];unfold dI Dg;simp! [U,e]
 cases d with
 |str x=>
  obtain⟨s,rfl⟩:∃s,x=tx s:=⟨x.cps.toList,(Am x).symm⟩;have hx:=hd _ rfl;rw[bU]at hx;have e:eY (oV (D.str (tx s))) "str"=true:=rfl;have aJ:=pR s ⋯;have bY:iN (.str (tx s))=(decide (s.length<=40)&&CN bw s):=by show (decide ((tx s).length<=40)&&CN bw (tx s).cps.toList)=_;rw[bU,fE]
  rw[bY];by_cases hl:s.length<=40
  .
   have hgt : ¬ (40:Int)<(s.length:Int):=by lia
   have c1:aF (rn (n+50)) [] (k+1) (.ite (.or [(.not (.vj ⇑0 "str")),(.cmp .Gt (.blt .len [⇑0]) ↥40)]) [(.ret (.val (.bl false)))] []) [.dat (.str (tx s)),.no,.no]=some (.nx,[.dat (.str (tx s)),.no,.no]):=by simp! [U,e,aJ,hgt]
   have c2:aF (rn (n+50)) [] (k+1) (.set 1 (.lst [⇑0])) [.dat (.str (tx s)),.no,.no]=some (.nx,[.dat (.str (tx s)),.own ([s].map dS),.no]):=by simp! [U,aH 1 ⋯];rfl
   have fJ:(∀t∈[s],t≠[])\/[s]=[[]]:=by
    by_cases h0:s=[]
    . exact .inr (by rw[h0])
    . exact .inl λt ht=>by rw[dE.mp ht];exact h0
   obtain⟨r1,r2⟩:=Ja (n:=n+1) (k:=k) U hB (.dat (.str (tx s))) s.length [s] .no 100000 (by simp[jm]) ⋯ fJ ⋯
   have wh:∀{f:Fl}{g':G},rA ((rn (n+50)).t [] (k+1) Ed) ((rn (n+50)).b [] (k+1) [vP bi,uB,yx]) 100000 [.dat (.str (tx s)),.own ([s].map dS),.no]=some (f,g')->aF (rn (n+50)) [] (k+1) (.while Ed [vP bi,uB,yx]) [.dat (.str (tx s)),.own ([s].map dS),.no]=some (f,g'):=λh=>h
   by_cases hC:Code bw s
   .
    obtain⟨x',r⟩:=r1 λt ht=>by rw[dE.mp ht];exact hC
    rw[i4 hl,(pN bw s).mpr hC];have e5:(rn (n+51)).b [] (k+1) (Dg bi).body [.dat (.str (tx s)),.no,.no]=some (.rt (.dat (.bl true)),[.dat (.str (tx s)),.own [],x']):=by rw[U.b];refine (ao c1).trans ((ao c2).trans ((ao (wh r)).trans ?_));simp! [U,U.e]
    unfold dI;rw[show cF (Dg bi).n (Ea [D.str (tx s)])=[.dat (.str (tx s)),.no,.no]from rfl,e5]
    rfl
   .
    obtain⟨g',r⟩:=r2 λh=>hC (h s ⋯)
    have hf:CN bw s=false:=by
     cases q:CN bw s with
     |false=>rfl
     |true=>exact absurd ((pN bw s).mp q) hC
    rw[hf,BQ];have e5:(rn (n+51)).b [] (k+1) (Dg bi).body [.dat (.str (tx s)),.no,.no]=some (.rt (.dat (.bl false)),g'):=by rw[U.b];refine (ao c1).trans ((ao c2).trans ?_);unfold bJ;rw[wh r]
    unfold dI;rw[show cF (Dg bi).n (Ea [D.str (tx s)])=[.dat (.str (tx s)),.no,.no]from rfl,e5]
    rfl
  .
   have hgt:(40:Int)<(s.length:Int):=by lia
   rw[hV hl,Bool.false_and];unfold dI Dg;simp! [U,e,aJ,hgt]
 |_=>exact no rfl rfl
end
noncomputable def W(m:Nat)(aB: ~~~5):D:=.tup [.int m,.tup (aB.map ∅)]
def tm(t: ~~~0)(x: ~~~0): ~~~0:=if gt t (gt x 0)<gt t (gt x 1)then [gt t (gt x 0),gt t (gt x 1)]else [gt t (gt x 1),gt t (gt x 0)]
theorem pS(t: ~~~0)(a b:Int):tm t [a,b]=if gt t a<gt t b then [gt t a,gt t b]else [gt t b,gt t a]:=rfl
def Pr(m:Nat)(x: ~~~0):Prop:=∃a b:Int,x=[a,b]/\0<=a/\a<b/\b<m
theorem JX(h:Tn m t)(hx:Pr m x):Pr m (tm t x):=by
 obtain⟨a,b,rfl,h1,h2,h3⟩:=hx;have ha:=h.Cy (i:=a) ⋯;have hb:=h.Cy (i:=b) ⋯;have fJ:gt t a≠gt t b:=λe=>by have:=h.inj ⋯ ⋯ e;lia
 rw[pS];split
 . exact⟨_,_,rfl,by lia,by lia,by lia⟩
 . exact⟨_,_,rfl,by lia,by lia,by lia⟩
def jq:Fx:=⟨2,5,[(.set 2 (.lst [])),(.loop (.tp [3,4]) (.ix ⇑0 ↥1) [(.expr (.append 2 (.tup [(.blt .min [(.ix ⇑1 ⇑3),(.ix ⇑1 ⇑4)]),(.blt .max [(.ix ⇑1 ⇑3),(.ix ⇑1 ⇑4)])])))]),(.ret (.tup [(.ix ⇑0 ↥0),(.blt .tuple [(.blt .sorted [⇑2])])]))]⟩
def lR(ti:Nat):Fx:=⟨2,4,[(.set 2 (.rq ⇑1)),(.set 3 (.lst [])),(.while (.cmp .NotEq ⇑2 (.lst [])) [(.expr (.append 3 (.nG 2 (.call ti [⇑0,(.blt .len [⇑2])]))))]),(.ret (.blt .tuple [⇑3]))]⟩
def rZ(ti:Nat):List Sm:=[(.expr (.append 3 (.tup [(.ix (.lst [(.call ti [⇑0,⇑4]),(.bin .Sub ⇑4 ↥1),↥0,(.blt .max [↥0,(.bin .Sub ⇑4 ↥2)])]) ⇑2),⇑4])))]
def lT(ti na mi:Nat):Fx:=⟨2,5,[(.set 2 (.call ti [⇑0,↥4])),(.set 3 (.lst [])),(.loop (.nm 4) (.je ↥1 ⇑1) (rZ ti)),(.ret (.call na [(.tup [⇑1,(.blt .tuple [⇑3])]),(.call mi [⇑0,⇑1])]))]⟩
theorem Ui{m:Nat}{t: ~~~0}(ht:Tn m t){a b:Int}(h:0<=a/\a<b/\b<m):[if gt t b<gt t a then gt t b else gt t a,if gt t b > gt t a then gt t b else gt t a]=tm t [a,b]:=by
 have fJ:gt t a≠gt t b:=λe=>by have:=ht.inj ⋯ ⋯ e;lia
 rw[pS];by_cases q:gt t a<gt t b
 . rw[fI ⋯,eR ⋯,eR q]
 . rw[eR ⋯,fI ⋯,fI q]
def Dh(j:Nat)(l: ~~~5):Prop:=l.length=j/\∀i,i<j->∃v:Int,l[i]?=some [v,((i+1:Nat):Int)]/\0<=v/\v<=i
theorem Dh.more{j:Nat}{l: ~~~5}(h:Dh j l){v z:Int}(hz:z=1+(j:Int))(hv:0<=v/\v<z):Dh (j+1) (l++[[v,z]]):=by
 refine⟨by rw[hZ,h.1];rfl,λi hi=>?_⟩
 rcases vS i j with q |q
 . obtain⟨u,e,hu⟩:=h.2 i q;exact⟨u,by rw[eA (by rw[h.1];exact q)];exact e,hu⟩
 .
  obtain rfl:i=j:=by lia
  refine⟨v,?_,by lia,by lia⟩
  rw[eD (by rw[h.1];exact dC _),h.1,Nat.sub_self,hz]
  show some [v,1+(i:Int)]=_;rw[show (1:Int)+(i:Int)=((i+1:Nat):Int)by lia]
theorem Dh.at{j:Nat}{l: ~~~5}(h:Dh j l){x: ~~~0}(hx:x∈l):∃(i:Nat) (v:Int),i<j/\l[i]?=some x/\x=[v,((i+1:Nat):Int)]/\0<=v/\v<=i:=by
 obtain⟨i,hi,e⟩:=List.mem_iff_getElem.mp hx;have hi':i<j:=by rw[<- h.1];exact hi
 obtain⟨v,e2,hv⟩:=h.2 i hi';rw[i7 hi,e]at e2;exact⟨i,v,hi',by rw[i7 hi,e],i6 e2,hv⟩
theorem Dh.pr{j m:Nat}{l: ~~~5}(h:Dh j l)(hm:j<m):∀x∈l,Pr m x:=λx hx=>by
 obtain⟨i,v,hi,_,e,hv⟩:=h.at hx;exact⟨v,_,e,by lia,by lia,by lia⟩
section
variable{bor:List Nat}{k n:Nat}{g g1:G}{rn:Nat->Rn}{fns:List Fx}{ti na mi:Nat}(U:rR fns rn)
include U
theorem Di(m:Nat)(hm:m<=60)(l: ~~~5)(hl:∀x∈l,Pr m x)(hn:l.length<=60)(t: ~~~0)(ht:Tn m t):dI (rn (n+20)) k jq [.tup [.int m,.tup (l.map ∅)],~~~t]=some (.dat (W m (bT fC (l.map (tm t))))):=by
 have tl:=ht.length;obtain⟨g',⟨dn,a3,a4,h1,rfl⟩,h3⟩:=d7 (T:=.tp [3,4]) (b:=(rn (n+19)).b [] k [(.expr (.append 2 (.tup [(.blt .min [(.ix ⇑1 ⇑3),(.ix ⇑1 ⇑4)]),(.blt .max [(.ix ⇑1 ⇑3),(.ix ⇑1 ⇑4)])])))]) (λx:List Int=>~~~x)
  (I:=λaE g=>∃(dn: ~~~5) (a3 a4:Slot),l=dn++aE/\g=[.dat (.tup [.int m,.tup (l.map ∅)]),.dat (~~~t),.own ((dn.map (tm t)).map ∅),a3,a4])
  (step:=λx aE g h=>by
   obtain⟨dn,a3,a4,h1,rfl⟩:=h;obtain⟨a,b,rfl,hab⟩:=hl x (by rw[h1];simp)
   have i1:L2.dD (t.map D.int) a=some (.int (gt t a)):=Cv ⋯;have i2:L2.dD (t.map D.int) b=some (.int (gt t b)):=Cv ⋯;have hdl:=eP (u7 _) (aH (dn.length+1) (by rw[h1,hZ]at hn;lia))
   refine⟨[.dat (.tup [.int m,.tup (l.map ∅)]),.dat (~~~t),.own ((dn.map (tm t)).map ∅),‹a›,‹b›],[.dat (.tup [.int m,.tup (l.map ∅)]),.dat (~~~t),.own (((dn++[[a,b]]).map (tm t)).map ∅),‹a›,‹b›],rfl,?_,dn++[[a,b]],_,_,by rw[h1,mM];rfl,rfl⟩
   rw[kS,kS,AL,<- Ui ht hab];simp! [U,i1,i2,hdl,aH 2 ⋯];rfl) l [.dat (.tup [.int m,.tup (l.map ∅)]),.dat (~~~t),.own [],.no,.no] ⟨[],.no,.no,rfl,rfl⟩
 rw[nN]at h1;subst h1;have bs:=lP (l.map (tm t)) (λx hx e=>by
  obtain⟨y,hy,rfl⟩:=gN.mp hx;obtain⟨a,b,e',_⟩:=JX ht (hl y hy);rw[e']at e;cases e) (by rw[eC];lia)
 have i0:L2.dD [D.int (m:Int),.tup (l.map ∅)] 0=some (.int m):=rfl
 have i1:L2.dD [D.int (m:Int),.tup (l.map ∅)] 1=some (.tup (l.map ∅)):=rfl
 unfold dI jq;simp! [U,Tg.pF,jD,i0,i1,h3,bs];rfl
variable(hT:fns[ti]?=some bX)
include hT
theorem Jb{i:Nat}{s:Int}{fl:Bool}(m:Nat)(hi:g[i]?=some (St s fl))(hm:m<=60):∃(row: ~~~0) (s':Int),Tn m row/\aX (rn (n+50)) (lR ti) (k+1) [.var i,‹m›] g=some (.dat (~~~row),g.set i (St s' fl)):=by
 have hlm:=Cw m;have loop:=vB (c:=(rn (n+49)).t [0] (k+1) (.cmp .NotEq ⇑2 (.lst []))) (b:=(rn (n+49)).b [0] (k+1) [(.expr (.append 3 (.nG 2 (.call ti [⇑0,(.blt .len [⇑2])]))))])
  (I:=λq g=>∃(s:Int) (left found: ~~~0),left.length=q/\(found++left).Perm (nums m)/\g=[St s fl,‹m›,.own (left.map .int),.own (found.map .int)])
  (step:=λq g h=>by
   obtain⟨s,left,found,h1,h2,rfl⟩:=h;have aJ:=h2.length_eq;rw[hZ]at aJ;obtain⟨r,s',q1,q2,q3⟩:=cA U (n:=n+25) (k:=k) (g:=[St s fl,‹m›,.own (left.map .int),.own (found.map .int)]) (i:=0) (m:=(left.length:Int)) rfl ⋯;obtain⟨j,rfl⟩:∃j:Nat,r=j:=⟨r.toNat,by lia⟩
   have hj:j<left.length:=by lia
   have e1:(left.map D.int)[j]?=some (.int left[j]):=by simp[hj]
   have e2:=nU left j;have z1:=eP (u7 _) (aH (left.length+1) ⋯);have z2:=eP (u7 _) (aH (found.length+1) ⋯);have fJ:left≠[]:=λe=>by rw[e]at hj;exact absurd hj (y6 _)
   refine⟨[St s fl,‹m›,.own (left.map .int),.own (found.map .int)],[St s' fl,‹m›,.own ((left.eraseIdx j).map .int),.own ((found++[left[j]]).map .int)],by simp! [U,CG,fJ],?_,s',left.eraseIdx j,found++[left[j]],?_,?_,rfl⟩
   . have Jv:=q3;simp! [U,hT,Jv,Pb hj,e1,e2,z1,z2];simp
   . rw[List.length_eraseIdx_of_lt hj];lia
   .
    refine List.Perm.trans ?_ h2;rw[mM];refine List.Perm.append_left _ ?_;exact rS left j hj)
  (fin:=λg h=>by
   obtain⟨s,left,found,h1,h2,rfl⟩:=h;have:=x0 h1;simp! [U,CG,this])
 obtain⟨g',⟨s',left,found,q1,q2,rfl⟩,q3⟩:=loop m 100000 [St s fl,‹m›,.own ((nums m).map .int),.own []] ⋯ ⟨s,nums m,[],hlm,by simp,rfl⟩
 have X3:=x0 q1;subst X3;rw[nN]at q2;refine⟨found,s',Tn.of q2,?_⟩;have hr:dX 0 m=(nums m).map .int:=Cr m;have hp:cF (lR ti).n [St s fl,‹m›]=[St s fl,‹m›,.no,.no]:=rfl;have body:(rn (n+50)).b [0] (k+1) (lR ti).body [St s fl,‹m›,.no,.no]=some (.rt (.dat (~~~found)),[St s' fl,‹m›,.own [],.own (found.map .int)]):=by unfold lR;simp! [U,d9 m ⋯,aH m ⋯,hr,q3]
 unfold aX;simp only[vars,bW,hi,List.map_cons,List.map_nil];rw[hp,body];rfl
variable(hN:fns[na]?=some jq)(hM:fns[mi]?=some (lR ti))
include hN hM
theorem Dj{i:Nat}{s:Int}{fl:Bool}(m:Nat)(hm:1<=m/\m<=60)(hi:g[i]?=some (St s fl)):∃(l: ~~~5) (row: ~~~0) (s':Int),Dh (m - 1) l/\Tn m row/\aX (rn (n+70)) (lT ti na mi) (k+3) [.var i,‹m›] g=some (.dat (W m (bT fC (l.map (tm row)))),g.set i (St s' fl)):=by
 obtain⟨w,s1,w1,w2,q1⟩:=cA U (n:=n+48) (k:=k+2) (g:=[St s fl,‹m›,.no,.no,.no]) (i:=0) (s:=s) (fl:=fl) (m:=4) rfl ⋯;have zg:=q1;have e1:aF (rn (n+69)) [0] (k+3) (.set 2 (.call ti [⇑0,↥4])) [St s fl,‹m›,.no,.no,.no]=some (.nx,[St s1 fl,‹m›,‹w›,.no,.no]):=by simp! [U,hT,zg]
 have e2:aF (rn (n+69)) [0] (k+3) (.set 3 (.lst [])) [St s1 fl,‹m›,‹w›,.no,.no]=some (.nx,[St s1 fl,‹m›,‹w›,.own [],.no]):=by simp! [U,aH 0 ⋯]
 obtain⟨g',⟨j,aB,s2,a4,h0,h1,h2,rfl⟩,hq⟩:=d7 (T:=.nm 4) (b:=(rn (n+69)).b [0] (k+3) (rZ ti)) (λ(j:Nat)=>D.int (1+(j:Int)))
  (I:=λl g=>∃(j:Nat) (aB: ~~~5) (s2:Int) (a4:Slot),j<m/\l=List.range' j (m - 1 - j)/\Dh j aB/\g=[St s2 fl,‹m›,‹w›,.own (aB.map ∅),a4])
  (step:=λa l g h=>by
   obtain⟨j,aB,s2,a4,h0,h1,h2,rfl⟩:=h;have hjm:j<m - 1:=by
    rcases vS j (m - 1)with h |h
    . exact h
    . rw[Nat.sub_eq_zero_of_le h]at h1;cases h1
   have hc:List.range' j (m - 1 - j)=j::List.range' (j+1) (m - 1 - (j+1)):=by rw[show m - 1 - j=(m - 1 - (j+1))+1 by lia,List.range'_succ]
   rw[hc]at h1;injection h1 with e1 e2;subst e1 e2;obtain⟨z,hz⟩:∃z:Int,z=1+(a:Int):=⟨_,rfl⟩;rw[<- hz];obtain⟨r,s3,r1,r2,q⟩:=cA U (n:=n+43) (k:=k+2) (g:=[St s2 fl,‹m›,‹w›,.own (aB.map ∅),‹z›]) (i:=0) (s:=s2) (m:=z) rfl ⋯
   have q':=q;obtain⟨v,hv,h5⟩:∃v:Int,(0<=v/\v<z)/\L2.dD [D.int r,.int (z - 1),.int 0,.int (if 2<z then z - 2 else 0)] w=some (.int v):=by
    have:w=0\/w=1\/w=2\/w=3:=by lia
    rcases this with rfl |rfl |rfl |rfl
    . exact⟨r,by lia,rfl⟩
    . exact⟨z - 1,by lia,rfl⟩
    . exact⟨0,by lia,rfl⟩
    . exact⟨_,by split <;> lia,rfl⟩
   have hl:=h2.1;have z2:=eP (u7 _) (aH (aB.length+1) ⋯);refine⟨[St s2 fl,‹m›,‹w›,.own (aB.map ∅),‹z›],[St s3 fl,‹m›,‹w›,.own ((aB++[[v,z]]).map ∅),‹z›],rfl,?_,a+1,aB++[[v,z]],s3,_,by lia,rfl,h2.more (v:=v) (z:=z) ⋯ ⋯,rfl⟩
   .
    rw[kS];unfold rZ;simp! [U,hT,q',h5,z2,aH 4 ⋯,aH 2 ⋯];rfl) (List.range' 0 (m - 1)) [St s1 fl,‹m›,‹w›,.own [],.no] ⟨0,[],s1,.no,by lia,rfl,⟨rfl,λi hi=>absurd hi (y6 _)⟩,rfl⟩
 have hr:dX 1 (m - 1)=(List.range' 0 (m - 1)).map λ(x:Nat)=>D.int (1+(x:Int)):=by unfold dX;rw[List.range_eq_range']
 have e3:aF (rn (n+69)) [0] (k+3) (.loop (.nm 4) (.je ↥1 ⇑1) (rZ ti)) [St s1 fl,‹m›,‹w›,.own [],.no]=some (.nx,[St s2 fl,‹m›,‹w›,.own (aB.map ∅),a4]):=by
  have e:((m:Int) - 1).toNat=m - 1:=by lia
  generalize hb:(rn (n+69)).b [0] (k+3) (rZ ti)=bb at hq;simp! [U,Tg.ix,jD,d9 1 ⋯,d9 m ⋯,hr,hb,hq]
 have hj:j=m - 1:=by
  rcases vS j (m - 1)with q |q
  .
   have:m - 1 - j=(m - 1 - j - 1)+1:=by lia
   rw[this,List.range'_succ]at h1;cases h1
  . lia
 subst hj;have hl:=h2.1;have hp:=h2.pr (m:=m) ⋯;obtain⟨row,s3,Dk,q4⟩:=Jb U hT (n:=n+17) (k:=k+1) (g:=[St s2 fl,‹m›,‹w›,.own (aB.map ∅),a4]) (i:=0) (s:=s2) (fl:=fl) m rfl ⋯
 have JZ:=q4;have q5:=λn k=>Di U (n:=n) (k:=k) m ⋯ aB hp ⋯ row Dk
 have e4:aF (rn (n+69)) [0] (k+3) (.ret (.call na [(.tup [⇑1,(.blt .tuple [⇑3])]),(.call mi [⇑0,⇑1])])) [St s2 fl,‹m›,‹w›,.own (aB.map ∅),a4]=some (.rt (.dat (W m (bT fC (aB.map (tm row))))),[St s3 fl,‹m›,‹w›,.own (aB.map ∅),a4]):=by simp! [U,aH 2 ⋯,hM,JZ,hN,eU (fx:=jq) rfl,q5]
 refine⟨aB,row,s3,h2,Dk,?_⟩;have hpd:cF (lT ti na mi).n [St s fl,‹m›]=[St s fl,‹m›,.no,.no,.no]:=rfl;have body:(rn (n+70)).b [0] (k+3) (lT ti na mi).body [St s fl,‹m›,.no,.no,.no]=some (.rt (.dat (W m (bT fC (aB.map (tm row))))),[St s3 fl,‹m›,‹w›,.own (aB.map ∅),a4]):=by unfold lT;rw[U.b,ao e1,ao e2,ao e3];unfold bJ;rw[e4]
 unfold aX;simp only[vars,bW,hi,List.map_cons,List.map_nil];rw[hpd,body];rfl
end
open CK
def ez(aB: ~~~5):vH:=aB.map λx=>(gt x 0,gt x 1)
theorem Dl{m:Nat}{l: ~~~5}{row: ~~~0}(hl:Dh (m - 1) l)(hm:1<=m)(hr:Tn m row):∀j,j<=m - 1->Good (ez ((l.take j).map (tm row))) ((List.range (j+1)).map λ(i:Nat)=>gt row (i:Int)):=by
 intro j
 induction j with
 |zero=>intro _;exact Good.one _
 |succ j ih=>
  intro hj;obtain⟨v,e,hv⟩:=hl.2 j ⋯;have ht:l.take (j+1)=l.take j++[[v,((j+1:Nat):Int)]]:=by rw[List.take_add_one,e];rfl
  rw[ht,kS,List.range_succ,kS];have eE:ez ((l.take j).map (tm row)++[[v,((j+1:Nat):Int)]].map (tm row))=ez ((l.take j).map (tm row))++[(gt (tm row [v,((j+1:Nat):Int)]) 0,gt (tm row [v,((j+1:Nat):Int)]) 1)]:=by unfold ez;rw[kS];rfl
  rw[eE];have hv0:gt row v∈(List.range (j+1)).map λ(i:Nat)=>gt row (i:Int):=gN.mpr ⟨v.toNat,tJ.mpr ⋯,by rw[show ((v.toNat:Nat):Int)=v by lia]⟩
  refine (ih ⋯).more (u:=gt row v) (w:=gt row ((j+1:Nat):Int)) ?_ hv0 λh=>?_
  .
   rw[pS];split
   . exact .inl ⟨rfl,rfl⟩
   . exact .inr ⟨rfl,rfl⟩
  .
   obtain⟨i,hi,e⟩:=gN.mp h;have:=hr.inj (i:=(i:Int)) (j:=((j+1:Nat):Int)) (by have:=tJ.mp hi;lia) ⋯ e
   have:=tJ.mp hi;lia
theorem Jc{m:Nat}{l: ~~~5}{row: ~~~0}(hl:Dh (m - 1) l)(hm:1<=m)(hr:Tn m row){p:Int}(hp:0<=p/\p<m):∃vs,RT (ez (bT fC (l.map (tm row)))) p none vs/\vs.length<=m:=by
 have g:=Dl hl hm hr (m - 1) (dC _);rw[show m - 1+1=m by lia,List.take_of_length_le (by rw[hl.1];exact dC _)]at g
 have hpV:p∈(List.range m).map λ(i:Nat)=>gt row (i:Int):=by have h1:p∈row:=hr.mem.mpr hp;obtain⟨i,hi,e⟩:=List.mem_iff_getElem.mp h1;have aJ:=hr.length;refine gN.mpr ⟨i,tJ.mpr ⋯,?_⟩;rw[<- e];show row.getD ((i:Int)).toNat 0=_;rw[wT,sR,i7 hi];rfl
 obtain⟨vs,r,nd,sub⟩:=g.2 p hpV;obtain⟨ws,r2,pw⟩:=r.perm (F:=ez (bT fC (l.map (tm row)))) ((cY (O:=fC) (l.map (tm row))).symm.map _);refine⟨ws,r2,?_⟩;rw[pw.length_eq];have:=nd.length_le_of_subset sub;rw[eC,List.length_range]at this;exact this
def lU:Nat->vH->Int->Option Int->bu
 | 0,_,_,_=>[]
 |f+1,E,p,a=>brk (aM ((aO E p a).map λq=>lU f E q (some p)))
theorem Dm{E:vH}{p:Int}{a:Option Int}{vs: ~~~0}(h:RT E p a vs):∀f,vs.length<=f->Code bw (lU f E p a)/\(lU f E p a).length=2 * vs.length:=by
 induction h with
 |mk p a vs hk ih=>
  intro f hf;cases f with
  |zero=>simp at hf
  |succ f=>
   have sub:∀c∈aO E p a,(vs c).length<=f:=λc hc=>by
    have h1:(vs c).length<=((aO E p a).flatMap vs).length:=(List.sublist_flatten_of_mem (gN.mpr ⟨c,hc,rfl⟩):(vs c).Sublist ((aO E p a).map vs).flatten).length_le;rw[i3]at hf;lia
   have perm:=eK ((aO E p a).map λq=>lU f E q (some p))
   refine⟨.mk _ (λb hb=>?_) (by unfold bw;rw[tM];exact i4 rfl),?_⟩
   . obtain⟨c,hc,rfl⟩:=gN.mp (perm.mem_iff.mp hb);exact (ih c hc f (sub c hc)).1
   .
    show (brk _).length=_;rw[kB];have e1:(((aM ((aO E p a).map λq=>lU f E q (some p))).map List.length)).sum=(((aO E p a).map λq=>lU f E q (some p)).map List.length).sum:=(perm.map _).sum_nat
    rw[e1,List.map_map,i3,List.length_flatMap];have key:∀l:List Int,(∀c∈l,c∈aO E p a)->(l.map (List.length ∘ λq=>lU f E q (some p))).sum=2 * (l.map λc=>(vs c).length).sum:=by
     intro l
     induction l with
     |nil=>intro _;rfl
     |cons c l ihl=>
      intro h;rw[List.map_cons,List.map_cons,List.sum_cons,List.sum_cons,ihl λd hd=>h d (a8 _ hd)]
      have:=(ih c (h c bP) f (sub c (h c bP))).2;show (lU f E c (some p)).length+_=_;rw[this];lia
    rw[key _ λ_ h=>h]
    lia
section
variable{rn:Rn}{bor:List Nat}{k:Nat}
theorem yf(h:i<g.length):(gM g m acc).set i s=gM (g.set i s) m acc:=by unfold gM;rw[List.set_append_left _ _ h]
theorem r9{i j last kk:Nat}{fl:Bool}{e:Ex}{P:D->Prop}(g:G)(hi:i<g.length)(cM:last=g.length+kk)(hj1:g.length<=j)(hj2:j<g.length+kk)
  (he:∀s G',G'[i]?=some (St s fl)->(∀i',i'≠i->i'<g.length->G'[i']?=g[i']?)->∃d s',P d/\gk rn bor k e G'=some (d,G'.set i (St s' fl))) :
  ∀(items:List D) (s:Int) (m:G) (acc:List D),m.length=kk->acc.length+items.length<=lim->∃ds s' m',m'.length=kk/\ds.length=items.length/\(∀d∈ds,P d)/\Bd rn bor k (.nm j) last none e items (gM (g.set i (St s fl)) m acc)=some (gM (g.set i (St s' fl)) m' (acc++ds))
 | [],s,m,acc,hm,_=>⟨[],s,m,hm,rfl,(λ_ h=>nomatch h),by rw[nN];rfl⟩
 |x::items,s,m,acc,hm,hl=>by
  rw[i3]at hl;have hg:(g.set i (St s fl)).length=g.length:=pV;have q1:Tg.set (.nm j) x (gM (g.set i (St s fl)) m acc)=some (gM (g.set i (St s fl)) (m.set (j - g.length) (.dat x)) acc):=by
   show some ((gM (g.set i (St s fl)) m acc).set j (.dat x))=_;have:=eT (g:=g.set i (St s fl)) (m:=m) (acc:=acc) (i:=j - g.length) (s:=.dat x) ⋯;rw[hg,show g.length+(j - g.length)=j by lia]at this
   rw[this]
  obtain⟨d,s1,hd,q2⟩:=he s (gM (g.set i (St s fl)) (m.set (j - g.length) (.dat x)) acc) (by rw[fS ⋯,fR hi]) λi' h1 h2=>by rw[fS ⋯,dL (oS h1)]
  rw[yf ⋯,List.set_set]at q2;have hm':(m.set (j - g.length) (Slot.dat x)).length=kk:=by rw[pV];exact hm
  obtain⟨ds,s',m',w1,w2,w3,w4⟩:=r9 g hi cM hj1 hj2 he items s1 (m.set (j - g.length) (.dat x)) (acc++[d]) hm' (by rw[hZ,u8];lia)
  refine⟨d::ds,s',m',w1,by rw[i3,i3,w2],λy hy=>(c6.mp hy).elim (λe=>e▸hd) (w3 y),?_⟩
  have sy:(g.set i (St s1 fl)).length=g.length:=pV;have q4:(gM (g.set i (St s1 fl)) (m.set (j - g.length) (.dat x)) acc)[last]?=some (.own acc):=by rw[cM,<- hm',<- sy];exact ki
  have q5:(gM (g.set i (St s1 fl)) (m.set (j - g.length) (.dat x)) acc).set last (.own (acc++[d]))=gM (g.set i (St s1 fl)) (m.set (j - g.length) (.dat x)) (acc++[d]):=by rw[cM,<- hm',<- sy];exact jE
  unfold Bd;rw[q1];dsimp only[DT];rw[q2];dsimp only;rw[q4];dsimp only;rw[eR ⋯,q5,w4,mM];rfl
theorem yg{i j nn kk:Nat}{fl:Bool}{it e:Ex}{P:D->Prop}(g:G)(s:Int)(hg:g[i]?=some (St s fl))(items:List D)(hw:jD rn bor k false it g=some (items,g))(hn:nn=g.length)(hj1:g.length<=j)(hj2:j<g.length+kk)(hb:j∉bor)(hl:items.length<=lim)
  (he:∀s G',G'[i]?=some (St s fl)->(∀i',i'≠i->i'<g.length->G'[i']?=g[i']?)->∃d s',P d/\gk rn bor k e G'=some (d,G'.set i (St s' fl))) :
  ∃ds s',ds.length=items.length/\(∀d∈ds,P d)/\dm rn bor k nn kk (.nm j) it none e g=some (ds,g.set i (St s' fl)):=by
 subst hn;have hi:=(dA.mp hg).1;obtain⟨ds,s',m',w1,w2,w3,w4⟩:=r9 g hi rfl hj1 hj2 he items s (List.replicate kk .no) [] ⋯ (by simpa using hl)
 have e0:g.set i (St s fl)=g:=by
  apply List.ext_getElem?;intro a;by_cases h:a=i
  . subst h;rw[fR hi,hg]
  . rw[dL (oS h)]
 rw[e0]at w4;refine⟨ds,s',w2,w3,?_⟩;have sy:(g.set i (St s' fl)).length=g.length:=pV;have q4:(gM (g.set i (St s' fl)) m' ([]++ds))[g.length+kk]?=some (.own ds):=by have:=ki (g:=g.set i (St s' fl)) (m:=m') (acc:=[]++ds);rw[sy,w1]at this;exact this
 have q5:(gM (g.set i (St s' fl)) m' ([]++ds)).take g.length=g.set i (St s' fl):=by rw[<- sy];exact vq
 unfold dm;rw[show Tg.pF (.nm j)=false from rfl,hw]
 dsimp only;rw[eR ⟨rfl,by simpa [Tg.ix]using hb⟩,JR,w4]
 dsimp only;rw[q4];rw[q5]
end
open CK
def jr:Fx:=⟨2,2,[(.ret (.comp 2 3 (.tp [3,4]) (.ix ⇑0 ↥1) (some (.cmp .In ⇑1 (.tup [⇑3,⇑4]))) (.bin .Sub (.bin .Add ⇑3 ⇑4) ⇑1)))]⟩
def X4(ni ci:Nat):Sm:=.setC 3 (.comp 4 2 (.nm 5) (.call ni [⇑0,⇑1]) (some (.cmp .NotEq ⇑5 ⇑2)) (.call ci [⇑0,⇑5,⇑1]))
noncomputable def X5:Sm:=.ret (.bin .Add (.bin .Add (.val (.str (PySem.Str.ofString "("))) (.join (.blt .sorted [⇑3]))) (.val (.str (PySem.Str.ofString ")"))))
def gq(ni ci:Nat):Fx:=⟨3,4,[X4 ni ci,X5]⟩
theorem Jd(i a b:Int):cO .In (.int i) (.tup [.int a,.int b])=some (decide (i=a\/i=b)):=by
 have h:xN (.int i) [.int a,.int b]=true:=by have:=jj [a,b];have:=jk [a,b];simp_all [xN,iQ]
 have e:decide (i=a\/i=b)=(decide (a=i)||decide (b=i)):=by
  rw[pE];simp only[mN,y7];constructor
  .
   rintro (h |h)
   . exact .inl h.symm
   . exact .inr h.symm
  .
   rintro (h |h)
   . exact .inl h.symm
   . exact .inr h.symm
 rw[e];simp only[cO,dR,h,if_true]
 congr 1
 rw[pE];simp[bL]
def aD:Option Int->D
 |none=>.non
 |some q=>.int q
theorem Px(q:Int)(a:Option Int):cO .NotEq (.int q) (aD a)=some (decide (some q≠a)):=by
 cases a with
 |none=>rfl
 |some b=>
  have:=Cp q b;rw[show aD (some b)=.int b from rfl,this]
  congr 1
  rw[pE];simp
section
variable{k n ni ci:Nat}{g g1:G}{rn:Nat->Rn}{fns:List Fx}(U:rR fns rn)
include U
theorem Dn(m:Nat)(aB: ~~~5)(hp:∀x∈aB,Pr m x)(hl:aB.length<=60)(i:Int):dI (rn (n+20)) k jr [W m aB,.int i]=some (.new ((aY (ez aB) i).map .int)):=by
 have i1:Ba (W m aB) (.int 1)=some (.tup (aB.map ∅)):=rfl
 have w:=λn k=>JT (rn:=rn (n+12)) (bor:=[]) (k:=k) (g:=[.dat (W m aB),‹i›]) (g1:=[.dat (W m aB),‹i›]) (kk:=3) (nn:=2) (j1:=3) (j2:=4) (it:=.ix ⇑0 ↥1) (c:=some (.cmp .In ⇑1 (.tup [⇑3,⇑4]))) (e:=.bin .Sub (.bin .Add ⇑3 ⇑4) ⇑1) aB (λx=>.int (gt x 0)) (λx=>.int (gt x 1)) (λx=>decide (i=gt x 0\/i=gt x 1)) (λx=>.int (gt x 0+gt x 1 - i)) (by
   have e:aB.map ∅=aB.map λx=>.tup [.int (gt x 0),.int (gt x 1)]:=AF λx hx=>by
    obtain⟨a,b,rfl,_⟩:=hp x hx;rfl
   simp! [U,jD,i1,<- e]) rfl ⋯ ⋯ ⋯ ⋯ ⋯ ⋯ ⋯ (aH _ ⋯)
  (λx _ G' hG=>by
   have h1:G'[1]?=some ‹i›:=hG.1 1 ⋯;simp! [U,DT,h1,hG.2.1,hG.2.2,Jd,aH 2 ⋯])
  (λx _ _ G' hG=>by
   have h1:G'[1]?=some ‹i›:=hG.1 1 ⋯;simp! [U,h1,hG.2.1,hG.2.2])
 have e:(aB.filter (λx=>decide (i=gt x 0\/i=gt x 1))).map (λx=>D.int (gt x 0+gt x 1 - i))=(aY (ez aB) i).map .int:=by unfold aY ez;rw[List.filter_map,List.map_map,List.map_map];rfl
 rw[<- e];unfold dI jr;simp! [U,w]
variable(hN:fns[ni]?=some jr)(hC:fns[ci]?=some (gq ni ci))
include hN hC
theorem Je(m:Nat)(aB: ~~~5)(hp:∀x∈aB,Pr m x)(hl:aB.length<=60):∀(f:Nat) (p:Int) (a:Option Int) (vs: ~~~0),RT (ez aB) p a vs->vs.length<=f->f<=30->∀n k,dI (rn (n+40 * f)) (k+f) (gq ni ci) [W m aB,.int p,aD a]=some (.dat (dS (lU f (ez aB) p a))):=by
 intro f
 induction f with
 |zero=>intro p a vs h hf;cases h with |mk _ _ _ _=>simp at hf
 |succ f ih=>
  intro p a vs h hf h30 n k;obtain⟨hcode,se⟩:=Dm h (f+1) hf;cases h with
  |mk _ _ vs hk=>
   have sub:∀c∈aO (ez aB) p a,(vs c).length<=f:=λc hc=>by
    have h1:(vs c).length<=((aO (ez aB) p a).flatMap vs).length:=(List.sublist_flatten_of_mem (gN.mpr ⟨c,hc,rfl⟩):(vs c).Sublist ((aO (ez aB) p a).map vs).flatten).length_le;rw[i3]at hf;lia
   obtain⟨x,hx⟩:∃x,x=n+40 * f:=⟨_,rfl⟩;rw[show n+40 * (f+1)=x+40 by lia,show k+(f+1)=k+f+1 by lia]
   have q1:=λn k=>Dn (n:=n) (k:=k) U m aB hp hl p
   have q2:∀c∈aO (ez aB) p a,dI (rn (x+38)) (k+f) (gq ni ci) [W m aB,.int c,.int p]=some (.dat (dS (lU f (ez aB) c (some p)))):=λc hc=>by
    have:=ih c (some p) (vs c) (hk c hc) (sub c hc) ⋯ (n+38) k;rw[show n+38+40 * f=x+38 by lia]at this
    exact this
   have hnl:(aY (ez aB) p).length<=60:=by unfold aY ez;rw[eC];exact hU (List.length_filter_le _ _) (by rw[eC];exact hl)
   have cp:dm (rn (x+39)) [] (k+f+1) 4 2 (.nm 5) (.call ni [⇑0,⇑1]) (some (.cmp .NotEq ⇑5 ⇑2)) (.call ci [⇑0,⇑5,⇑1]) [.dat (W m aB),‹p›,.dat (aD a),.no]=some (((aY (ez aB) p).filter λq=>decide (some q≠a)).map (λq=>dS (lU f (ez aB) q (some p))),[.dat (W m aB),‹p›,.dat (aD a),.no]):=by
    refine T6 (g1:=[.dat (W m aB),‹p›,.dat (aD a),.no]) (aY (ez aB) p) (λq=>D.int q) (λq=>decide (some q≠a)) (λq=>dS (lU f (ez aB) q (some p))) ?_ rfl ⋯ ⋯ ⋯ (aH _ ⋯) (λq _ G' hG=>?_) λq hq hpq G' hG=>?_
    .
     show _=some ((aY (ez aB) p).map D.int,_);generalize (aY (ez aB) p).map D.int=nl at q1 ⊢
     generalize W m aB=w at q1 ⊢
     simp! [U,jD,hN,eU (fx:=jr) rfl,q1]
    .
     have h2:G'[2]?=some (.dat (aD a)):=hG.1 2 ⋯;have h5:=hG.2;have c:=Px q a;generalize aD a=da at h2 c;generalize decide (some q≠a)=b at c ⊢
     simp! [U,DT,h2,h5,c]
    .
     have h0:G'[0]?=some (.dat (W m aB)):=hG.1 0 ⋯;have h1:G'[1]?=some ‹p›:=hG.1 1 ⋯;have h5:=hG.2;have q3:=q2 q (eQ.mpr ⟨hq,hpq⟩);generalize dS (lU f (ez aB) q (some p))=dd at q3 ⊢
     generalize W m aB=w at h0 q3;simp! [U,h0,h1,h5,hC,vD (fx:=gq ni ci) rfl,q3]
   have kd:((aY (ez aB) p).filter λq=>decide (some q≠a))=aO (ez aB) p a:=rfl
   rw[kd]at cp;have em:(aO (ez aB) p a).map (λq=>dS (lU f (ez aB) q (some p)))=((aO (ez aB) p a).map λq=>lU f (ez aB) q (some p)).map dS:=by rw[List.map_map];rfl
   rw[em]at cp;generalize hS:(aO (ez aB) p a).map (λq=>lU f (ez aB) q (some p))=qqz at cp
   have bY:lU (f+1) (ez aB) p a=brk (aM qqz):=by
    show brk (aM ((aO (ez aB) p a).map λq=>lU f (ez aB) q (some p)))=_
    rw[hS]
   have hLl:qqz.length<=60:=by rw[<- hS,eC];exact hU (List.length_filter_le _ _) hnl
   rw[bY]at se ⊢
   rw[kB]at se;have hsum:((aM qqz).map List.length).sum<=900:=by lia
   have s1:aF (rn (x+39)) [] (k+f+1) (X4 ni ci) [.dat (W m aB),‹p›,.dat (aD a),.no]=some (.nx,[.dat (W m aB),‹p›,.dat (aD a),.own (qqz.map dS)]):=by unfold X4 aF;simp only[cp];simp
   have so:=gW qqz ⋯;have st:=fO (aM qqz);have hs:((aM qqz).map List.length).sum<=lim:=hU hsum ⋯;have hf':(aM qqz).flatten.length=((aM qqz).map List.length).sum:=BH;have o1:jY .Add (.str (tx [40])) (.str (tx (aM qqz).flatten))=some (.dat (.str (tx (40::(aM qqz).flatten)))):=eu [40] (aM qqz).flatten (by rw[hf'];simp;lia)
   have o2:jY .Add (.str (tx (40::(aM qqz).flatten))) (.str (tx [41]))=some (.dat (.str (tx (brk (aM qqz))))):=eu (40::(aM qqz).flatten) [41] (by rw[i3,hf'];simp;lia)
   have s2:aF (rn (x+39)) [] (k+f+1) X5 [.dat (W m aB),‹p›,.dat (aD a),.own (qqz.map dS)]=some (.rt (.dat (.str (tx (brk (aM qqz))))),[.dat (W m aB),‹p›,.dat (aD a),.own (qqz.map dS)]):=by generalize qqz.map dS=ds at so;generalize (aM qqz).map dS=ds2 at so st;generalize W m aB=w;generalize aD a=da;unfold X5;simp! [U,so,st,hs,gn,iL,o1,o2]
   have e5:(rn (x+40)).b [] (k+f+1) (gq ni ci).body [.dat (W m aB),‹p›,.dat (aD a),.no]=some (.rt (.dat (.str (tx (brk (aM qqz))))),[.dat (W m aB),‹p›,.dat (aD a),.own (qqz.map dS)]):=by rw[U.b];refine (ao s1).trans ?_;unfold bJ;rw[s2]
   unfold dI;rw[show cF (gq ni ci).n (Ea [W m aB,D.int p,aD a])=[.dat (W m aB),‹p›,.dat (aD a),.no]from rfl,e5]
   rfl
end
end Ev
namespace cC
open Ev
def ca:Sm:=.set 1 (.ix (.lst [↥6,↥5,↥20,↥3,(.bin .Add ↥1 (.call 4 [⇑0,↥20])),↥2,↥4,↥1]) (.call 4 [⇑0,↥8]))
def cb:Sm:=.set 2 (.call 7 [⇑0,⇑1])
noncomputable def cc:Sm:=.ret (.call 9 [⇑2,(.call 4 [⇑0,⇑1]),(.val .non)])
def x10:Fx:=⟨1,3,[ca,cb,cc]⟩
noncomputable def ba:Sm:=.par 2 3 (.call 4 [⇑0,(.bin .Add (.blt .len [⇑1]) ↥1)]) (.call 4 [⇑0,(.bin .Add (.blt .len [⇑1]) ↥1)])
def bb:Sm:=.set 4 (.ix (.val (.str (PySem.Str.ofString "()() x[]"))) (.call 4 [⇑0,↥8]))
def bc:Sm:=.set 5 (.lst [(.bin .Add (.bin .Add (.slice ⇑1 none (some ⇑2)) ⇑4) (.slice ⇑1 (some ⇑2) none)),(.bin .Add (.slice ⇑1 none (some ⇑2)) (.slice ⇑1 (some (.bin .Add ⇑2 ↥1)) none)),(.bin .Add (.bin .Add (.slice ⇑1 none (some ⇑2)) ⇑4) (.slice ⇑1 (some (.bin .Add ⇑2 ↥1)) none)),(.rev ⇑1)])
def bd:Sm:=.set 5 (.bin .Add ⇑5 (.lst [(.bin .Add ⇑1 (.val (.str (PySem.Str.ofString "()")))),(.bin .Add (.bin .Add (.val (.str (PySem.Str.ofString "("))) ⇑1) (.val (.str (PySem.Str.ofString ")")))),(.bin .Add ⇑1 ⇑1),(.blt .list [⇑1]),(.val .non),↥0,.emp,(.tup [⇑1]),(.val (.str (PySem.Str.ofString "")))]))
def be:Sm:=.set 5 (.bin .Add ⇑5 (.lst [(.bin .Add (.slice ⇑1 none (some (.blt .min [⇑2,⇑3]))) (.slice ⇑1 (some (.blt .max [⇑2,⇑3])) none)),(.bin .Add (.bin .Add (.val (.str (PySem.Str.ofString "("))) ⇑1) (.val (.str (PySem.Str.ofString "())")))),(.bin .Add (.bin .Add (.bin .Add (.bin .Add (.val (.str (PySem.Str.ofString "(("))) ⇑1) (.val (.str (PySem.Str.ofString ")")))) ⇑1) (.val (.str (PySem.Str.ofString ")"))))]))
def bf:Sm:=.ret (.ix ⇑5 (.call 4 [⇑0,↥16]))
def Qp:Fx:=⟨2,6,[ba,bb,bc,bd,be,bf]⟩
def s0:Sm:=.set 2 (.call 3 [⇑0,⇑1])
noncomputable def s1:Sm:=.set 3 (.call 10 [⇑2])
noncomputable def s2:Sm:=.ite (.cmp .IsNot (.call 0 [⇑3]) (.val (.bl true))) [(.ret (.val (.bl false)))] []
def dW:Ex:=.bin .Add (.lst [(.val (.str (PySem.Str.ofString "()"))),(.val (.str (PySem.Str.ofString ""))),(.val (.str (PySem.Str.ofString "("))),(.val (.str (PySem.Str.ofString ")("))),(.val (.str (PySem.Str.ofString "(())()")))]) (.comp 5 2 (.nm 6) (.fG ↥6) none (.call 11 [⇑2,⇑3]))
noncomputable def vQ:List Sm:=[(.ite (.not (.peek (.call 12 [(.call 0 [⇑4]),(.call 14 [⇑4])]))) [(.ret (.val (.bl false)))] [])]
noncomputable def s3:Sm:=.loop (.nm 4) dW vQ
noncomputable def vR:List Sm:=[s0,s1,s2,s3]
def Qq:Fx:=⟨1,5,[(.loop (.nm 1) (.fG (.blt .max [↥1,(.blt .min [(.blt .len [⇑0]),↥8])])) vR),(.ret (.val (.bl true)))]⟩
def fns:List Fx:=[cB 1,fT,jF,jl 2,bX,jq,lR 4,lT 4 5 6,jr,gq 8 9,x10,Qp,c7 12,JW,Dg 13,Qq]
theorem k0:fns[0]?=some (cB 1):=rfl
theorem k1:fns[1]?=some (fT):=rfl
theorem k2:fns[2]?=some (jF):=rfl
theorem k3:fns[3]?=some (jl 2):=rfl
theorem k4:fns[4]?=some (bX):=rfl
theorem k5:fns[5]?=some (jq):=rfl
theorem k6:fns[6]?=some (lR 4):=rfl
theorem k7:fns[7]?=some (lT 4 5 6):=rfl
theorem k8:fns[8]?=some (jr):=rfl
theorem k9:fns[9]?=some (gq 8 9):=rfl
theorem k10:fns[10]?=some (x10):=rfl
theorem k11:fns[11]?=some (Qp):=rfl
theorem Zg:fns[12]?=some (c7 12):=rfl
theorem k13:fns[13]?=some (JW):=rfl
theorem k14:fns[14]?=some (Dg 13):=rfl
end cC
namespace cC
open Ev CK
def J0(d:D):Prop:=∀x,d=.str x->x.length<=1000
theorem cu{t:List Nat}(h:t.length<=1000):J0 (.str (tx t)):=λx e=>by
 injection e with e;rw[<- e,bU];exact h
section
variable{k n i:Nat}{s:Int}{fl:Bool}{g:G}{rn:Nat->Rn}(U:rR fns rn)
include U
theorem Jf(hi:g[i]?=some (St s fl)):∃(c:List Nat) (s':Int),Code bw c/\c.length<=40/\aX (rn (n+850)) x10 (k+21) [.var i] g=some (.dat (.str (tx c)),g.set i (St s' fl)):=by
 obtain⟨r1,t1,r1a,r1b,q1⟩:=cA (n:=n+825) (k:=k+20) (i:=0) (s:=s) (fl:=fl) (m:=20) (g:=[St s fl,.no,.no]) U rfl ⋯;obtain⟨r2,t2,r2a,r2b,q2⟩:=cA (n:=n+827) (k:=k+20) (i:=0) (s:=t1) (fl:=fl) (m:=8) (g:=[St t1 fl,.no,.no]) U rfl ⋯;have zg:aX (rn (n+845)) bX (k+20) [.var 0,‹20›] [St s fl,.no,.no]=some (‹r1›,[St t1 fl,.no,.no]):=q1;have zL:aX (rn (n+847)) bX (k+20) [.var 0,‹8›] [St t1 fl,.no,.no]=some (‹r2›,[St t2 fl,.no,.no]):=q2;obtain⟨d,hd,ed⟩:=vF (l:=[D.int 6,.int 5,.int 20,.int 3,.int (1+r1),.int 2,.int 4,.int 1]) (r:=r2) ⟨r2a,by show r2<((8:Nat):Int);lia⟩
 obtain⟨m,rfl,hm⟩:∃m:Nat,d=.int m/\1<=m/\m<=20:=by
  simp only[c6,i5,Ap]at hd;rcases hd with rfl |rfl |rfl |rfl |rfl |rfl |rfl |rfl
  . exact⟨6,rfl,by decide⟩
  . exact⟨5,rfl,by decide⟩
  . exact⟨20,rfl,by decide⟩
  . exact⟨3,rfl,by decide⟩
  . exact⟨(1+r1).toNat,by congr 1;lia,by lia⟩
  . exact⟨2,rfl,by decide⟩
  . exact⟨4,rfl,by decide⟩
  . exact⟨1,rfl,by decide⟩
 have e1:aF (rn (n+849)) [0] (k+21) ca [St s fl,.no,.no]=some (.nx,[St t2 fl,‹m›,.no]):=by generalize (m:Int)=M at ed;unfold ca;simp! [U,k4,zg,zL,ed,aH 8 ⋯]
 obtain⟨l,row,t3,hl,Dk,q3⟩:=Dj U k4 k5 k6 (n:=n+778) (k:=k+17) (i:=0) (s:=t2) (fl:=fl) (g:=[St t2 fl,‹m›,.no]) m ⋯ rfl;have hpr:=hl.pr (m:=m) ⋯;generalize hT:bT fC (l.map (tm row))=aB at q3;have aJ:aB.length<=60:=by rw[<- hT,(cY _).length_eq,eC,hl.1];lia
 have hP:∀x∈aB,Pr m x:=λx hx=>by
  rw[<- hT]at hx;obtain⟨y,hy,rfl⟩:=gN.mp ((cY (O:=fC) _).mem_iff.mp hx);exact JX Dk (hpr y hy)
 have Jv:aX (rn (n+848)) (lT 4 5 6) (k+20) [.var 0,‹m›] [St t2 fl,‹m›,.no]=some (.dat (W m aB),[St t3 fl,‹m›,.no]):=q3;have e2:aF (rn (n+849)) [0] (k+21) cb [St t2 fl,‹m›,.no]=some (.nx,[St t3 fl,‹m›,.dat (W m aB)]):=by
  generalize (m:Int)=M at Jv ⊢
  generalize W m aB=w at Jv ⊢
  unfold cb;simp! [U,k7,Jv]
 obtain⟨p,t4,pa,pb,q4⟩:=cA (n:=n+827) (k:=k+20) (i:=0) (s:=t3) (fl:=fl) (m:=(m:Int)) (g:=[St t3 fl,‹m›,.dat (W m aB)]) U rfl ⋯;have JZ:aX (rn (n+847)) bX (k+20) [.var 0,‹m›] [St t3 fl,‹m›,.dat (W m aB)]=some (‹p›,[St t4 fl,‹m›,.dat (W m aB)]):=q4;obtain⟨vs,rt,hvs⟩:=Jc hl ⋯ Dk (p:=p) ⟨pa,pb⟩;rw[hT]at rt;have q5:=Je U k8 k9 m aB hP aJ 20 p none vs rt ⋯ ⋯ (n+48) k;have X6:dI (rn (n+848)) (k+20) (gq 8 9) [W m aB,.int p,.non]=some (.dat (.str (tx (lU 20 (ez aB) p none)))):=q5;obtain⟨hc,hcl⟩:=Dm rt 20 ⋯;have e3:aF (rn (n+849)) [0] (k+21) cc [St t3 fl,‹m›,.dat (W m aB)]=some (.rt (.dat (.str (tx (lU 20 (ez aB) p none)))),[St t4 fl,‹m›,.dat (W m aB)]):=by
  generalize (m:Int)=M at JZ ⊢
  generalize tx (lU 20 (ez aB) p none)=y at X6 ⊢
  generalize W m aB=w at JZ X6 ⊢
  unfold cc;simp! [U,k4,JZ,k9,vD (fx:=gq 8 9) rfl,X6]
 refine⟨lU 20 (ez aB) p none,t4,hc,by lia,?_⟩
 have e5:(rn (n+850)).b [0] (k+21) x10.body [St s fl,.no,.no]=some (.rt (.dat (.str (tx (lU 20 (ez aB) p none)))),[St t4 fl,‹m›,.dat (W m aB)]):=by rw[U.b];refine (ao e1).trans ((ao e2).trans ?_);unfold bJ;rw[e3]
 have hp:cF x10.n [St s fl]=[St s fl,.no,.no]:=rfl;unfold aX;simp only[vars,bW,hi,List.map_cons,List.map_nil];rw[hp,e5];rfl
end
end cC
namespace cC
open Ev CK
theorem Uj:PySem.Str.ofString "()() x[]"=tx [40,41,40,41,32,120,91,93]:=by decide
theorem Uk:PySem.Str.ofString "())"=tx [40,41,41]:=by decide
theorem Ul:PySem.Str.ofString "(("=tx [40,40]:=by decide
theorem iO(a b:List Nat)(h:a.length+b.length<=1000):∃u:List Nat,u.length=a.length+b.length/\jY .Add (.str (tx a)) (.str (tx b))=some (.dat (.str (tx u))):=⟨a++b,by simp,eu a b h⟩
theorem Dp(c:List Nat)(h:c.length<=1000):nI .list [.str (tx c)]=some (.new (c.map λx=>.str (tx [x]))):=by
 show (if (tx c).length<=lim then some (R.new (mw (tx c)))else none)=_
 rw[eR (by rw[bU];exact hU h ⋯)]
 rfl
theorem lV{d:D}(h:∀x,d≠.str x):J0 d:=λx e=>absurd e (h x)
section
variable{k n i:Nat}{s:Int}{fl:Bool}{g:G}{rn:Nat->Rn}(U:rR fns rn)
include U
theorem Jg(c:List Nat)(hc:c.length<=40)(hi:g[i]?=some (St s fl)):∃(d:D) (s':Int),J0 d/\aX (rn (n+50)) Qp (k+1) [.var i,.dat (.str (tx c))] g=some (.dat d,g.set i (St s' fl)):=by
 have hlim:(tx c).length<=lim:=by rw[bU];exact hU hc ⋯
 have Um:(tx c).cps.toList=c:=fE c;have aJ:=pR c ⋯;have hlist:=Dp c ⋯;have cut:∀lo hi,(bQ c lo hi).length<=40:=λlo hi=>hU (vg c lo hi) hc
 obtain⟨a,t1,a1,a2,q1⟩:=cA (n:=n+28) (k:=k) (i:=0) (s:=s) (fl:=fl) (m:=(c.length:Int)+1) (g:=[St s fl,.dat (.str (tx c)),.no,.no,.no,.no]) U rfl ⋯;obtain⟨b,t2,b1,b2,q2⟩:=cA (n:=n+28) (k:=k) (i:=0) (s:=t1) (fl:=fl) (m:=(c.length:Int)+1) (g:=[St t1 fl,.dat (.str (tx c)),.no,.no,.no,.no]) U rfl ⋯;have zg:aX (rn (n+48)) bX k [.var 0,.dat (.int ((c.length:Int)+1))] [St s fl,.dat (.str (tx c)),.no,.no,.no,.no]=some (‹a›,[St t1 fl,.dat (.str (tx c)),.no,.no,.no,.no]):=q1;have zL:aX (rn (n+48)) bX k [.var 0,.dat (.int ((c.length:Int)+1))] [St t1 fl,.dat (.str (tx c)),.no,.no,.no,.no]=some (‹b›,[St t2 fl,.dat (.str (tx c)),.no,.no,.no,.no]):=q2;have e1:aF (rn (n+49)) [0] (k+1) ba [St s fl,.dat (.str (tx c)),.no,.no,.no,.no]=some (.nx,[St t2 fl,.dat (.str (tx c)),‹a›,‹b›,.no,.no]):=by generalize tx c=y at *;generalize (c.length:Int)=qqz at *;unfold ba;simp! [U,k4,aJ,zg,zL]
 obtain⟨e,t3,ea,eb,q3⟩:=cA (n:=n+27) (k:=k) (i:=0) (s:=t2) (fl:=fl) (m:=8) (g:=[St t2 fl,.dat (.str (tx c)),‹a›,‹b›,.no,.no]) U rfl ⋯;have Jv:aX (rn (n+47)) bX k [.var 0,‹8›] [St t2 fl,.dat (.str (tx c)),‹a›,‹b›,.no,.no]=some (‹e›,[St t3 fl,.dat (.str (tx c)),‹a›,‹b›,.no,.no]):=q3;obtain⟨ch,hch⟩:∃ch,L2.dD [40,41,40,41,32,120,91,93] e=some ch:=by
  obtain⟨j,rfl⟩:∃j:Nat,e=j:=⟨e.toNat,by lia⟩
  have hj:j<([40,41,40,41,32,120,91,93]:List Nat).length:=by show j<8;lia
  unfold L2.dD L2.pZ;rw[eR ⋯,eR (by exact_mod_cast hj)]
  show ∃ch,([40,41,40,41,32,120,91,93]:List Nat)[(j:Int).toNat]?=some ch;rw[wT,i7 hj];exact⟨_,rfl⟩
 have ix:=pQ [40,41,40,41,32,120,91,93] e ⋯;rw[hch]at ix;have ix':Ba (.str (tx [40,41,40,41,32,120,91,93])) (.int e)=some (.str (tx [ch])):=ix;have e2:aF (rn (n+49)) [0] (k+1) bb [St t2 fl,.dat (.str (tx c)),‹a›,‹b›,.no,.no]=some (.nx,[St t3 fl,.dat (.str (tx c)),‹a›,‹b›,.dat (.str (tx [ch])),.no]):=by generalize tx c=y at *;generalize tx [ch]=y2 at *;unfold bb;simp! [U,k4,Jv,Uj,ix']
 have A1:=cut none (some a);have A2:=cut (some a) none;have A3:=cut (some (a+1)) none;have B1:=cut none (some (if b<a then b else a))
 have B2:=cut (some (if b > a then b else a)) none
 obtain⟨u1,l1,o1⟩:=iO (bQ c none (some a)) [ch] (by simp;lia)
 obtain⟨u2,l2,o2⟩:=iO u1 (bQ c (some a) none) (by rw[l1];simp;lia)
 obtain⟨v1,l3,o3⟩:=iO (bQ c none (some a)) (bQ c (some (a+1)) none) ⋯;obtain⟨w1,l4,o4⟩:=iO u1 (bQ c (some (a+1)) none) (by rw[l1];simp;lia)
 obtain⟨p1,l5,o5⟩:=iO c [40,41] (by simp;lia)
 obtain⟨p2,l6,o6⟩:=iO [40] c (by simp;lia)
 obtain⟨p3,l7,o7⟩:=iO p2 [41] (by rw[l6];simp;lia)
 obtain⟨p4,l8,o8⟩:=iO c c ⋯;obtain⟨r1,l9,o9⟩:=iO (bQ c none (some (if b<a then b else a))) (bQ c (some (if b > a then b else a)) none) ⋯
 obtain⟨r2,l10,o10⟩:=iO p2 [40,41,41] (by rw[l6];simp;lia)
 obtain⟨z1,Ax,o11⟩:=iO [40,40] c (by simp;lia)
 obtain⟨z2,X7,o12⟩:=iO z1 [41] (by rw[Ax];simp;lia)
 obtain⟨z3,l13,o13⟩:=iO z2 c (by rw[X7,Ax];simp;lia)
 obtain⟨z4,l14,o14⟩:=iO z3 [41] (by rw[l13,X7,Ax];simp;lia)
 simp only[i3,List.length_nil]at l1 l5 l6 l7 l10 Ax X7 l14
 let L1:List D:=[.str (tx u2),.str (tx v1),.str (tx w1),.str (tx c.reverse)]
 let pU:List D:=[.str (tx p1),.str (tx p3),.str (tx p4),.lst (c.map λx=>.str (tx [x])),.non,.int 0,.emp,.tup [.str (tx c)],.str (tx [])]
 let L3:List D:=[.str (tx r1),.str (tx r2),.str (tx z4)]
 have e3:aF (rn (n+49)) [0] (k+1) bc [St t3 fl,.dat (.str (tx c)),‹a›,‹b›,.dat (.str (tx [ch])),.no]=some (.nx,[St t3 fl,.dat (.str (tx c)),‹a›,‹b›,.dat (.str (tx [ch])),.own L1]):=by show _=some (Fl.nx,[St t3 fl,.dat (.str (tx c)),‹a›,‹b›,.dat (.str (tx [ch])),.own [.str (tx u2),.str (tx v1),.str (tx w1),.str (tx c.reverse)]]);generalize tx [ch]=y2 at *;unfold bc;simp! [U,nJ,hlim,Um,o1,o2,o3,o4,aH 4 ⋯]
 have oA:=pM L1 pU (show 4+9<=1000 by decide)
 have oB:=pM (L1++pU) L3 (show 13+3<=1000 by decide)
 have e4:aF (rn (n+49)) [0] (k+1) bd [St t3 fl,.dat (.str (tx c)),‹a›,‹b›,.dat (.str (tx [ch])),.own L1]=some (.nx,[St t3 fl,.dat (.str (tx c)),‹a›,‹b›,.dat (.str (tx [ch])),.own (L1++pU)]):=by
  have hb:[D.str (tx p1),.str (tx p3),.str (tx p4),.lst (c.map λx=>.str (tx [x])),.non,.int 0,.emp,.tup [.str (tx c)],.str (tx [])]=pU:=rfl
  have hl2:pU.length<=lim:=aH 9 ⋯;generalize L1++pU=LL at oA ⊢
  generalize L1=M1 at oA ⊢
  generalize hM:pU=M2 at oA hb hl2;generalize (c.map λx=>D.str (tx [x]))=cl at *
  generalize tx [ch]=y2 at *;unfold bd;simp! [U,rY,gn,iL,vN,o5,o6,o7,o8,hlist,aH 1 ⋯,hb,hl2,oA]
 have e5:aF (rn (n+49)) [0] (k+1) be [St t3 fl,.dat (.str (tx c)),‹a›,‹b›,.dat (.str (tx [ch])),.own (L1++pU)]=some (.nx,[St t3 fl,.dat (.str (tx c)),‹a›,‹b›,.dat (.str (tx [ch])),.own (L1++pU++L3)]):=by
  have hb:[D.str (tx r1),.str (tx r2),.str (tx z4)]=L3:=rfl;have hl2:L3.length<=lim:=aH 3 ⋯;generalize L1++pU++L3=LL at oB ⊢
  generalize L1++pU=M1 at oB ⊢
  generalize hM:L3=M2 at oB hb hl2;generalize tx [ch]=y2 at *;unfold be;simp! [U,nJ,hlim,Um,gn,iL,Uk,Ul,o6,o9,o10,o11,o12,o13,o14,hb,hl2,oB]
 obtain⟨v,t4,va,vb,q4⟩:=cA (n:=n+27) (k:=k) (i:=0) (s:=t3) (fl:=fl) (m:=16) (g:=[St t3 fl,.dat (.str (tx c)),‹a›,‹b›,.dat (.str (tx [ch])),.own (L1++pU++L3)]) U rfl ⋯;have JZ:aX (rn (n+47)) bX k [.var 0,‹16›] [St t3 fl,.dat (.str (tx c)),‹a›,‹b›,.dat (.str (tx [ch])),.own (L1++pU++L3)]=some (‹v›,[St t4 fl,.dat (.str (tx c)),‹a›,‹b›,.dat (.str (tx [ch])),.own (L1++pU++L3)]):=q4;obtain⟨d,hd,ed⟩:=vF (l:=L1++pU++L3) (r:=v) ⟨va,vb⟩;have hsd:J0 d:=by
  rcases gL.mp hd with hd |hd
  .
   rcases gL.mp hd with hd |hd
   .
    have hd:d∈[D.str (tx u2),.str (tx v1),.str (tx w1),.str (tx c.reverse)]:=hd;simp only[c6,i5,Ap]at hd;rcases hd with rfl |rfl |rfl |rfl
    . exact cu ⋯
    . exact cu ⋯
    . exact cu ⋯
    . exact cu (by rw[xL];lia)
   .
    have hd:d∈[D.str (tx p1),.str (tx p3),.str (tx p4),.lst (c.map λx=>.str (tx [x])),.non,.int 0,.emp,.tup [.str (tx c)],.str (tx [])]:=hd
    simp only[c6,i5,Ap]at hd;rcases hd with rfl |rfl |rfl |rfl |rfl |rfl |rfl |rfl |rfl
    . exact cu ⋯
    . exact cu ⋯
    . exact cu ⋯
    . exact lV λx e=>nomatch e
    . exact lV λx e=>nomatch e
    . exact lV λx e=>nomatch e
    . exact lV λx e=>nomatch e
    . exact lV λx e=>nomatch e
    . exact cu ⋯
  .
   have hd:d∈[D.str (tx r1),.str (tx r2),.str (tx z4)]:=hd;simp only[c6,i5,Ap]at hd;rcases hd with rfl |rfl |rfl
   . exact cu ⋯
   . exact cu ⋯
   . exact cu ⋯
 refine⟨d,t4,hsd,?_⟩;have e6:aF (rn (n+49)) [0] (k+1) bf [St t3 fl,.dat (.str (tx c)),‹a›,‹b›,.dat (.str (tx [ch])),.own (L1++pU++L3)]=some (.rt (.dat d),[St t4 fl,.dat (.str (tx c)),‹a›,‹b›,.dat (.str (tx [ch])),.own (L1++pU++L3)]):=by
  generalize L1++pU++L3=LL at JZ ed ⊢
  generalize tx [ch]=y2 at *;generalize tx c=y at *;unfold bf;simp! [U,k4,JZ,ed]
 have body:(rn (n+50)).b [0] (k+1) Qp.body [St s fl,.dat (.str (tx c)),.no,.no,.no,.no]=some (.rt (.dat d),[St t4 fl,.dat (.str (tx c)),‹a›,‹b›,.dat (.str (tx [ch])),.own (L1++pU++L3)]):=by rw[U.b];refine (ao e1).trans ((ao e2).trans ((ao e3).trans ((ao e4).trans ((ao e5).trans ?_))));unfold bJ;rw[e6]
 have hp:cF Qp.n [St s fl,.dat (.str (tx c))]=[St s fl,.dat (.str (tx c)),.no,.no,.no,.no]:=rfl;unfold aX;simp only[vars,bW,hi,List.map_cons,List.map_nil];rw[hp,body];rfl
end
end cC
namespace cC
open Ev CK
noncomputable def five:List D:=[.str (tx [40,41]),.str (tx []),.str (tx [40]),.str (tx [41,40]),.str (tx [40,40,41,41,40,41])]
theorem Uo:PySem.Str.ofString "(())()"=tx [40,40,41,41,40,41]:=by decide
theorem Up:PySem.Str.ofString ")("=tx [41,40]:=by decide
theorem Dq:∀d∈five,J0 d:=λd hd=>by
 simp only[five,c6,i5,Ap]at hd;rcases hd with rfl |rfl |rfl |rfl |rfl <;> exact cu ⋯
section
variable{k n:Nat}{rn:Nat->Rn}(U:rR fns rn)
include U
theorem Py(d:D)(hd:J0 d)(A0 A1 A2 A3:Slot):(rn (n+851)).b [] (k+22) vQ [A0,A1,A2,A3,.dat d]=some (.nx,[A0,A1,A2,A3,.dat d]):=by
 have q1:=λn k=>nW (n:=n) (k:=k) U k1 d hd
 have q2:=λn k=>Uh (n:=n) (k:=k) U k13 d hd
 have q3:=λn k=>vG U Zg 0 n k (.bl (iN d)) trivial
 simp only[Nat.reduceMul,Nat.add_assoc,Nat.reduceAdd,Nat.add_zero]at q3;have hz:List.map jG [A0,A1,A2,A3,.dat d]=[jG A0,jG A1,jG A2,jG A3,.dat d]:=rfl;generalize iN d=bb at *;unfold vQ;simp! [U,hz,k0,iH (fx:=cB 1) rfl,q1,k14,iH (fx:=Dg 13) rfl,q2,Zg,eU (fx:=c7 12) rfl,q3,flat]
theorem cell(ns: ~~~0)(hl:ns.length<=63)(j:Nat)(a2 a3 a4:Slot):∃b2 b3 b4,(rn (n+852)).b [] (k+22) vR [.dat (.fix (ns.map .int)),‹j›,a2,a3,a4]=some (.nx,[.dat (.fix (ns.map .int)),‹j›,b2,b3,b4]):=by
 obtain⟨s,fl,q1⟩:=CJ U k2 (n:=n+810) (k:=k+20) ns ⋯ j;generalize hA0:Slot.dat (.fix (ns.map .int))=A0;generalize hA1:Slot.dat (.int (j:Int))=A1;have e0:aF (rn (n+851)) [] (k+22) s0 [A0,A1,a2,a3,a4]=some (.nx,[A0,A1,St s fl,a3,a4]):=by subst hA0 hA1;unfold s0;simp! [U,k3,eU (fx:=jl 2) rfl,q1]
 obtain⟨c,s1',hcode,se,q2⟩:=Jf (n:=n) (k:=k) (fl:=fl) (i:=2) (s:=s) (g:=[A0,A1,St s fl,a3,a4]) U rfl;have zL:aX (rn (n+850)) x10 (k+21) [.var 2] [A0,A1,St s fl,a3,a4]=some (.dat (.str (tx c)),[A0,A1,St s1' fl,a3,a4]):=q2;have e1:aF (rn (n+851)) [] (k+22) s1 [A0,A1,St s fl,a3,a4]=some (.nx,[A0,A1,St s1' fl,.dat (.str (tx c)),a4]):=by
  generalize tx c=y at zL ⊢
  unfold s1;simp! [U,k10,zL]
 have bY:iN (.str (tx c))=true:=by show (decide ((tx c).length<=40)&&CN bw (tx c).cps.toList)=true;rw[bU,fE,i4 se,(pN bw c).mpr hcode];rfl
 have q3:=λn k=>nW (n:=n) (k:=k) U k1 (.str (tx c)) (cu ⋯)
 rw[bY]at q3;have hx:cO .IsNot (.bl true) (.bl true)=some false:=rfl;have e2:aF (rn (n+851)) [] (k+22) s2 [A0,A1,St s1' fl,.dat (.str (tx c)),a4]=some (.nx,[A0,A1,St s1' fl,.dat (.str (tx c)),a4]):=by
  generalize tx c=y at q3 ⊢
  generalize St s1' fl=A2;unfold s2;simp! [U,k0,iH (fx:=cB 1) rfl,q3,hx]
 obtain⟨ds,s2',d1,d2,d3⟩:=yg (rn:=rn (n+849)) (bor:=[]) (k:=k+22) (i:=2) (j:=6) (nn:=5) (kk:=2) (fl:=fl) (it:=.fG ↥6) (e:=.call 11 [⇑2,⇑3]) (P:=J0) [A0,A1,St s1' fl,.dat (.str (tx c)),a4] s1' rfl (dX 0 6) (by simp! [U,jD,d9 6 ⋯]) rfl (show 5<=6 by decide) (show 6<5+2 by decide) ⋯ (aH _ ⋯)
  (λs' G' h2 hG=>by
   obtain⟨d,s3,hd,q⟩:=Jg (n:=n+798) (k:=k+20) (fl:=fl) (i:=2) (s:=s') (g:=G') U c se h2;have h3:G'[3]?=some (.dat (.str (tx c))):=hG 3 ⋯ ⋯;refine⟨d,s3,hd,?_⟩;have q':aX (rn (n+848)) Qp (k+21) [.var 2,.dat (.str (tx c))] G'=some (.dat d,G'.set 2 (St s3 fl)):=q;have h2':G'[2]?=some (.own [.int s',.bl fl]):=h2;generalize tx c=y at *;simp! [U,h2',h3,k11,q'])
 have Zh:dm (rn (n+849)) [] (k+22) 5 2 (.nm 6) (.fG ↥6) none (.call 11 [⇑2,⇑3]) [A0,A1,St s1' fl,.dat (.str (tx c)),a4]=some (ds,[A0,A1,St s2' fl,.dat (.str (tx c)),a4]):=d3;have hdl:ds.length=6:=d1;have oA:=pM five ds (by rw[hdl];show 5+6<=1000;decide)
 have hw:jD (rn (n+851)) [] (k+22) false dW [A0,A1,St s1' fl,.dat (.str (tx c)),a4]=some (five++ds,[A0,A1,St s2' fl,.dat (.str (tx c)),a4]):=by
  have hb:[D.str (tx [40,41]),.str (tx []),.str (tx [40]),.str (tx [41,40]),.str (tx [40,40,41,41,40,41])]=five:=rfl;have Zi:five.length<=lim:=aH 5 ⋯;generalize five++ds=LL at oA ⊢
  generalize hF:five=M5 at oA hb Zi;generalize tx c=y at Zh ⊢
  unfold dW;simp! [U,jD,rY,vN,gn,Up,Uo,hb,Zi,Zh,oA]
 obtain⟨g',⟨_,x4,rfl⟩,h4⟩:=d7 (T:=.nm 4) (b:=(rn (n+851)).b [] (k+22) vQ) (λd:D=>d)
  (I:=λl g=>(∀d∈l,J0 d)/\∃x4:Slot,g=[A0,A1,St s2' fl,.dat (.str (tx c)),x4])
  (step:=λd l g hh=>by
   obtain⟨h0,x4,rfl⟩:=hh;exact⟨_,_,rfl,Py U d (h0 d bP) A0 A1 (St s2' fl) (.dat (.str (tx c))),λx hx=>h0 x (a8 _ hx),.dat d,rfl⟩) (five++ds) [A0,A1,St s2' fl,.dat (.str (tx c)),a4] ⟨λd hd=>(gL.mp hd).elim (Dq d) (d2 d),a4,rfl⟩
 rw[List.map_id']at h4;have e3:aF (rn (n+851)) [] (k+22) s3 [A0,A1,St s1' fl,.dat (.str (tx c)),a4]=some (.nx,[A0,A1,St s2' fl,.dat (.str (tx c)),x4]):=by unfold s3;simp only[aF,Tg.ix,Tg.pF,hw,h4];simp
 refine⟨St s2' fl,.dat (.str (tx c)),x4,?_⟩;rw[U.b];exact (ao e0).trans ((ao e1).trans ((ao e2).trans ((ao e3).trans rfl)))
theorem whole(ns: ~~~0)(hl:ns.length<=63):∃g',(rn (n+854)).b [] (k+22) Qq.body [.dat (.fix (ns.map .int)),.no,.no,.no,.no]=some (.rt (.dat (.bl true)),g'):=by
 have loop:=d7 (T:=.nm 1) (b:=(rn (n+853)).b [] (k+22) vR) (λ(j:Nat)=>D.int (0+(j:Int)))
  (I:=λ(l:List Nat) g=>∃(s1 s2 s3 s4:Slot),g=[.dat (.fix (ns.map .int)),s1,s2,s3,s4])
  (step:=λa l g h=>by
   obtain⟨s1,s2,s3,s4,rfl⟩:=h;rw[Int.zero_add];obtain⟨b2,b3,b4,q⟩:=cell (n:=n+1) (k:=k) U ns hl a s2 s3 s4;exact⟨_,_,rfl,q,_,_,_,_,rfl⟩)
 obtain⟨M,hM,hM2⟩:∃M:Nat,M<=8/\(if ((if (8:Int)<ns.length then 8 else (ns.length:Int))) > 1 then (if (8:Int)<ns.length then 8 else (ns.length:Int))else 1)=(M:Int):=by
  refine⟨(if ((if (8:Int)<ns.length then 8 else (ns.length:Int))) > 1 then (if (8:Int)<ns.length then 8 else (ns.length:Int))else 1).toNat,?_,?_⟩
  . split <;> (try split) <;> lia
  . split <;> (try split) <;> lia
 obtain⟨g2,⟨s1,s2,s3,s4,rfl⟩,h4⟩:=loop (List.range M) [.dat (.fix (ns.map .int)),.no,.no,.no,.no] ⟨_,_,_,_,rfl⟩;have hv:gk (rn (n+853)) [] (k+22) (.blt .max [↥1,(.blt .min [(.blt .len [⇑0]),↥8])]) [.dat (.fix (ns.map .int)),.no,.no,.no,.no]=some (.int (M:Int),[.dat (.fix (ns.map .int)),.no,.no,.no,.no]):=by rw[<- hM2];simp! [U,lO]
 have hw:jD (rn (n+853)) [] (k+22) false (.fG (.blt .max [↥1,(.blt .min [(.blt .len [⇑0]),↥8])])) [.dat (.fix (ns.map .int)),.no,.no,.no,.no]=some ((List.range M).map λ(x:Nat)=>D.int (0+(x:Int)),[.dat (.fix (ns.map .int)),.no,.no,.no,.no]):=by unfold jD;dsimp only;rw[hv];dsimp only;rw[eR (d9 M ⋯),wT];rfl
 have e1:aF (rn (n+853)) [] (k+22) (.loop (.nm 1) (.fG (.blt .max [↥1,(.blt .min [(.blt .len [⇑0]),↥8])])) vR) [.dat (.fix (ns.map .int)),.no,.no,.no,.no]=some (.nx,[.dat (.fix (ns.map .int)),s1,s2,s3,s4]):=by simp only[aF,Tg.ix,Tg.pF,hw,h4];simp
 refine⟨[.dat (.fix (ns.map .int)),s1,s2,s3,s4],?_⟩;unfold Qq;rw[U.b,ao e1];simp! [U,U.e]
end
def kk:Nat:=22
def fuel:Nat:=854
theorem hev(ns: ~~~0)(hl:ns.length<=63):∃g',(run fns fuel).b [] kk Qq.body (cF 5 [.dat (.fix (ns.map .int))])=some (.rt (.dat (.bl true)),g'):=whole (n:=0) (k:=0) (Im fns) ns hl
end cC
namespace Ev
open L2
def Uq:Value->Bool
 |.str _ _=>true
 |_=>false
def Jh:Value->Bool
 |.int _ _=>true
 |_=>false
def J1:Value->Bool
 |.bool _=>true
 |_=>false
noncomputable def Pz(n:String):Value->Bool
 |.type m=>decide (m=n)
 |_=>false
noncomputable def PB(q:Addr):Option Value->Bool
 |some (.ref p)=>decide (p=q)
 |_=>false
theorem vU(h:Pz n v=true):v=.type n:=by
 unfold Pz at h;split at h
 . rw[w8 h]
 . symm
theorem Ji(h:PB q v=true):v=some (.ref q):=by
 unfold PB at h;split at h
 . rw[w8 h]
 . symm
def codeOk(K:Frag)(c q:Addr):Bool:=match K.lookup c with
 |some o=>(match o.data with
  |.fields vs=>Pz "code" o.cls&&PB q vs[11]?&&Uq (vs.getD 18 .none)&&Jh (vs.getD 7 .none)&&J1 (vs.getD 9 .none)&&Jh (vs.getD 10 .none)&&decide (c≠q)
  |_=>false)
 |none=>false
theorem yh{K:Frag}{h:Heap}{c q:Addr}(X:K.In h)(e:codeOk K c q=true):PySem.W.CodeHd h c q/\∃o vs,h.get? c=some o/\o.cls=.type "code" /\o.data=.fields vs/\vs[11]?=some (.ref q):=by
 unfold codeOk at e;split at e
 .
  rename_i o ho;split at e
  .
   rename_i vs hv;simp only[eM,mN]at e;obtain⟨⟨⟨⟨⟨⟨e1,e2⟩,e3⟩,e4⟩,e5⟩,e6⟩,e7⟩:=e;have r:=Ji e2;have d:vs.getD 11 .none=.ref q:=by rw[t8,r];rfl
   unfold Uq at e3;split at e3
   .
    rename_i file tf h3;unfold Jh at e4;split at e4
    .
     rename_i fl tg h4;unfold J1 at e5;split at e5
     .
      rename_i b h5;unfold Jh at e6;split at e6
      . rename_i tx tt h6;exact⟨⟨o,vs,file,tf,fl,tg,b,tx,tt,X _ _ ho,vU e1,hv,r,d,h3,h4,h5,h6,e7⟩,o,vs,X _ _ ho,vU e1,hv,r⟩
      . cases e6
     . cases e5
    . cases e4
   . cases e3
  . cases e
 . cases e
theorem sf{K:Frag}{o:Obj}{a:Addr}{qs:List Addr}:(qs.map (λq=>(q,o))++K).lookup a=if a∈qs then some o else K.lookup a:=by
 induction qs with
 |nil=>simp
 |cons q qs ih=>
  rw[List.map_cons,List.cons_append,oI];by_cases z:a=q
  . subst z;simp
  .
   have:(a==q)=false:=by simpa using z
   rw[this];simp only[c6,z,false_or];exact ih
theorem sr{qs:List Addr}{K:Params->Frag}{w:World}{h:Heap}(e:(qs.all λq=>((K w.params).lookup q).isNone)=true)(qqq:PySem.W.InK (mF qs K) w h):(K w.params).In h:=λa o ho=>by
 refine qqq a o ?_;show List.lookup a (qs.map _++K w.params)=_;rw[sf,fI,ho];intro z;have:=tP.mp e a z;rw[ho]at this;cases this
theorem yi{cs qs:List Addr}{K:Params->Frag}{w:World}{h:Heap}(e:(qs.all λq=>((K w.params).lookup q).isNone)=true)(e2:(qs.all λq=>cs.any λc=>codeOk (K w.params) c q)=true)(qqq:PySem.W.InK (mF qs K) w h):∀p∈qs,(∃c,h.TableAt c p #[])/\(K w.params).lookup p=none:=λp hp=>by
 obtain⟨c,_,hc⟩:=List.any_eq_true.mp (tP.mp e2 p hp);refine⟨⟨c,(yh (sr e qqq) hc).2,qqq _ _ ?_⟩,Option.isNone_iff_eq_none.mp (tP.mp e p hp)⟩;show List.lookup p (qs.map _++K w.params)=_;rw[sf,eR hp]
theorem Dr{l:PySem.W.OpenLaw}{n k:Nat}{q:Program}{loose:List Str}{XP:(Str->Option Value)->Heap->Prop}{YP:World->Heap->Prop}{d:DefRec}{K:Params->Frag}{CX:yP}{sp:Frag->Sp}{x:Str}{T:List Addr}
  (hn:l.most=some n) (hn2:n<=sizeLine) (lW:d.params.defaults=[]) (hr:eW k callerA)
  (hY:∀(w:World) (h:Heap),YP w h->(K w.params).In h) (hT:∀(w:World) (h:Heap),YP w h->∀q∈T,(∃c,h.TableAt c q #[])/\(K w.params).lookup q=none)
  (F:∀(w:World) (mg:Str->Option Value) (fa:Addr) (h:Heap),(K w.params).In h->h.Ns mainGlobals mg->mg d.name=some (.ref fa)->
   ∃fd:FuncData,(∀(s:Shared) (u:Value),BindsTo s fd ⟨[u],[]⟩ [(x,u)])/\
    ∀base:Heap,(K w.params).In base->base.Ns mainGlobals mg->lZ l.prog w (K w.params) mg base CX k fa fd [x] (sp (K w.params)))
  (P4:∀(w:World) (H:Hp) (a:Addr) (ns: ~~~0),ns.length<=n->u9 T H->bH (K w.params) H a (ns.map V.int)->sp (K w.params) [.ref a] H (λv _=>v=.bl true) λ_ _ _=>False)
  (Xd:∀(H:Hp) (s:Shared) (e:Value) (s':Shared),CX [] H s (λ_ _ _=>False) e s'->False) :
  PySem.W.WalkO q loose XP YP l.row.toRowW d [] (λf vs=>PySem.call f vs):=by
 refine Yk.qu hn lW λw s₀ s₁ mg mb fa o pm cd doc a vs ns G qqq ho hd bY hmg hobj hints aJ hg=>?_
 have KX:=hY w _ qqq;obtain⟨fd,hb,hF⟩:=F w mg fa _ KX G.T.g hmg;exact xC KX (hT w _ qqq) G.T.g G.T.b G.T.builtins G.T.nolimit hg hobj hints (hU aJ hn2) hr hF hb (λH hO hS=>P4 w H a ns aJ hO hS) λH e s'=>Xd H s₁ e s'
end Ev
namespace cC
open L2 Ev
def f0:Fi:=fY (st 2)
def f1:Fi:=fY (st 3)
def f2:Fi:=fY (st 5)
def f3:Fi:=fY (st 6)
def f4:Fi:=fY (st 7)
def f5:Fi:=fY (st 8)
def f6:Fi:=fY (st 9)
def f7:Fi:=fY (st 10)
def f8:Fi:=fY (st 11)
def f9:Fi:=fY (st 12)
def Zj:Fi:=fY (st 13)
def f11:Fi:=fY (st 14)
def Zm:Fi:=fY (st 15)
def Zn:Fi:=fY (st 16)
def Zo:Fi:=fY (st 17)
def Qs:Fi:=fY (st 18)
def ups:List (Str×List (Addr×Bool)):=[]
noncomputable def P:Pg:=⟨[f0,f1,f2,f3,f4,f5,f6,f7,f8,f9,Zj,f11,Zm,Zn,Zo,Qs],[("MOST_SIGNS",.int 40)],["all", "bool", "isinstance", "len", "list", "max", "min", "range", "sorted", "str", "tuple", "zip"],[],false,[], "KindError",ups⟩
theorem PJ:Ib P P.fn fns=true:=by decide +kernel
theorem fns_eq:List.zipWith (vp P) P.fn fns=P.fn.map (λfi=>bC fi.st):=by kernel_rfl
theorem X8:Qs.N.length=5:=rfl
theorem Yb:∀ns:List Int,ns.length<=63->∃g',(run fns fuel).b [] kk Qq.body (cF Qs.N.length [.dat (.fix (ns.map .int))])=some (.rt (.dat (.bl true)),g'):=by rw[X8];exact hev
theorem Jj(P:Params):cT (K P)=[(nat_lit 115,zj "law")]:=by kernel_rfl
theorem Ds(P:Params):([115].all λq=>((K P).lookup q).isNone)=true:=by kernel_rfl
theorem Dt(P:Params):([115].all λq=>[117].any λc=>codeOk (K P) c q)=true:=by kernel_rfl
end cC
open PySem PySem.W PyProof.Rows
set_option maxHeartbeats 0 in
theorem PySem.Challenge.cw_websbykind_k51_codes_known_holds : PySem.Challenge.rw_websbykind_k51_codes_known.Holds := by
 w_on
 refine PySem.W.holds_law (by decide +kernel) λsaid=>?_
 refine PySem.W.holds_open (q:=cC.qv) (loose:=[]) (Xt:=λs=>xlAt cC.qv [] s&&recOk (OpenRow.toRowW PySem.Challenge.rw_websbykind_k51_codes_known.row).records s) (XP:=XL cC.qv []) (Yf:=λs=>cC.as2.map s.heap.get?) (Ya:=λw=>(Ev.mF [115] cC.K w.params).map λp:Nat×Obj=>some p.2) (YP:=InK (Ev.mF [115] cC.K)) (N:=8000) cC.hl (InK.of cC.Qu) InK.keeps (λs e=>xl_of s (Bool.and_eq_true_iff.mp e).1) XL.keeps (by rfl) (by rfl) (by rfl) (λs e=>recFacts_of (Bool.and_eq_true_iff.mp e).2) (by rfl) (by first |assumption |decide +kernel) (by decide +kernel) ⟨rfl,rfl,rfl,rfl,rfl,by decide +kernel⟩ ?hw ?hc
 (case hw=>w_witness2)
 k_fill
 refine Ev.Dr (l:=PySem.Challenge.rw_websbykind_k51_codes_known) (n:=63) (k:=cC.kk+1) (x:= "_law_script") (CX:=L2.Dy) (K:=cC.K) (T:=[115]) (sp:=λK=>Ev.Ml K cC.Qs.N 1 λbor g r g'=>(Ev.run cC.fns cC.fuel).b bor cC.kk cC.Qq.body g=some (.rt r,g')) rfl ⋯ rfl ⟨rfl,by decide,by decide⟩ (λw h qqq=>Ev.sr (cC.Ds _) qqq) (λw h qqq=>Ev.yi (cC.Ds _) (cC.Dt _) qqq) ?F ?S ?C
 case F=>
  intro w mg fa h KX G hmg
  have mm:Ev.eS (L2.KOf KX) mg cC.f0/\Ev.eS (L2.KOf KX) mg cC.f1/\Ev.eS (L2.KOf KX) mg cC.f2/\Ev.eS (L2.KOf KX) mg cC.f3/\Ev.eS (L2.KOf KX) mg cC.f4/\Ev.eS (L2.KOf KX) mg cC.f5/\Ev.eS (L2.KOf KX) mg cC.f6/\Ev.eS (L2.KOf KX) mg cC.f7/\Ev.eS (L2.KOf KX) mg cC.f8/\Ev.eS (L2.KOf KX) mg cC.f9/\Ev.eS (L2.KOf KX) mg cC.Zj/\Ev.eS (L2.KOf KX) mg cC.f11/\Ev.eS (L2.KOf KX) mg cC.Zm/\Ev.eS (L2.KOf KX) mg cC.Zn/\Ev.eS (L2.KOf KX) mg cC.Zo/\Ev.eS (L2.KOf KX) mg cC.Qs:=by
   refine⟨?_,?_,?_,?_,?_,?_,?_,?_,?_,?_,?_,?_,?_,?_,?_,?_⟩ <;> (
    dsimp only[L2.KOf]
    exact Ev.T3 (by assumption) (by assumption) (by k_is) (by k_is) (by k_is) (by k_is) ⟨rfl,rfl,rfl,by decide +kernel,by decide +kernel,by decide +kernel,by decide +kernel⟩ (λ_ _ _ _ _ _ us hl=>by first | (obtain⟨_,e⟩:=Ev.T4 hl;subst e;rfl) | (obtain⟨_,_,e⟩:=Ev.T5 hl;subst e;rfl) | (obtain⟨_,_,_,e⟩:=Ev.XD hl;subst e;rfl) | (obtain⟨_,_,_,_,e⟩:=Ev.len4 hl;subst e;rfl)) ⋯)
  obtain⟨m0,m1,m2,m3,m4,m5,m6,m7,m8,m9,m10,m11,m12,m13,m14,Zq⟩:=mm
  have pW:Ev.Ol (L2.KOf KX) mg ("MOST_SIGNS",.int 40):=by
   dsimp only[L2.KOf]
   refine' Ev.Oo KX G ?a ⋯
   (case a=>k_is)
  have Ur:mg "all"=none:=mg_none_of KX G (by k_is)
  have PK:mg "bool"=none:=mg_none_of KX G (by k_is)
  have pX:mg "isinstance"=none:=mg_none_of KX G (by k_is)
  have Us:mg "len"=none:=mg_none_of KX G (by k_is)
  have PL:mg "list"=none:=mg_none_of KX G (by k_is)
  have Ut:mg "max"=none:=mg_none_of KX G (by k_is)
  have Uu:mg "min"=none:=mg_none_of KX G (by k_is)
  have Jk:mg "range"=none:=mg_none_of KX G (by k_is)
  have Du:mg "sorted"=none:=mg_none_of KX G (by k_is)
  have Uv:mg "str"=none:=mg_none_of KX G (by k_is)
  have Jl:mg "tuple"=none:=mg_none_of KX G (by k_is)
  have Uw:mg "zip"=none:=mg_none_of KX G (by k_is)
  have lm:Ev.Om cC.P (L2.KOf KX) mg:=Ev.Ia rfl rfl rfl
  have md:Ev.xO cC.P (L2.KOf KX) mg:=Ev.TY (.cons m0 (.cons m1 (.cons m2 (.cons m3 (.cons m4 (.cons m5 (.cons m6 (.cons m7 (.cons m8 (.cons m9 (.cons m10 (.cons m11 (.cons m12 (.cons m13 (.cons m14 (.cons Zq .nil)))))))))))))))) (.cons pW .nil) (.cons Ur (.cons PK (.cons pX (.cons Us (.cons PL (.cons Ut (.cons Uu (.cons Jk (.cons Du (.cons Uv (.cons Jl (.cons Uw .nil)))))))))))) .nil lm
  exact Ev.Ca (Ev.Ov cC.PJ cC.fns_eq) md (i:=15) (fi:=cC.Qs) rfl rfl rfl Zq hmg
 case S=>exact λw H a ns hl hO hS=>Ev.Ot cC.Yb (cC.K w.params) H a ns hl (by rw[cC.Jj];exact hO) hS
 case C=>exact λ_ _ _ _ z=>z
