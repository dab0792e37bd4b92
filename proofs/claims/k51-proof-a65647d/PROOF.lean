import PyProof.Rows.All
import Wide.All
import OpenK.AllK
import Wide.FinOn
import Lean
import PyProof.EqAt
import PyProof.EqKinds
import PyProof.TupleCall
import PyProof.NeKinds
import PyProof.P3Eq
import PyProof.NeData
import PyProof.FactsAll.NoneType_1
import PyProof.Rows.TupAdd
import PyProof.StrWalks
import PyProof.EnumMake
import PyProof.Rows.SetFrom
import PyProof.Rows.SetObj
import PyProof.WalksMore
import PyProof.DictItemsLoops
import PyProof.ReprRoads
import PyProof.DictWalks
import KE.KDictList
import PyProof.AttrMissHeap
import PyProof.AutoSeq1
import PyProof.ListMulRoad
import PySem.Challenge.RW_slipcatch_k51_prices_of_a_row
set_option Elab.async false
set_option linter.all false
set_option maxRecDepth 100000
set_option autoImplicit true
set_option relaxedAutoImplicit true
set_option maxHeartbeats 4000000
set_option bootstrap.genMatcherCode false
set_option genSizeOf false
noncomputable section
abbrev abk:=@PySem.wpAny_bind
abbrev abl:=@Nat.le_refl
abbrev abm:=@PySem.wpAny_pure
abbrev abn:=@List.getElem?_eq_some_iff
abbrev abo:=@if_neg
abbrev abp:=@PySem.Heap.get?_push_of_some
abbrev abq:=@List.getElem?_append_left
abbrev abr:=@if_pos
abbrev abt:=@List.getElem?_append_right
abbrev abu:=@List.mem_map
abbrev abv:=@List.size_toArray
abbrev abw:=@List.getElem?_eq_getElem
abbrev abx:=@PySem.Heap.lt_size
abbrev aby:=@List.length_append
abbrev abz:=@PySem.Heap.get?_push_size
abbrev abA:=@Bool.false_ne_true
abbrev abB:=@List.getElem?_cons_succ
abbrev abC:=@List.length_cons
abbrev abD:=@Option.some.inj
abbrev abE:=@Nat.le_trans
abbrev abF:=@List.getElem?_set_ne
abbrev abG:=@List.getElem?_map
abbrev abH:=@List.map_cons
abbrev abI:=@Nat.ne_of_lt
abbrev abJ:=@Option.bind_some
abbrev abK:=@Nat.lt_of_lt_of_le
abbrev abL:=@Bool.and_eq_true
abbrev abM:=@List.lookup_cons
abbrev abN:=@List.set_append_right
abbrev abO:=@Nat.zero_le
abbrev abP:=@List.mem_append
abbrev abQ:=@List.mem_range
abbrev abR:=@List.getElem?_set_self
abbrev abS:=@List.mem_cons_of_mem
abbrev abT:=@List.map_map
abbrev abU:=@List.mem_append_right
abbrev abV:=@List.getElem?_cons_zero
abbrev abW:=@List.mem_cons
abbrev abX:=@PySem.wpAny_newObj_type
abbrev abY:=@List.mem_of_getElem?
abbrev abZ:=@List.range_succ
abbrev ab0:=@PySem.sizeLine_eq
abbrev ab1:=@List.length_map
abbrev ab2:=@Bool.false_eq_true
abbrev ab3:=@List.getElem?_range
abbrev ab4:=@Nat.add_assoc
abbrev ab5:=@List.getElem?_eq_none_iff
abbrev ab6:=@Option.map_eq_some_iff
abbrev ab7:=@List.all_cons
abbrev ab8:=@List.length_set
abbrev ab9:=@PySem.wpAny_mono
abbrev ab_:=@PySem.mem_of_lookup
abbrev aca:=@List.append_assoc
abbrev acb:=@if_false
abbrev acd:=@Ne.symm
abbrev ace:=@List.pairwise_iff_getElem
abbrev acf:=@PySem.F.slot_dict_itemiterator_next
abbrev acg:=@beq_eq_false_iff_ne
abbrev ach:=@List.replicate_succ
abbrev aci:=@Function.comp_def
abbrev acj:=@List.append_nil
abbrev ack:=@PySem.W.kia_one
abbrev acm:=@List.map_append
abbrev acn:=@List.mem_cons_self
abbrev aco:=@PySem.wpAny_call_entry
abbrev acp:=@Int.toNat_natCast
abbrev acq:=@decide_eq_false
abbrev acr:=@List.find?_cons
abbrev acs:=@PySem.F.slot_dict_keyiterator_next
abbrev acu:=@PySem.wpAny_callSpecial?_slot
abbrev acv:=@Nat.min_eq_left
abbrev acw:=@PySem.wpAny_ite_false
abbrev acx:=@List.mem_map_of_mem
abbrev acy:=@List.take_of_length_le
abbrev acz:=@List.length_take
abbrev acA:=@List.getElem?_eq_none
abbrev acB:=@List.set_append_left
namespace NK
open PySem PySem.SeqAt
inductive KD where
 |aq | int (i:Int) | str (x:Str) | tup (ks:List KD)
mutual
noncomputable def KD.dec:(a b:KD)->Decidable (a=b)
 |.aq,.aq=>.isTrue rfl
 |.int i,.int j=>if h:i=j then .isTrue (by rw[h]) else .isFalse (λe=>h (by cases e;rfl))
 |.str x,.str y=>if h:x=y then .isTrue (by rw[h]) else .isFalse (λe=>h (by cases e;rfl))
 |.tup a,.tup b=>match KD.Qd a b with | .isTrue h=>.isTrue (by rw[h]) | .isFalse h=>.isFalse (λe=>h (by cases e;rfl))
 |.aq,.int _=>.isFalse (λe=>nomatch e) | .aq,.str _=>.isFalse (λe=>nomatch e) | .aq,.tup _=>.isFalse (λe=>nomatch e)
 |.int _,.aq=>.isFalse (λe=>nomatch e) | .int _,.str _=>.isFalse (λe=>nomatch e) | .int _,.tup _=>.isFalse (λe=>nomatch e)
 |.str _,.aq=>.isFalse (λe=>nomatch e) | .str _,.int _=>.isFalse (λe=>nomatch e) | .str _,.tup _=>.isFalse (λe=>nomatch e)
 |.tup _,.aq=>.isFalse (λe=>nomatch e) | .tup _,.int _=>.isFalse (λe=>nomatch e) | .tup _,.str _=>.isFalse (λe=>nomatch e)
noncomputable def KD.Qd:(a b:List KD)->Decidable (a=b)
 |[],[]=>.isTrue rfl
 |[],_::_=>.isFalse (λe=>nomatch e)
 |_::_,[]=>.isFalse (λe=>nomatch e)
 |x::xs,y::ys=>match KD.dec x y,KD.Qd xs ys with
  |.isTrue h,.isTrue k=>.isTrue (by rw[h,k])
  |.isFalse h,_=>.isFalse (λe=>h (by cases e;rfl))
  |_,.isFalse k=>.isFalse (λe=>k (by cases e;rfl))
end
instance:DecidableEq KD:=KD.dec
noncomputable def KD.lo:Nat->KD->Bool
 |0,.tup _=>false
 |_+1,.tup []=>true
 |n+1,.tup ks=>ks.all (KD.lo n)
 |_,_=>true
mutual
inductive ur (h:Heap):Value->KD->Prop
 |aq:ur h .none .aq
 |int {i:Int} {t:Tok}:ur h (.int i t) (.int i)
 |str {x:Str} {t:Tok}:ur h (.str x t) (.str x)
 |tup {a:Addr} {vs:Array Value} {ks:List KD}:h.IsTuple a vs->gA h vs.toList ks->ur h (.ref a) (.tup ks)
inductive gA (h:Heap):List Value->List KD->Prop
 |nil:gA h [] []
 |cons {v:Value} {k:KD} {vs:List Value} {ks:List KD}:ur h v k->gA h vs ks->gA h (v::vs) (k::ks)
end
theorem gA.length {h:Heap}:∀ {vs:List Value}{ks:List KD},gA h vs ks->vs.length=ks.length
 |_,_,.nil=>rfl
 |_,_,.cons _ r=>congrArg Nat.succ r.length
theorem A7 {h:Heap}{a:Addr}{vs ws:Array Value}:h.IsTuple a vs->h.IsTuple a ws->vs=ws:=λ⟨o,e,_,n,d⟩ ⟨o',e',_,n',d'⟩=>by
 rw[e]at e';cases e'
 rw[d]at d';cases d';rfl
theorem gA.one {h:Heap}{v:List Value}{k j:List KD}(a:gA h v k)(b:gA h v j):k=j:=
 gA.rec (motive_1:=λv k _=>∀ j,ur h v j->k=j) (motive_2:=λv k _=>∀ j,gA h v j->k=j) (λ_ q=>by cases q;rfl) (λ_ q=>by cases q;rfl) (λ_ q=>by cases q;rfl)
  (λp _ i _ q=>by cases q with | tup q s=>cases A7 p q;rw[i _ s]) (λ_ q=>by cases q;rfl) (λ_ _ i l _ q=>by cases q with | cons b s=>rw[i _ b,l _ s]) a j b
theorem ur.one {h:Heap}{v:Value}{k j:KD}(a:ur h v k)(b:ur h v j):k=j:=(List.cons.inj (gA.one (.cons a .nil) (.cons b .nil))).1
mutual
theorem ur.keep {h h':Heap}(k:∀ a vs,h.IsTuple a vs->h'.IsTuple a vs):∀ {v:Value}{d:KD},ur h v d->ur h' v d
 |_,_,.aq=>.aq
 |_,_,.int=>.int
 |_,_,.str=>.str
 |_,_,.tup p r=>.tup (k _ _ p) (gA.keep k r)
theorem gA.keep {h h':Heap}(k:∀ a vs,h.IsTuple a vs->h'.IsTuple a vs):∀ {vs:List Value}{ds:List KD},gA h vs ds->gA h' vs ds
 |_,_,.nil=>.nil
 |_,_,.cons a r=>.cons (ur.keep k a) (gA.keep k r)
end
theorem Gy {h h':Heap}{d:Addr}{o:Obj}{es ep}(ho:h.get? d=some o)(hd:o.data=.dict es ep)(hs:Heap.SameBut d h h')(a:Addr)(vs:Array Value):h.IsTuple a vs->h'.IsTuple a vs:=λ⟨o',e,c,n,q⟩=>by
 have ne:a≠d:=by
  intro z;subst z
  rw[ho]at e;cases e
  rw[hd]at q;cases q
 exact⟨o',(hs.2 a ne).trans e,c,n,q⟩
mutual
theorem DN:∀ (n:Nat) {k j:KD}{A:Around}{s:Shared}{a b:Value},ur s.heap a k->ur s.heap b j->k.lo n=true->A.units+n<cLine->EqAt A s a b (decide (k=j))
 |n,_,_,A,s,_,_,.aq,kb,_,hu=>by
  cases kb with
  |aq=>exact EqAt.same _
  |@int i t=>exact EqAt.none_int i t
  |@str x t=>exact EqAt.none_str x t
  |tup p r=>exact EqAt.none_tuple p (by lia)
 |n,_,_,A,s,_,_,.int (i:=i) (t:=t),kb,_,hu=>by
  cases kb with
  |aq=>exact EqAt.int_none i t
  |@int j u=>
   have:=EqAt.int_int (A:=A) (s:=s) i t j u
   rwa [show(i == j)=decide (KD.int i=KD.int j) by rw[Bool.eq_iff_iff];simp]at this
  |@str x u=>exact EqAt.int_str i t x u
  |tup p r=>exact EqAt.int_tuple i t p (by lia)
 |n,_,_,A,s,_,_,.str (x:=x) (t:=t),kb,_,hu=>by
  cases kb with
  |aq=>exact EqAt.str_none x t
  |@int j u=>exact EqAt.str_int x t j u
  |@str y u=>
   have:=EqAt.str_str (A:=A) (s:=s) x t y u
   rwa [show(x == y)=decide (KD.str x=KD.str y) by rw[Bool.eq_iff_iff];simp]at this
  |tup p r=>exact EqAt.str_tuple x t p (by lia)
 |0,_,_,A,s,_,_,.tup p r,kb,hl,hu=>by cases hl
 |n+1,_,_,A,s,_,_,.tup (a:=l) (vs:=vs) (ks:=ks) p r,kb,hl,hu=>by
  cases kb with
  |aq=>exact EqAt.tuple_none p (by lia)
  |@int j u=>exact EqAt.tuple_int j u p (by lia)
  |@str y u=>exact EqAt.tuple_str y u p (by lia)
  |@tup k ws js q z=>
   by_cases HQ:l=k
   ·subst HQ
    cases A7 p q
    cases gA.one r z
    rw[decide_eq_true rfl]
    exact EqAt.same _
   ·have hall:∀ x∈ks,KD.lo n x=true:=by
     cases ks with
     |nil=>exact(λ_ h=>nomatch h)
     |cons x xs=>exact List.all_eq_true.mp hl
    obtain⟨h1,h2⟩:=Af n (A:=A.in1) r z hall (show A.units+1+n<cLine by lia)
    have n1:vs.size=ks.length:=by simpa using r.length
    have n2:ws.size=js.length:=by simpa using z.length
    have:=EqAt.of_refs HQ (RcAt.tuples (e:=λi=>decide (ks[i]?=js[i]?)) p q (by lia) λi i1 i2=>h1 i (by simpa using i1) (by simpa using i2))
    rw[n1,n2,h2]at this
    have e:decide (ks=js)=decide (KD.tup ks=KD.tup js):=by
     rw[Bool.eq_iff_iff];simp
    rw[e]at this
    exact this
theorem Af:∀ (n:Nat) {ks js:List KD}{A:Around}{s:Shared}{vs ws:List Value},gA s.heap vs ks->gA s.heap ws js->(∀ x∈ks,KD.lo n x=true)->A.units+n<cLine->
  (∀ i (h1:i<vs.length) (h2:i<ws.length),EqAt A s vs[i] ws[i] (decide (ks[i]?=js[i]?)))/\((List.range (min ks.length js.length)).all (λi=>decide (ks[i]?=js[i]?))&&ks.length == js.length)=decide (ks=js)
 |n,_,_,A,s,_,_,.nil,.nil,_,_=>⟨λi h1=>absurd h1 (Nat.not_lt_zero _),by simp⟩
 |n,_,_,A,s,_,_,.nil,.cons _ _,_,_=>⟨λi h1=>absurd h1 (Nat.not_lt_zero _),by simp⟩
 |n,_,_,A,s,_,_,.cons _ _,.nil,_,_=>⟨λi _ h2=>absurd h2 (Nat.not_lt_zero _),by simp⟩
 |n,_,_,A,s,_,_,.cons (k:=x) (ks:=xs) a r,.cons (k:=y) (ks:=ys) b z,hl,hu=>by
  obtain⟨h1,h2⟩:=Af n (A:=A) r z (λq hq=>hl q (abS _ hq)) hu
  have h0:=DN n (A:=A) a b (hl x acn) hu
  refine⟨λi i1 i2=>?_,?_⟩
  ·cases i with
   |zero=>
    have e:decide (x=y)=decide ((x::xs)[0]?=(y::ys)[0]?):=by rw[Bool.eq_iff_iff];simp
    rw[e]at h0
    exact h0
   |succ i=>exact h1 i (Nat.lt_of_succ_lt_succ i1) (Nat.lt_of_succ_lt_succ i2)
  ·have e1:min (x::xs).length (y::ys).length=min xs.length ys.length+1:=by simp only[abC];lia
   rw[e1,List.range_succ_eq_map,ab7,List.all_map]
   have e2:((λi=>decide ((x::xs)[i]?=(y::ys)[i]?))∘Nat.succ)=λi=>decide (xs[i]?=ys[i]?):=by funext i;simp
   have e3:((x::xs).length == (y::ys).length)=(xs.length == ys.length):=by simp
   have e4:decide ((x::xs)[0]?=(y::ys)[0]?)=decide (x=y):=by rw[Bool.eq_iff_iff];simp
   rw[e2,e3,e4,Bool.and_assoc,h2,Bool.eq_iff_iff]
   simp
end
mutual
noncomputable def wG (w:World):KD->Int
 |.aq=>reduceHash 0xFCA86420
 |.int i=>hashInt i
 |.str x=>hashStr w x
 |.tup ks=>reduceHash (Builtin.Tuple.tupleHashOf (cZ w ks))
noncomputable def cZ (w:World):List KD->List Int
 |[]=>[]
 |k::ks=>wG w k::cZ w ks
end
mutual
noncomputable def rf:KD->Nat
 |.aq=>1
 |.int _=>1
 |.str _=>1
 |.tup ks=>dF ks+1
noncomputable def dF:List KD->Nat
 |[]=>0
 |k::ks=>rf k+dF ks
end
theorem lx (w:World):∀ a b:List KD,cZ w (a++b)=cZ w a++cZ w b
 |[],_=>by simp[cZ]
 |x::a,b=>by simp[cZ,lx w a b]
theorem lj:∀ a b:List KD,dF (a++b)=dF a+dF b
 |[],_=>by simp[dF]
 |x::a,b=>by simp[dF,lj a b];lia
section
variable {prog:Program}{w:World}{E:Value->Shared->Prop}
theorem BF {A:Around}{s:Shared}{Q:Int->Shared->Prop}(h:Q (reduceHash 0xFCA86420) {s with toks:=s.toks+1}):wpAny (model prog w) A (pyHash .none) Q E s:=by
 unfold pyHash
 first | unfold pyHashByItsType | skip
 have hv:[Value.none].any Value.onHeap=false:=rfl
 refine abk ?_
 rw[cRoomFor,abo (by rw[hv];exact abA)]
 refine abm ?_
 have hT:s.TypeIs Value.none "NoneType":=typeIs_none s
 refine abk (wpAny_specialOf hT F.slot_NoneType_hash.lookup ?_)
 show wpAny _ _ (if (some (Value.builtin "NoneType.__hash__") == some Value.none)=true then _ else _) Q E s
 rw[abo (by rw[beq_builtin_none];exact abA)]
 refine abk (wpAny_specialOf hT F.slot_NoneType_hash.lookup ?_)
 show wpAny _ _ (callSpecialIfBoundUnlessNone? .none "__hash__" _ >>= _) Q E s
 refine abk (wpAny_callSpecialIfBoundUnlessNone?_slot hT F.slot_NoneType_hash (aco F.slot_NoneType_hash hT F.entry_NoneType_hash ?_ (F.args_NoneType_hash_1 _)))
 show wpAny _ _ (retInt 0xFCA86420) _ _ s
 refine wpAny_ret_mkInt ?_
 show wpAny _ _ (if (decide (-(2:Int) ^ 63<=0xFCA86420)&&decide ((0xFCA86420:Int)<2 ^ 63))=true then _ else _) Q E _
 rw[abr (by decide)]
 unfold reduceHash at h
 rw[abr (by decide)]at h
 exact abm h
theorem wL {n:Nat}{ks:List KD}(hl:KD.lo (n+1) (.tup ks)=true):∀ x∈ks,KD.lo n x=true:=by
 cases ks with
 |nil=>exact(λ_ h=>nomatch h)
 |cons x xs=>exact List.all_eq_true.mp hl
theorem D7:∀ (n:Nat) {k:KD}{A:Around}{E:Value->Shared->Prop}{s:Shared}{v:Value}{Q:Int->Shared->Prop},ur s.heap v k->k.lo n=true->A.units+n<cLine->Q (wG w k) {s with toks:=s.toks+rf k}->wpAny (model prog w) A (pyHash v) Q E s
 |n,.aq,A,E,s,v,Q,hk,_,_,h=>by cases hk;exact BF h
 |n,.int i,A,E,s,v,Q,hk,_,_,h=>by cases hk;exact wpAny_pyHash_int h
 |n,.str x,A,E,s,v,Q,hk,_,_,h=>by cases hk;exact wpAny_pyHash_str h
 |0,.tup ks,A,E,s,v,Q,hk,hl,_,h=>by cases hl
 |n+1,.tup ks,A,E,s,v,Q,hk,hl,hu,h=>by
  cases hk with
  |@tup a vs _ p r=>
   have hT:s.TypeIs (.ref a) "tuple":=let ⟨o,e,c,_⟩:=p;⟨o,e,c⟩
   obtain⟨o,ho,_,m,hd⟩:=id p
   have hall:=wL hl
   unfold pyHash
   first | unfold pyHashByItsType | skip
   first | refine abk (wpAny_cRoomFor_or (.inr (show A.units<cLine by lia)) ?_) | skip
   refine abk (wpAny_specialOf hT F.slot_tuple_hash.lookup ?_)
   show wpAny _ _ (if (some (Value.builtin "tuple.__hash__") == some Value.none)=true then _ else _) Q E s
   rw[abo (by rw[beq_builtin_none];exact abA)]
   refine abk (wpAny_specialOf hT F.slot_tuple_hash.lookup ?_)
   refine abk (wpAny_callSpecialIfBoundUnlessNone?_slot hT F.slot_tuple_hash (aco F.slot_tuple_hash hT F.entry_tuple_hash ?_ (F.args_tuple_hash_1 _)))
   show wpAny _ _ (Builtin.Tuple.tupleItemsOf (.ref a) >>= _) _ _ s
   refine abk (wpAny_tupleItemsOf ho hd ?_)
   refine abk ?_
   rw[<-Array.forIn_toList]
   refine wpAny_forIn_list _
    (λrest (b:Array Int) s'=>∃ done left,ks=done++left/\gA s.heap rest left/\b.toList=cZ w done/\s'={s with toks:=s.toks+dF done})
    _ ?_ ?_ _ _ ⟨[],ks,rfl,r,rfl,rfl⟩
   ·rintro x rest b s' ⟨done,left,e0,L9,hb,rfl⟩
    cases L9 with
    |@cons _ k _ ks' h1 h2=>
     have hm:k∈ks:=by rw[e0];simp
     refine abk (D7 n (A:=A.in1) (s:={s with toks:=s.toks+dF done}) h1 (hall k hm) (show A.units+1+n<cLine by lia) ?_)
     have fin:∃ DK Ku,ks=DK++Ku/\gA s.heap rest Ku/\(b.push (wG w k)).toList=cZ w DK/\
       ({s with toks:=s.toks+dF done+rf k}:Shared)={s with toks:=s.toks+dF DK}:=
      ⟨done++[k],ks',by rw[e0];simp,h2,by rw[lx];simp[hb,cZ],by rw[lj];simp[dF,ab4]⟩
     first
      |exact abm fin
      |exact abk (abm (abm fin))
   ·rintro b s' ⟨done,left,e0,L9,hb,rfl⟩
    cases L9
    rw[acj]at e0
    subst e0
    show wpAny _ _ (retInt (Builtin.Tuple.tupleHashOf b.toList)) _ _ _
    rw[hb]
    refine wpAny_ret_mkInt ?_
    show wpAny _ _ (if (decide (-(2:Int) ^ 63<=Builtin.Tuple.tupleHashOf (cZ w ks))&&decide (Builtin.Tuple.tupleHashOf (cZ w ks)<2 ^ 63))=true then _ else _) Q E _
    have h':Q (reduceHash (Builtin.Tuple.tupleHashOf (cZ w ks))) {s with toks:=s.toks+dF ks+1}:=by simpa [wG,rf,ab4]using h
    unfold reduceHash at h'
    by_cases hr:(decide (-(2:Int) ^ 63<=Builtin.Tuple.tupleHashOf (cZ w ks))&&decide (Builtin.Tuple.tupleHashOf (cZ w ks)<2 ^ 63))=true
    ·rw[abr hr]
     rw[abr hr]at h'
     exact abm h'
    ·rw[abo hr]
     rw[abo hr]at h'
     exact abk (wpAny_rule (abm h'))
theorem AI:∀ (n:Nat) {k:KD}{A:Around}{E:Value->Shared->Prop}{s:Shared}{v:Value}{Q:Bool->Shared->Prop},ur s.heap v k->k.lo n=true->Q true s->wpAny (model prog w) A (eqIsQuiet n v) Q E s
 |n,.aq,A,E,s,v,Q,hk,_,h=>by cases hk;rw[eqIsQuiet_byValue n (v:=.none) rfl];exact abm h
 |n,.int i,A,E,s,v,Q,hk,_,h=>by cases hk;rw[eqIsQuiet_byValue n (v:=.int i _) rfl];exact abm h
 |n,.str x,A,E,s,v,Q,hk,_,h=>by cases hk;rw[eqIsQuiet_byValue n (v:=.str x _) rfl];exact abm h
 |0,.tup ks,A,E,s,v,Q,hk,hl,h=>by cases hl
 |n+1,.tup ks,A,E,s,v,Q,hk,hl,h=>by
  cases hk with
  |@tup a vs _ p r=>
   have hT:s.TypeIs (.ref a) "tuple":=let ⟨o,e,c,_⟩:=p;⟨o,e,c⟩
   obtain⟨o,ho,_,m,hd⟩:=id p
   have hall:=wL hl
   unfold eqIsQuiet
   refine abk (wpAny_specialOf hT F.slot_tuple_eq.lookup ?_)
   show wpAny _ _ (isInstance (.ref a) (.type "tuple") >>= _) _ _ s
   refine abk (wpAny_isInstance hT isSubtype_tuple_tuple ?_)
   simp only[Bool.not_true,ab2,acb]
   refine abk (wpAny_seqItems ho hd ?_)
   refine abk ?_
   show wpAny _ _ (forIn vs _ _) _ _ s
   rw[<-Array.forIn_toList]
   refine wpAny_forIn_list _ (λrest r s'=>r.1=none/\s'=s/\∃ left,gA s.heap rest left/\∀ x∈left,KD.lo n x=true) _ ?_ ?_ _ _ ⟨rfl,rfl,ks,r,hall⟩
   ·rintro v rest z s' ⟨hz,rfl,left,L9,ha⟩
    cases L9 with
    |@cons _ k _ ks' h1 h2=>
     refine abk (AI n h1 (ha k acn) ?_)
     simp only[Bool.not_true,ab2,acb]
     exact abm ⟨rfl,rfl,ks',h2,λx hx=>ha x (abS _ hx)⟩
   ·rintro⟨r1,r2⟩ s' ⟨hr,rfl,_⟩
    simp only at hr
    subst hr
    exact abm h
end
def Py (h:Heap)(k:KD)(a:Addr):Prop:=k.lo 8=true/\ur h (.ref a) k
noncomputable def hU (prog:Program)(w:World):HeapKind prog w KD where
 is:=Py
 hash:=wG w
 draws:=rf
 room:=λA=>A.units+8<cLine
 inj:=λhx hy=>hx.2.one hy.2
 keeps:=λx ho hd hs=>⟨x.1,x.2.keep (Gy ho hd hs)⟩
 pyHash:=λhu hk h=>D7 8 hk.2 hk.1 hu h
 eqBool:=λ{A E s x y a b Q} hu hx hy h=>DN 8 hx.2 hy.2 hx.1 hu prog w E Q h
 quiet:=λhk h=>AI 8 hk.2 hk.1 h
end NK
namespace L2
open PySem PySem.Spec PyProof.Rows
abbrev Key:=Sum Int Str
noncomputable def rg:Key->Value->Bool
 |.inl k,v=>Value.isInt k v
 |.inr x,v=>Value.isStrOf x v
noncomputable def Ve (w:World):Key->Int
 |.inl k=>hashInt k
 |.inr x=>hashStr w x
theorem bV:∀ {k:Key}{v:Value},rg k v=true->(∃ i t,k=Sum.inl i/\v=Value.int i t)\/(∃ x t,k=Sum.inr x/\v=Value.str x t)
 |.inl i,v,h=>by
  obtain⟨t,e⟩:=Value.isInt_shape (k:=i) (v:=v) h
  exact .inl ⟨i,t,rfl,e⟩
 |.inr x,v,h=>by
  obtain⟨t,e⟩:=Value.isStrOf_shape (x:=x) (v:=v) h
  exact .inr ⟨x,t,rfl,e⟩
theorem BP (i:Int)(t:Tok):rg (.inl i) (.int i t)=true:=by simp[rg,Value.isInt]
theorem BQ (x:Str)(t:Tok):rg (.inr x) (.str x t)=true:=by simp[rg,Value.isStrOf]
theorem Mt (a b:Int):decide ((Sum.inl a:Key)=Sum.inl b)=(a == b):=by
 by_cases e:a=b
 ·subst e;simp
 ·have h:¬ (Sum.inl a:Key)=Sum.inl b:=λq=>e (Sum.inl.inj q)
  rw[acq h]
  exact(acg.mpr e).symm
theorem Mw (a b:Str):decide ((Sum.inr a:Key)=Sum.inr b)=decide (a=b):=by
 by_cases e:a=b
 ·subst e;simp
 ·have h:¬ (Sum.inr a:Key)=Sum.inr b:=λq=>e (Sum.inr.inj q)
  rw[acq h,acq e]
theorem Mu (a:Int)(b:Str):decide ((Sum.inl a:Key)=Sum.inr b)=false:=acq (λq=>nomatch q)
theorem Mv (a:Str)(b:Int):decide ((Sum.inr a:Key)=Sum.inl b)=false:=acq (λq=>nomatch q)
noncomputable def bB (prog:Program)(w:World):PySem.KeyKind prog w Key where
 is:=rg
 hash:=Ve w
 inj:=λv a b ha hb=>by
  rcases bV ha with⟨i,t,rfl,rfl⟩ | ⟨x,t,rfl,rfl⟩
  ·rcases bV hb with⟨j,u,rfl,e⟩ | ⟨y,u,rfl,e⟩
   ·injection e with e1 _;rw[e1]
   ·exact nomatch e
  ·rcases bV hb with⟨j,u,rfl,e⟩ | ⟨y,u,rfl,e⟩
   ·exact nomatch e
   ·injection e with e1 _;rw[e1]
 byValue:=λk v h=>by
  rcases bV h with⟨i,t,rfl,rfl⟩ | ⟨x,t,rfl,rfl⟩<;>rfl
 pyHash:=λhv h=>by
  rcases bV hv with⟨i,t,rfl,rfl⟩ | ⟨x,t,rfl,rfl⟩
  ·exact wpAny_pyHash_int h
  ·exact wpAny_pyHash_str h
 eqBool:=λhu hv h=>by
  rcases bV hu with⟨i,t,rfl,rfl⟩ | ⟨x,t,rfl,rfl⟩
  ·rcases bV hv with⟨j,u,rfl,rfl⟩ | ⟨y,u,rfl,rfl⟩
   ·rw[Mt]at h;exact wpAny_eqBool_int h
   ·rw[Mu]at h;exact SeqAt.EqAt.int_str i t y u _ _ _ _ h
  ·rcases bV hv with⟨j,u,rfl,rfl⟩ | ⟨y,u,rfl,rfl⟩
   ·rw[Mv]at h;exact SeqAt.EqAt.str_int x t j u _ _ _ _ h
   ·rw[Mw]at h;exact wpAny_eqBool_str h
 «strs»:=λk x t v h=>by
  rcases bV h with⟨i,u,rfl,e⟩ | ⟨y,u,rfl,e⟩
  ·exact nomatch e
  ·injection e with e1 _
   subst e1
   cases v<;>rfl
theorem wV (prog:Program)(w:World)(i:Int)(t:Tok):(bB prog w).is (.inl i) (.int i t)=true:=BP i t
theorem lE (prog:Program)(w:World)(x:Str)(t:Tok):(bB prog w).is (.inr x) (.str x t)=true:=BQ x t
inductive V where
 |aq | bl (b:Bool) | int (i:Int) | str (x:Str) | OX (b:Array UInt8) | LY (b:UInt64) | ref (a:Addr) | ty (n:String)
 deriving DecidableEq
def RelV:V->Value->Prop
 |.aq,u=>u=Value.none
 |.bl b,u=>u=Value.bool b
 |.int i,u=>∃ t,u=Value.int i t
 |.str x,u=>∃ t,u=Value.str x t
 |.OX b,u=>∃ t,u=Value.bytes b t
 |.LY b,u=>∃ t,u=Value.float b t
 |.ref a,u=>u=Value.ref a
 |.ty n,u=>u=Value.type n
abbrev Vals:List V->List Value->Prop:=Paired RelV
theorem Vals.length {xs:List V}{us:List Value}(r:Vals xs us):xs.length=us.length:=Paired.length r
theorem Vals.get:∀ {xs:List V}{us:List Value}{i:Nat}{x:V},Vals xs us->xs[i]?=some x->∃ u,us[i]?=some u/\RelV x u
 |_,_,_,_,.nil,e=>by simp at e
 |_,_,0,_,.cons r _,e=>by simp at e;subst e;exact⟨_,rfl,r⟩
 |_,_,i+1,x,.cons _ t,e=>by
  obtain⟨u,h1,h2⟩:=Vals.get (i:=i) (x:=x) t (by simpa using e)
  exact⟨u,by simpa using h1,h2⟩
theorem Vals.set {x:V}{u:Value}(r:RelV x u):∀ {xs:List V}{us:List Value} (i:Nat),Vals xs us->Vals (xs.set i x) (us.set i u)
 |_,_,_,.nil=>.nil
 |_,_,0,.cons _ t=>.cons r t
 |_,_,i+1,.cons q t=>.cons q (Vals.set r i t)
theorem Vals.append:∀ {xs ys:List V}{us ws:List Value},Vals xs us->Vals ys ws->Vals (xs++ys) (us++ws)
 |_,_,_,_,.nil,s=>s
 |_,_,_,_,.cons r t,s=>.cons r (Vals.append t s)
theorem Vals.take:∀ {xs:List V}{us:List Value} (n:Nat),Vals xs us->Vals (xs.take n) (us.take n)
 |_,_,0,_=>.nil
 |_,_,_+1,.nil=>.nil
 |_,_,n+1,.cons r t=>.cons r (Vals.take n t)
theorem Vals.drop:∀ {xs:List V}{us:List Value} (n:Nat),Vals xs us->Vals (xs.drop n) (us.drop n)
 |_,_,0,r=>r
 |_,_,_+1,.nil=>.nil
 |_,_,n+1,.cons _ t=>Vals.drop n t
def j5:Option V->Option Value->Prop
 |some v,some u=>RelV v u
 |none,none=>True
 |_,_=>False
def KV {κ:Type}:List (κ×V)->List (κ×Value)->Prop:=Paired λ(p:κ×V) (q:κ×Value)=>p.1=q.1/\RelV p.2 q.2
noncomputable def kV:Key->V
 |.inl i=>.int i
 |.inr x=>.str x
inductive HO where
 |lst (xs:List V)
 |tup (xs:List V)
 |dK (kvs:List (Key×V)) | dT (kvs:List (NK.KD×V))
 |set (S:Int->Bool) (n:Nat)
 |ins (C dx:Addr) (fs:List (Str×V))
 |own (x:Addr)
 |xd (fs:List (Str×V))
 |met (f x:Addr)
 |V6 (lo hi:Int)
 |dE (o:Obj) (u:HO)
 |OG (ps:Array Value)
 |ext (φ:Heap->Prop)
abbrev Hp:=Addr->Option HO
noncomputable def upd (H:Hp)(a:Addr)(o:HO):Hp:=λb=>if b=a then some o else H b
theorem bF {H:Hp}{a:Addr}{o:HO}:upd H a o a=some o:=by unfold upd;rw[abr rfl]
theorem ax {H:Hp}{a b:Addr}{o:HO}(h:b≠a):upd H a o b=H b:=by unfold upd;rw[abo h]
theorem Q1 {H:Hp}{a b:Addr}{o u:HO}(h:H a=some o)(h':H b=some u)(d:o≠u):a≠b:=by
 intro e;subst e;rw[h]at h';exact d (abD h')
theorem a0 {H:Hp}{a b:Addr}{o:HO}(h:H a=some o)(h':H b=none):a≠b:=by
 intro e;subst e;rw[h]at h';cases h'
mutual
inductive uv (H:Hp):V->NK.KD->Prop
 |aq:uv H .aq .aq
 |int {i:Int}:uv H (.int i) (.int i)
 |str {x:Str}:uv H (.str x) (.str x)
 |tup {a:Addr} {vs:List V} {ks:List NK.KD}:H a=some (.tup vs)->mE H vs ks->uv H (.ref a) (.tup ks)
inductive mE (H:Hp):List V->List NK.KD->Prop
 |nil:mE H [] []
 |cons {v:V} {k:NK.KD} {vs:List V} {ks:List NK.KD}:uv H v k->mE H vs ks->mE H (v::vs) (k::ks)
end
mutual
theorem uv.mono {H H':Hp}(ht:∀ b xs,H b=some (.tup xs)->H' b=some (.tup xs)):∀ {v:V}{k:NK.KD},uv H v k->uv H' v k
 |_,_,.aq=>.aq
 |_,_,.int=>.int
 |_,_,.str=>.str
 |_,_,.tup e r=>.tup (ht _ _ e) (mE.mono ht r)
theorem mE.mono {H H':Hp}(ht:∀ b xs,H b=some (.tup xs)->H' b=some (.tup xs)):∀ {vs:List V}{ks:List NK.KD},mE H vs ks->mE H' vs ks
 |_,_,.nil=>.nil
 |_,_,.cons a r=>.cons (uv.mono ht a) (mE.mono ht r)
end
def C3 (H:Hp)(b:Addr)(k:NK.KD):Prop:=uv H (.ref b) k/\k.lo 8=true
theorem C3.mono {H H':Hp}{b:Addr}{k:NK.KD}(e:C3 H b k)(ht:∀ b xs,H b=some (.tup xs)->H' b=some (.tup xs)):C3 H' b k:=⟨e.1.mono ht,e.2⟩
def f9 (h:Heap)(a:Addr)(items:Array Value):Prop:=∃ o,h.get? a=some o/\o.cls=.type "tuple"/\o.dict=none/\∃ n,o.data=.seq items n
theorem f9.tup {h:Heap}{a:Addr}{items:Array Value}:f9 h a items->IsTup h a items:=λ⟨o,e,c,_,d⟩=>⟨o,e,c,d⟩
theorem f9.lt {h:Heap}{a:Addr}{items:Array Value}(p:f9 h a items):a<h.objs.size:=p.tup.lt
theorem f9.new (h:Heap)(items:Array Value):f9 (h.push {cls:=.type "tuple",data:=.seq items}) h.objs.size items:=⟨_,abz _ rfl,rfl,rfl,_,rfl⟩
section
variable (P:Program)(w:World)
def bD (H:Hp)(h:Heap)(a:Addr):HO->Prop
 |.lst xs=>xs.length<=sizeLine/\∃ (its:List Value) (n:Nat),Vals xs its/\h.get? a=some {cls:=.type "list",data:=.seq its.toArray n}
 |.tup xs=>xs.length<=sizeLine/\∃ its:List Value,Vals xs its/\f9 h a its.toArray
 |.dK kvs=>kvs.length<=sizeLine/\(a == sysModules)=false/\∃ vs,KV kvs vs/\h.DictOf (bB P w) a vs
 |.dT kvs=>kvs.length<=sizeLine/\(a == sysModules)=false/\∃ xs:List (NK.KD×Addr×Value),
   Paired (λ(p:NK.KD×V) (q:NK.KD×Addr×Value)=>p.1=q.1/\C3 H q.2.1 p.1/\RelV p.2 q.2.2) kvs xs/\
   ∃ o es ep,h.get? a=some o/\o.ExactDict/\o.data=.dict es ep/\es.toList=xs.map (entryOfKey (NK.hU P w))/\(xs.map (·.1)).Nodup
 |.set S n=>h.SetOf (intKind P w) a S n
 |.ins C dx fs=>H dx=some (.own a)/\fs.length<=1000/\dx≠a/\h.get? a=some (PySem.W.instObj C dx)/\
   ∃ mA,h.Ns1 dx mA/\(∀ f,j5 (fs.lookup f) (mA f))/\PySem.Within mA (fs.map (·.1))
 |.own _=>∃ o,h.get? a=some o
 |.xd fs=>∃ mA,h.Ns1 a mA/\∀ f,j5 (fs.lookup f) (mA f)
 |.V6 lo hi=>∃ t u v,h.get? a=some {cls:=.type "range",data:=.fields #[.int lo t,.int hi u,.int 1 v]}
 |.dE o u=>h.get? a=some o/\bD H h a u
 |.OG ps=>h.get? a=some {cls:=.none,data:=.fields ps}
 |.met f x=>h.get? a=some (PySem.W.methodObj (.ref f) (.ref x))
 |.ext φ=>φ h/\(∃ o,h.get? a=some o)/\∀ h1 h2:Heap,φ h1->(∀ o,h1.get? a=some o->h2.get? a=some o)->φ h2
def jU (H:Hp)(h:Heap):Prop:=∀ a o,H a=some o->bD P w H h a o
end
section
variable {P:Program}{w:World}{H H':Hp}{h h':Heap}{a:Addr}{o:HO}
theorem bD.lt (x:bD P w H h a o):a<h.objs.size:=by
 cases o with
 |lst xs=>obtain⟨_,_,_,_,e⟩:=x;exact abx e
 |tup xs=>obtain⟨_,_,_,p⟩:=x;exact p.lt
 |dK kvs=>obtain⟨_,_,_,_,o,_,_,e,_⟩:=x;exact abx e
 |dT kvs=>obtain⟨_,_,_,_,o,_,_,e,_⟩:=x;exact abx e
 |set S n=>obtain⟨o,_,_,_,e,_⟩:=x;exact abx e
 |ins C dx fs=>obtain⟨_,_,_,e,_⟩:=x;exact abx e
 |own y=>obtain⟨_,e⟩:=x;exact abx e
 |xd fs=>obtain⟨_,⟨_,_,_,e,_⟩,_⟩:=x;exact abx e
 |V6 lo hi=>obtain⟨_,_,_,e⟩:=x;exact abx e
 |dE ob u=>obtain⟨e,_⟩:=x;exact abx e
 |OG ps=>exact abx (show h.get? a=some _ from x)
 |met f y=>exact abx (show h.get? a=some _ from x)
 |ext φ=>obtain⟨_,⟨_,e⟩,_⟩:=x;exact abx e
theorem Paired.MN {α β:Type}{F G:α->β->Prop}:∀ {l₁:List α}{l₂:List β},Paired F l₁ l₂->(∀ a b,F a b->G a b)->Paired G l₁ l₂
 |_,_,.nil,_=>.nil
 |_,_,.cons r t,f=>.cons (f _ _ r) (Paired.MN t f)
theorem bD.xw (x:bD P w H h a o)(k:∀ b u,(b=a\/H b=some (.own a))->h.get? b=some u->h'.get? b=some u)
  (ho:∀ b,H b=some (.own a)->H' b=some (.own a)) (ht:∀ b xs,H b=some (.tup xs)->H' b=some (.tup xs)):bD P w H' h' a o:=by
 induction o with
 |lst xs=>obtain⟨z,its,n,r,e⟩:=x;exact⟨z,its,n,r,k _ _ (.inl rfl) e⟩
 |tup xs=>obtain⟨z,its,r,ob,e,c⟩:=x;exact⟨z,its,r,ob,k _ _ (.inl rfl) e,c⟩
 |dK kvs=>obtain⟨z,y,vs,r,ob,es,ep,e,c⟩:=x;exact⟨z,y,vs,r,ob,es,ep,k _ _ (.inl rfl) e,c⟩
 |dT kvs=>
  obtain⟨z,y,xs,r,ob,es,ep,e,c⟩:=x
  exact⟨z,y,xs,Paired.MN r λp q z=>⟨z.1,z.2.1.mono ht,z.2.2⟩,ob,es,ep,k _ _ (.inl rfl) e,c⟩
 |set S n=>obtain⟨ob,es,ep,t,e,c⟩:=x;exact⟨ob,es,ep,t,k _ _ (.inl rfl) e,c⟩
 |ins C dx fs=>
  obtain⟨d,z,ne,e,mA,⟨od,es,ep,e2,c⟩,r⟩:=x
  exact⟨ho _ d,z,ne,k _ _ (.inl rfl) e,mA,⟨od,es,ep,k _ _ (.inr d) e2,c⟩,r⟩
 |own y=>obtain⟨ob,e⟩:=x;exact⟨ob,k _ _ (.inl rfl) e⟩
 |xd fs=>obtain⟨mA,⟨od,es,ep,e,c⟩,r⟩:=x;exact⟨mA,⟨od,es,ep,k _ _ (.inl rfl) e,c⟩,r⟩
 |V6 lo hi=>obtain⟨t,u,v,e⟩:=x;exact⟨t,u,v,k _ _ (.inl rfl) e⟩
 |dE ob u ih=>obtain⟨e,q⟩:=x;exact⟨k _ _ (.inl rfl) e,ih q⟩
 |OG ps=>
  have e:h.get? a=some {cls:=.none,data:=.fields ps}:=x
  show h'.get? a=some {cls:=.none,data:=.fields ps}
  exact k a _ (.inl rfl) e
 |met f y=>
  have e:h.get? a=some (PySem.W.methodObj (.ref f) (.ref y)):=x
  show h'.get? a=some (PySem.W.methodObj (.ref f) (.ref y))
  exact k a _ (.inl rfl) e
 |ext φ=>obtain⟨p,⟨o,e⟩,st⟩:=x;exact⟨st _ _ p λo q=>k _ _ (.inl rfl) q,⟨o,k _ _ (.inl rfl) e⟩,st⟩
theorem jU.lt (x:jU P w H h)(e:H a=some o):a<h.objs.size:=(x a o e).lt
theorem jU.fresh (x:jU P w H h)(e:h.objs.size<=a):H a=none:=by
 cases q:H a with
 |none=>rfl
 |some u=>exact absurd (abK (x.lt q) e) (Nat.lt_irrefl _)
theorem jU.kept (x:jU P w H h)(k:∀ b u,h.get? b=some u->h'.get? b=some u):jU P w H h':=λa o e=>
 (x a o e).xw (λb u _ q=>k b u q) (λ_ q=>q) λ_ _ q=>q
theorem jU.laid (x:jU P w H h)(k:∀ b u,h.get? b=some u->h'.get? b=some u)(hp:h.objs.size<=a)(new:bD P w (upd H a o) h' a o):jU P w (upd H a o) h':=λb u e=>by
 have hn:=x.fresh hp
 by_cases hb:b=a
 ·subst hb;rw[bF]at e;cases e;exact new
 ·rw[ax hb]at e
  exact(x b u e).xw (λc v _ q=>k c v q) (λc q=>by rw[ax (a0 q hn)];exact q) λc xs q=>by rw[ax (a0 q hn)];exact q
end
def Rd (H:Hp)(a:Addr)(u:HO):Prop:=H a=some u\/∃ o,H a=some (.dE o u)
theorem Rd.ok {P:Program}{w:World}{H:Hp}{h:Heap}{a:Addr}{u:HO}(r:Rd H a u)(x:jU P w H h):bD P w H h a u:=by
 rcases r with r | ⟨o,r⟩
 ·exact x a u r
 ·obtain⟨_,q⟩:=x a _ r
  exact q
def OT:Option HO->Prop
 |some (.lst _)=>True
 |some (.dK _)=>True
 |some (.dT _)=>True
 |some (.set _ _)=>True
 |some (.ins _ _ _)=>True
 |some (.ext _)=>True
 |_=>False
section
variable {P:Program}{w:World}{H:Hp}{h h':Heap}{x e:Addr}{o':HO}
theorem jU.write (ok:jU P w H h)(mu:OT (H x))(he:e=x\/H e=some (.own x))(k:∀ b u,b≠e->h.get? b=some u->h'.get? b=some u)(O2:∃ u,h'.get? e=some u)
  (new:bD P w (upd H x o') h' x o'):jU P w (upd H x o') h':=λb u q=>by
 have nown:∀ c y,H c=some (.own y)->c≠x:=λc y r z=>by subst z;rw[r]at mu;exact mu
 have ntup:∀ c xs,H c=some (.tup xs)->c≠x:=λc xs r z=>by subst z;rw[r]at mu;exact mu
 by_cases hb:b=x
 ·subst hb;rw[bF]at q;cases q;exact new
 ·rw[ax hb]at q
  by_cases L6:b=e
  ·have q':H b=some (.own x):=by
    rcases he with z | z
    ·exact absurd (L6.trans z) hb
    ·rw[L6];exact z
   rw[q]at q';cases q'
   obtain⟨v,hv⟩:=O2
   exact⟨v,by rw[L6];exact hv⟩
  ·refine(ok b u q).xw (λc v hc r=>k c v ?_ r) (λc r=>by rw[ax (nown c b r)];exact r) λc xs r=>by rw[ax (ntup c xs r)];exact r
   rcases hc with rfl | hc
   ·exact L6
   ·rintro rfl
    rcases he with z | z
    ·exact nown c b hc z
    ·rw[hc]at z;cases z;exact hb rfl
end
structure Un (fs ex:List Addr)(H H':Hp)(h h':Heap):Prop where
 keep:∀ b o,h.get? b=some o->H b=none->b∉fs->b∉ex->h'.get? b=some o
 slot:∀ b o,h.get? b=some o->H b=none->b∈fs->b∉ex->∃ sl,h'.get? b=some {o with slots:=sl}
 free:∀ b o,h.get? b=some o->H b=none->b∉ex->H' b=none
 there:∀ b o,h.get? b=some o->b∉ex->∃ o',h'.get? b=some o'
 tups:∀ b xs,H b=some (.tup xs)->H' b=some (.tup xs)
 frzs:∀ b o u,H b=some (.dE o u)->H' b=some (.dE o u)
 tbls:∀ b ps,H b=some (.OG ps)->∃ more,H' b=some (.OG (ps++more))
section
variable {fs ex:List Addr}{H H1:Hp}{h h1 h':Heap}{a x e:Addr}{o:HO}
theorem Un.any (u:Un fs ex H H1 h h1){b:Addr}{ob:Obj}(q:h.get? b=some ob)(n:H b=none)(hx:b∉ex):∃ sl,h1.get? b=some {ob with slots:=sl}:=by
 by_cases hb:b∈fs
 ·exact u.slot b ob q n hb hx
 ·exact⟨ob.slots,u.keep b ob q n hb hx⟩
theorem Un.kept (k:∀ b u,h.get? b=some u->h'.get? b=some u):Un fs ex H H h h':=
 ⟨λb ob q _ _ _=>k b ob q,λb ob q _ _ _=>⟨ob.slots,k b ob q⟩,λ_ _ _ n _=>n,λb ob q _=>⟨ob,k b ob q⟩,λ_ _ q=>q,λ_ _ _ q=>q,λ_ ps q=>⟨#[],by rw[q];simp⟩⟩
theorem Un.refl:Un fs ex H H h h:=Un.kept λ_ _ q=>q
theorem Un.laid (k:∀ b u,h.get? b=some u->h'.get? b=some u)(hp:h.objs.size<=a)(hn:H a=none):Un fs ex H (upd H a o) h h' where
 keep:=λb u q _ _ _=>k b u q
 slot:=λb u q _ _ _=>⟨u.slots,k b u q⟩
 free:=λb u q n _=>by rw[ax (abI (abK (abx q) hp))];exact n
 there:=λb u q _=>⟨u,k b u q⟩
 tups:=λb xs q=>by rw[ax (a0 q hn)];exact q
 frzs:=λb u xs q=>by rw[ax (a0 q hn)];exact q
 tbls:=λb ps q=>⟨#[],by rw[ax (a0 q hn),q];simp⟩
theorem Un.write (mu:OT (H x))(he:e=x\/H e=some (.own x))(k:∀ b u,b≠e->h.get? b=some u->h'.get? b=some u)(O2:∃ u,h'.get? e=some u):Un fs ex H (upd H x o) h h':=by
 have hx:∀ b,H b=none->b≠x:=λb n z=>by subst z;rw[n]at mu;exact mu
 have hb:∀ b,H b=none->b≠e:=λb n z=>by
  subst z
  rcases he with r | r
  ·exact hx b n r
  ·rw[n]at r;cases r
 have hm:∀ b u,H b=some u->¬ OT (some u)->b≠x:=λb u q nm z=>by subst z;rw[q]at mu;exact nm mu
 refine⟨λb u q n _ _=>k b u (hb b n) q,λb u q n _ _=>⟨u.slots,k b u (hb b n) q⟩,λb u q n _=>by rw[ax (hx b n)];exact n,λb u q _=>?_,
  λb xs q=>by rw[ax (hm b _ q λz=>z)];exact q,λb u xs q=>by rw[ax (hm b _ q λz=>z)];exact q,λb ps q=>⟨#[],by rw[ax (hm b _ q λz=>z),q];simp⟩⟩
 by_cases L6:b=e
 ·subst L6;exact O2
 ·exact⟨u,k b u L6 q⟩
end
noncomputable def TC (h:Heap)(H:Hp):List Addr:=(List.range h.objs.size).filter λa=>(H a).isSome
def uO (h:Heap)(H:Hp):Heap:=PySem.W.hideAll h (TC h H)
theorem BH (h:Heap)(H:Hp):(uO h H).objs.size=h.objs.size:=PySem.W.hideAll_size _ _
theorem Ec {h:Heap}{H:Hp}{b:Addr}{o:Obj}(e:h.get? b=some o)(n:H b=none):(uO h H).get? b=some o:=
 PySem.W.hideAll_get _ e λhm=>by
  have q:(H b).isSome=true:=(List.mem_filter.mp hm).2
  rw[n]at q;simp at q
theorem IF {h:Heap}{H:Hp}{b:Addr}{o:Obj}(e:(uO h H).get? b=some o):h.get? b=some o/\H b=none:=by
 have e':h.get? b=some o:=PySem.W.of_hideAll (TC h H) e
 refine⟨e',?_⟩
 cases q:H b with
 |none=>rfl
 |some x=>
  have hm:b∈TC h H:=List.mem_filter.mpr ⟨abQ.mpr (abx e'),by simp[q]⟩
  have z:(uO h H).get? b=none:=PySem.W.hideAll_none (TC h H) hm
  rw[z]at e;cases e
structure Mod (K:PySem.W.Frag)(mg:Str->Option Value)(base:Heap):Prop where
 kin:K.In base
 glob:base.Ns mainGlobals mg
 blt:∃ mb,base.Ns builtinsNs mb/\∀ x:Str,x≠"__name__"->mb x=bootBuiltins x
 nolimit:base.NoLimit
structure Cx where
 prog:Program
 w:World
 K:PySem.W.Frag
 mg:Str->Option Value
 base:Heap
 A:Around
 N:List Str
 s₀:Shared
 H₀:Hp
 env:Env
 outer:List Env
 stack:List Env
 ex:List Addr
 fn:Str->Bool
 calm:Bool
 pn:List (Addr×Obj)
 xe:Value->Shared->Prop
noncomputable def CO (l:List Env):List Addr:=l.filterMap (·.frame)
noncomputable abbrev Cx.fs (X:Cx):List Addr:=CO X.outer
def T1 (sc:Scope)(x:Str):Prop:=sc.names.lookup x=some .local\/sc.names.lookup x=some .cell\/sc.names.lookup x=some .free
def Loc (sc:Scope)(x:Str):Prop:=sc.names.lookup x=some .local\/sc.names.lookup x=some .cell
def Look (env:Env)(h:Heap)(m:Str->Option Value)(x:Str)(u:Value):Prop:=
 (env.kindOf x=some .local/\m x=some u)\/((env.kindOf x=some .cell\/env.kindOf x=some .free)/\∃ c,env.cells.lookup x=some c/\h.IsCell c (some u))
structure Cx.Ok (X:Cx):Prop where
 mod:Mod X.K X.mg X.base
 kind:X.env.scope.kind=.function
 glob:X.env.globals=mainGlobals
 blt:X.env.builtins=builtinsNs
 above:X.s₀.heap.objs.size<=X.env.locals
 inj:∀ x y c,X.env.cells.lookup x=some c->X.env.cells.lookup y=some c->x=y
 has:∀ x,(X.env.kindOf x=some .cell\/X.env.kindOf x=some .free)->∃ c,X.env.cells.lookup x=some c
 cab:∀ x c,X.fn x=true->X.env.cells.lookup x=some c->X.s₀.heap.objs.size<=c
 hd:X.calm=true->X.A.handled=none
 frames:X.A.frames=some X.stack
 stk:X.stack=X.outer\/(X.stack=X.env::X.outer/\X.env.frame=some X.env.locals)
 exf:∀ b∈X.ex,b≠X.env.locals/\∀ x c,X.env.cells.lookup x=some c->c≠b
 bs:∀ b o,X.base.get? b=some o->X.s₀.heap.get? b=some o/\X.H₀ b=none
 bsz:X.base.objs.size<=X.s₀.heap.objs.size
 noex:∀ b o,X.base.get? b=some o->b∉X.ex
 exfs:∀ b∈X.ex,b∉X.fs
 pX:X.s₀.heap.FunFrames X.base X.outer
 frf:∀ b∈X.fs,X.H₀ b=none
structure Inv (X:Cx)(pins:List (Addr×Obj))(σ:List (Option V))(H:Hp)(s:Shared):Prop where
 ok:X.Ok
 os:s.os=X.s₀.os
 bare:AllBare s.gens
 base:Un X.fs X.ex X.H₀ H X.s₀.heap s.heap
 loc:∃ m,s.heap.Ns X.env.locals m/\∀ (i:Nat) (x:Str) (v:V),X.N[i]?=some x->σ[i]?=some (some v)->T1 X.env.scope x->∃ u,RelV v u/\Look X.env s.heap m x u
 cell:∀ x c,X.env.cells.lookup x=some c->∃ v,s.heap.IsCell c v
 free:H X.env.locals=none
 freeC:∀ x c,X.env.cells.lookup x=some c->H c=none
 pin:∀ p∈X.pn++pins,s.heap.get? p.1=some p.2/\H p.1=none/\p.1≠X.env.locals/\p.1∉X.fs/\∀ v,p.2.data≠.cell v
 hok:jU X.prog X.w H s.heap
 len:σ.length=X.N.length
section
variable {X:Cx}{pins:List (Addr×Obj)}{σ:List (Option V)}{H H':Hp}{s:Shared}{h':Heap}
theorem Cx.Ok.Vr (ok:X.Ok){b:Addr}{o:Obj}(e:X.base.get? b=some o):b∉X.fs:=λhb=>by
 have:=(ok.pX.mem hb).1
 rw[e]at this;cases this
theorem Inv.bs (I:Inv X pins σ H s):∀ b o,X.base.get? b=some o->s.heap.get? b=some o/\H b=none:=λb o e=>
 ⟨I.base.keep b o (I.ok.bs b o e).1 (I.ok.bs b o e).2 (I.ok.Vr e) (I.ok.noex b o e),I.base.free b o (I.ok.bs b o e).1 (I.ok.bs b o e).2 (I.ok.noex b o e)⟩
theorem Inv.bk (I:Inv X pins σ H s):∀ b o,X.base.get? b=some o->s.heap.get? b=some o:=λb o e=>(I.bs b o e).1
theorem Inv.mod (I:Inv X pins σ H s):Mod X.K X.mg X.base:=I.ok.mod
theorem Inv.oH (I:Inv X pins σ H s):X.K.In s.heap:=I.ok.mod.kin.keeps I.bk
theorem Inv.lt (I:Inv X pins σ H s):X.env.locals<s.heap.objs.size:=let ⟨_,hn,_⟩:=I.loc;hn.lt
theorem Inv.sz (I:Inv X pins σ H s):X.s₀.heap.objs.size<=s.heap.objs.size:=abE I.ok.above (Nat.le_of_lt I.lt)
theorem Inv.Vs (I:Inv X pins σ H s){a:Addr}(h:s.heap.objs.size<=a):a∉X.fs:=λhb=>by
 obtain⟨_,o,ho,_⟩:=I.ok.pX.mem hb
 exact absurd (abK (abx ho) (abE I.sz h)) (Nat.lt_irrefl _)
theorem Inv.LJ (I:Inv X pins σ H s):∀ x c,X.env.cells.lookup x=some c->c≠X.env.locals:=λx c e z=>by
 obtain⟨v,o,ho,hd⟩:=I.cell x c e
 obtain⟨m,⟨o',es,ep,HU,UB,_⟩,_⟩:=I.loc
 rw[z,HU]at ho;cases ho;rw[UB]at hd;cases hd
theorem Inv.pX (I:Inv X pins σ H s):s.heap.FunFrames X.base X.outer:=by
 have all:∀ (l:List Env),(∀ b∈CO l,b∈X.fs)->X.s₀.heap.FunFrames X.base l->s.heap.FunFrames X.base l:=by
  intro l
  induction l with
  |nil=>intro _ _;trivial
  |cons env r ih=>
   intro hs hl
   obtain⟨hk,⟨L,o,hf,hn,ho,hd⟩,hr⟩:=hl
   have hL:L∈X.fs:=hs L (by unfold CO;rw[List.filterMap_cons,hf];exact acn)
   obtain⟨sl,e⟩:=I.base.slot L o ho (I.ok.frf L hL) hL λz=>I.ok.exfs L z hL
   exact⟨hk,⟨L,_,hf,hn,e,hd⟩,ih (λb hb=>hs b (by unfold CO;rw[List.filterMap_cons,hf];exact abS _ hb)) hr⟩
 exact all X.outer (λ_ hb=>hb) I.ok.pX
theorem Inv.stack (I:Inv X pins σ H s):s.heap.FunFrames X.base X.stack:=by
 rcases I.ok.stk with e | ⟨e,hf⟩
 ·rw[e];exact I.pX
 ·rw[e]
  obtain⟨m,hn,_⟩:=I.loc
  refine .cons (by rw[I.ok.kind];decide) hf hn ?_ I.pX
  exact Heap.get?_none_of_le (abE I.ok.bsz I.ok.above)
theorem Inv.zx (I:Inv X pins σ H s):∀ b∈CO X.stack,b∈X.env.locals::X.fs:=λb hb=>by
 rcases I.ok.stk with e | ⟨e,hf⟩
 ·rw[e]at hb;exact abS _ hb
 ·rw[e]at hb
  unfold CO at hb
  rw[List.filterMap_cons,hf]at hb
  exact hb
theorem Inv.AU (I:Inv X pins σ H s):∀ b∈CO X.stack,H b=none:=λb hb=>by
 rcases abW.mp (I.zx b hb) with e | hb
 ·rw[e];exact I.free
 ·obtain⟨_,o,ho,_⟩:=I.ok.pX.mem hb
  exact I.base.free b o ho (I.ok.frf b hb) λz=>I.ok.exfs b z hb
theorem Inv.step {g':Array GenState}{t':Nat}{d':Drawn}{ch:List Addr}(I:Inv X pins σ H s)
  (GP:∀ b∈ch,(b∈X.ex\/X.s₀.heap.objs.size<=b)/\b≠X.env.locals/\(∀ x c,X.env.cells.lookup x=some c->c≠b)/\∀ p∈X.pn++pins,p.1≠b)
  (keep:∀ b o,b≠X.env.locals->b∉X.fs->b∉ch->s.heap.get? b=some o->H b=none->h'.get? b=some o)
  (slot:∀ b o,b≠X.env.locals->b∈X.fs->b∉ch->s.heap.get? b=some o->H b=none->∃ sl,h'.get? b=some {o with slots:=sl}) (free:∀ b o,b∉ch->s.heap.get? b=some o->H b=none->H' b=none)
  (there:∀ b o,b∉ch->s.heap.get? b=some o->∃ o',h'.get? b=some o')
  (tups:∀ b xs,H b=some (.tup xs)->H' b=some (.tup xs)) (frzs:∀ b o u,H b=some (.dE o u)->H' b=some (.dE o u)) (tbls:∀ b ps,H b=some (.OG ps)->∃ more,H' b=some (.OG (ps++more)))
  (ns:∀ m,s.heap.Ns X.env.locals m->h'.Ns X.env.locals m) (hok:jU X.prog X.w H' h') (hg:AllBare g') :
  Inv X pins σ H' {s with heap:=h',gens:=g',drawn:=d',toks:=t'}:=by
 have neL:∀ b o,X.s₀.heap.get? b=some o->b≠X.env.locals:=λb o e=>abI (abK (abx e) I.ok.above)
 have neC:∀ b o,X.s₀.heap.get? b=some o->b∉X.ex->b∉ch:=λb o e hx hb=>by
  rcases(GP b hb).1 with z | z
  ·exact hx z
  ·exact absurd (abK (abx e) z) (Nat.lt_irrefl _)
 have cellK:∀ x c,X.env.cells.lookup x=some c->∀ v,s.heap.IsCell c v->h'.IsCell c v:=λx c e v ⟨o,ho,hd⟩=>by
  have Q0:c∉ch:=λz=>(GP c z).2.2.1 x c e rfl
  by_cases hc:c∈X.fs
  ·obtain⟨sl,q⟩:=slot c o (I.LJ x c e) hc Q0 ho (I.freeC x c e)
   exact⟨_,q,hd⟩
  ·exact⟨o,keep c o (I.LJ x c e) hc Q0 ho (I.freeC x c e),hd⟩
 refine⟨I.ok,I.os,hg,⟨λb o e n hb hx=>?_,λb o e n hb hx=>?_,λb o e n hx=>?_,λb o e hx=>?_,λb xs e=>tups b xs (I.base.tups b xs e),λb o xs e=>frzs b o xs (I.base.frzs b o xs e),λb ps e=>?_⟩,?_,λx c e=>?_,?_,λx c e=>?_,λp hp=>?_,hok,I.len⟩
 ·exact keep b o (neL b o e) hb (neC b o e hx) (I.base.keep b o e n hb hx) (I.base.free b o e n hx)
 ·obtain⟨sl,e1⟩:=I.base.slot b o e n hb hx
  obtain⟨sl',e2⟩:=slot b _ (neL b o e) hb (neC b o e hx) e1 (I.base.free b o e n hx)
  exact⟨sl',e2⟩
 ·obtain⟨o',e1⟩:=I.base.there b o e hx
  exact free b o' (neC b o e hx) e1 (I.base.free b o e n hx)
 ·obtain⟨o',e1⟩:=I.base.there b o e hx
  exact there b o' (neC b o e hx) e1
 ·obtain⟨m1,e1⟩:=I.base.tbls b ps e
  obtain⟨m2,e2⟩:=tbls b _ e1
  exact⟨m1++m2,by rw[e2,Array.append_assoc]⟩
 ·obtain⟨m,hn,hl⟩:=I.loc
  refine⟨m,ns m hn,λi x v e1 e2 e3=>?_⟩
  obtain⟨u,r,l⟩:=hl i x v e1 e2 e3
  refine⟨u,r,?_⟩
  rcases l with l | ⟨k,c,e,z⟩
  ·exact .inl l
  ·exact .inr ⟨k,c,e,cellK x c e _ z⟩
 ·obtain⟨v,z⟩:=I.cell x c e
  exact⟨v,cellK x c e v z⟩
 ·obtain⟨m,⟨o,_,_,ho,_⟩,_⟩:=I.loc
  exact free _ o (λz=>(GP _ z).2.1 rfl) ho I.free
 ·obtain⟨v,o,ho,hd⟩:=I.cell x c e
  exact free c o (λz=>(GP c z).2.2.1 x c e rfl) ho (I.freeC x c e)
 ·obtain⟨e,n,ne,nf,d⟩:=I.pin p hp
  have Q0:p.1∉ch:=λz=>(GP p.1 z).2.2.2 p hp rfl
  exact⟨keep p.1 p.2 ne nf Q0 e n,free p.1 p.2 Q0 e n,ne,nf,d⟩
theorem Inv.un {t':Nat}(I:Inv X pins σ H s)(u:Un X.fs [] H H' s.heap h')(hok:jU X.prog X.w H' h'):Inv X pins σ H' {s with heap:=h',toks:=t'}:=by
 obtain⟨m,⟨o,es,ep,ho,r⟩,_⟩:=id I.loc
 obtain⟨sl,hL⟩:=u.any ho I.free (by simp)
 exact I.step (g':=s.gens) (d':=s.drawn) (ch:=[]) (λ_ z=>nomatch z) (λb o _ hb _ e n=>u.keep b o e n hb (by simp)) (λb o _ hb _ e n=>u.slot b o e n hb (by simp)) (λb o _ e n=>u.free b o e n (by simp)) (λb o _ e=>u.there b o e (by simp)) u.tups u.frzs u.tbls (λm' hm=>by
  obtain⟨o',Ul,Uj,HU,r'⟩:=hm
  rw[ho]at HU;cases HU
  exact⟨_,Ul,Uj,hL,r'⟩) hok I.bare
theorem Inv.call {g':Array GenState}{t':Nat}{d':Drawn}{ch:List Addr}(I:Inv X pins σ H s)(u:Un (CO X.stack) ch H H' s.heap h')(hok:jU X.prog X.w H' h')(hg:AllBare g')
  (GP:∀ b∈ch,(b∈X.ex\/X.s₀.heap.objs.size<=b)/\b≠X.env.locals/\(∀ x c,X.env.cells.lookup x=some c->c≠b)/\∀ p∈X.pn++pins,p.1≠b) :
  Inv X pins σ H' {s with heap:=h',gens:=g',drawn:=d',toks:=t'}:=by
 obtain⟨m,⟨o,es,ep,ho,r⟩,_⟩:=id I.loc
 obtain⟨sl,hL⟩:=u.any ho I.free λz=>(GP _ z).2.1 rfl
 exact I.step (ch:=ch) GP (λb o hL hb hc e n=>u.keep b o e n (λz=>(abW.mp (I.zx b z)).elim hL hb) hc) (λb o _ _ hc e n=>u.any e n hc) (λb o hc e n=>u.free b o e n hc) (λb o hc e=>u.there b o e hc) u.tups u.frzs u.tbls (λm' hm=>by
  obtain⟨o',Ul,Uj,HU,r'⟩:=hm
  rw[ho]at HU;cases HU
  exact⟨_,Ul,Uj,hL,r'⟩) hok hg
theorem Inv.turned {t':Nat}{it:Addr}(I:Inv X pins σ H s)(k:∀ b o,b≠it->s.heap.get? b=some o->h'.get? b=some o)(hn:H it=none)(hL:it≠X.env.locals)
  (h1:it∈X.ex\/X.s₀.heap.objs.size<=it) (h2:∀ x c,X.env.cells.lookup x=some c->c≠it) (h3:∀ p∈X.pn++pins,p.1≠it):Inv X pins σ H {s with heap:=h',toks:=t'}:=by
 have XM:∀ b u,H b=some u->b≠it:=λb u e z=>by rw[z,hn]at e;cases e
 refine I.step (g':=s.gens) (d':=s.drawn) (ch:=[it]) (λb hb=>?_) (λb o _ _ hc e _=>k b o (λz=>hc (by simp[z])) e) (λb o _ _ hc e _=>⟨o.slots,k b o (λz=>hc (by simp[z])) e⟩) (λ_ _ _ _ n=>n)
  (λb o hc e=>⟨o,k b o (λz=>hc (by simp[z])) e⟩) (λ_ _ e=>e) (λ_ _ _ e=>e) (λb ps e=>⟨#[],by rw[e];simp⟩) (λm hm=>?_) (λb u e=>?_) I.bare
 ·have e:b=it:=by simpa using hb
  subst e
  exact⟨h1,hL,h2,h3⟩
 ·obtain⟨o,es,ep,ho,r⟩:=hm
  exact⟨o,es,ep,k _ o (acd hL) ho,r⟩
 ·refine(I.hok b u e).xw (λc v hc q=>k c v ?_ q) (λ_ q=>q) λ_ _ q=>q
  rcases hc with z | z
  ·rw[z];exact XM b u e
  ·exact XM c _ z
theorem Inv.tok (I:Inv X pins σ H s)(t:Nat):Inv X pins σ H {s with toks:=t}:=I.un (h':=s.heap) (t':=t) Un.refl I.hok
theorem Inv.kept {t':Nat}(I:Inv X pins σ H s)(k:∀ b u,s.heap.get? b=some u->h'.get? b=some u):Inv X pins σ H {s with heap:=h',toks:=t'}:=I.un (Un.kept k) (I.hok.kept k)
theorem Inv.laid {a:Addr}{o:HO}{t':Nat}(I:Inv X pins σ H s)(k:∀ b u,s.heap.get? b=some u->h'.get? b=some u)(hp:s.heap.objs.size<=a)(new:bD X.prog X.w (upd H a o) h' a o) :
  Inv X pins σ (upd H a o) {s with heap:=h',toks:=t'}:=I.un (Un.laid k hp (I.hok.fresh hp)) (I.hok.laid k hp new)
theorem Inv.write {x e:Addr}{o:HO}{t':Nat}(I:Inv X pins σ H s)(mu:OT (H x))(he:e=x\/H e=some (.own x))(k:∀ b u,b≠e->s.heap.get? b=some u->h'.get? b=some u)(O2:∃ u,h'.get? e=some u)
  (new:bD X.prog X.w (upd H x o) h' x o):Inv X pins σ (upd H x o) {s with heap:=h',toks:=t'}:=I.un (Un.write mu he k O2) (I.hok.write mu he k O2 new)
theorem Inv.AF {KU:List (Addr×Obj)}(I:Inv X pins σ H s)(h:∀ p∈KU,s.heap.get? p.1=some p.2/\H p.1=none/\p.1≠X.env.locals/\p.1∉X.fs/\∀ v,p.2.data≠.cell v):Inv X KU σ H s:=
 ⟨I.ok,I.os,I.bare,I.base,I.loc,I.cell,I.free,I.freeC,λp hp=>(abP.mp hp).elim (λz=>I.pin p (List.mem_append_left _ z)) (h p),I.hok,I.len⟩
theorem w8 {N:List Str}(hN:N.Nodup){i j:Nat}{x:Str}(a:N[i]?=some x)(b:N[j]?=some x):i=j:=by
 obtain⟨h1,e1⟩:=abn.mp a
 obtain⟨h2,e2⟩:=abn.mp b
 exact(List.getElem_inj hN).mp (e1.trans e2.symm)
theorem uc {M:Model}{A:Around}{E:Value->Shared->Prop}{i:Nat}{x:Str}{v:V}{u:Value}{Q:Unit->Shared->Prop}(I:Inv X pins σ H s)(hN:X.N.Nodup)(hi:X.N[i]?=some x)(hx:Loc X.env.scope x)(r:RelV v u)
  (h:∀ s',Inv X pins (σ.set i (some v)) H s'->(∃ a,Heap.SameBut a s.heap s'.heap/\(a=X.env.locals\/X.env.cells.lookup x=some a))->Q () s') (hf:X.fn x=true\/X.env.scope.names.lookup x=some .local):wpAny M A (storeName X.env x u) Q E s:=by
 obtain⟨m,hn,hl⟩:=id I.loc
 have UA:(X.env.scope.kind == .class || (X.env.scope.kind == .module&&X.env.locals != X.env.globals))=false:=by rw[I.ok.kind];rfl
 have Xo:i<σ.length:=by rw[I.len];exact(abn.mp hi).1
 have LJ:=I.LJ
 have tracked:∀ {a:Addr}{h':Heap},(∃ o,s.heap.get? a=some o/\H a=none)->Heap.SameBut a s.heap h'->jU X.prog X.w H h':=λ{a h'} ha hs b ob e=>by
  obtain⟨_,_,Kk⟩:=ha
  refine(I.hok b ob e).xw (λc w' hc q=>(hs.2 c ?_).trans q) (λ_ q=>q) λ_ _ q=>q
  rintro rfl
  rcases hc with rfl | hc
  ·rw[Kk]at e;cases e
  ·rw[Kk]at hc;cases hc
 rcases hx with hk | hk
 ·refine wpAny_storeName_local hk hn (λh' HR hs=>?_) UA
  obtain⟨oL,_,_,Zx,_⟩:=id hn
  refine h _ ⟨I.ok,I.os,I.bare,⟨λb o e n hb hx=>?_,λb o e n hb hx=>?_,I.base.free,λb o e hx=>?_,I.base.tups,I.base.frzs,I.base.tbls⟩,⟨_,HR,λj y v' e1 e2 e3=>?_⟩,λy c e=>?_,I.free,I.freeC,λp hp=>?_,tracked ⟨oL,Zx,I.free⟩ hs,by simpa using I.len⟩ ⟨_,hs,.inl rfl⟩
  ·exact(hs.2 b (abI (abK (abx e) I.ok.above))).trans (I.base.keep b o e n hb hx)
  ·obtain⟨sl,e1⟩:=I.base.slot b o e n hb hx
   exact⟨sl,(hs.2 b (abI (abK (abx e) I.ok.above))).trans e1⟩
  ·obtain⟨o',e1⟩:=I.base.there b o e hx
   exact⟨o',(hs.2 b (abI (abK (abx e) I.ok.above))).trans e1⟩
  ·by_cases hj:j=i
   ·subst hj
    rw[hi]at e1;cases e1
    rw[abR Xo]at e2
    cases e2
    exact⟨u,r,.inl ⟨hk,by simp⟩⟩
   ·rw[abF (acd hj)]at e2
    obtain⟨u',r',q⟩:=hl j y v' e1 e2 e3
    refine⟨u',r',?_⟩
    rcases q with⟨k,e⟩ | ⟨k,c,e,z⟩
    ·refine .inl ⟨k,?_⟩
     have:y≠x:=λe=>hj (w8 hN e1 (e▸hi))
     simp[this,e]
    ·exact .inr ⟨k,c,e,z.sameBut hs (LJ y c e)⟩
  ·obtain⟨w',z⟩:=I.cell y c e
   exact⟨w',z.sameBut hs (LJ y c e)⟩
  ·obtain⟨e,n,ne,nf,d⟩:=I.pin p hp
   exact⟨(hs.2 p.1 ne).trans e,n,ne,nf,d⟩
 ·have UJ:X.fn x=true:=by
   rcases hf with z | z
   ·exact z
   ·rw[z]at hk;cases hk
  obtain⟨c,hc⟩:=I.ok.has x (.inl hk)
  obtain⟨w',z⟩:=I.cell x c hc
  refine wpAny_storeName_cell I.ok.kind hk hc z (λh' O1 hs=>?_)
  obtain⟨oc,Xr,UR⟩:=id z
  refine h {s with heap:=h'} ⟨I.ok,I.os,I.bare,⟨λb o e n hb hx=>?_,λb o e n hb hx=>?_,I.base.free,λb o e hx=>?_,I.base.tups,I.base.frzs,I.base.tbls⟩,⟨m,hn.sameBut hs (acd (LJ x c hc)),λj y v' e1 e2 e3=>?_⟩,λy c' e=>?_,I.free,I.freeC,λp hp=>?_,tracked ⟨oc,Xr,I.freeC x c hc⟩ hs,by simpa using I.len⟩ ⟨c,hs,.inr hc⟩
  ·exact(hs.2 b (abI (abK (abx e) (I.ok.cab x c UJ hc)))).trans (I.base.keep b o e n hb hx)
  ·obtain⟨sl,e1⟩:=I.base.slot b o e n hb hx
   exact⟨sl,(hs.2 b (abI (abK (abx e) (I.ok.cab x c UJ hc)))).trans e1⟩
  ·obtain⟨o',e1⟩:=I.base.there b o e hx
   exact⟨o',(hs.2 b (abI (abK (abx e) (I.ok.cab x c UJ hc)))).trans e1⟩
  ·by_cases hj:j=i
   ·subst hj
    rw[hi]at e1;cases e1
    rw[abR Xo]at e2
    cases e2
    exact⟨u,r,.inr ⟨.inl hk,c,hc,O1⟩⟩
   ·rw[abF (acd hj)]at e2
    obtain⟨u',r',q⟩:=hl j y v' e1 e2 e3
    refine⟨u',r',?_⟩
    rcases q with q | ⟨k,c',e,z'⟩
    ·exact .inl q
    ·refine .inr ⟨k,c',e,z'.sameBut hs ?_⟩
     rintro rfl
     exact hj (w8 hN e1 (I.ok.inj _ _ _ e hc▸hi))
  ·by_cases Xi:c'=c
   ·subst Xi;exact⟨_,O1⟩
   ·obtain⟨w2,z2⟩:=I.cell y c' e
    exact⟨w2,z2.sameBut hs Xi⟩
  ·obtain⟨e,n,ne,nf,d⟩:=I.pin p hp
   refine⟨(hs.2 p.1 ?_).trans e,n,ne,nf,d⟩
   intro q
   rw[q,Xr]at e
   have q':oc=p.2:=abD e
   exact d w' (by rw[<-q'];exact UR)
theorem xD {M:Model}{A:Around}{E:Value->Shared->Prop}{i:Nat}{x:Str}{v:V}{u:Value}{Q:Unit->Shared->Prop}(I:Inv X pins σ H s)(hN:X.N.Nodup)(hi:X.N[i]?=some x)(hx:Loc X.env.scope x)(r:RelV v u)
  (h:∀ s',Inv X pins (σ.set i (some v)) H s'->Q () s') (hf:X.fn x=true\/X.env.scope.names.lookup x=some .local):wpAny M A (storeName X.env x u) Q E s:=
 uc I hN hi hx r (λs' I' _=>h s' I') hf
theorem Inv.Ka {s':Shared}{ch:List Addr}(I:Inv X pins σ H s)(ho:s'.os=s.os)(u:Un (CO X.stack) ch H H' s.heap s'.heap)(hok:jU X.prog X.w H' s'.heap)(hg:AllBare s'.gens)
  (GP:∀ b∈ch,(b∈X.ex\/X.s₀.heap.objs.size<=b)/\b≠X.env.locals/\(∀ x c,X.env.cells.lookup x=some c->c≠b)/\∀ p∈X.pn++pins,p.1≠b):Inv X pins σ H' s':=by
 obtain⟨h',g',d',t',o'⟩:=s'
 have e:o'=s.os:=ho
 subst e
 exact I.call (g':=g') (t':=t') (d':=d') u hok hg GP
end
abbrev XK:=Value->Option Addr->Hp->Prop
abbrev St:=List (Option V)
abbrev VK:=V->Hp->Prop
abbrev TE:=St->Hp->VK->Prop
abbrev TT:=St->Hp->(Bool->Hp->Prop)->Prop
abbrev TA:=St->Hp->(List V->Hp->Prop)->Prop
structure Ends where
 nx:St->Hp->Prop
 rt:VK
 bk:St->Hp->Prop:=λ_ _=>False
 ct:St->Hp->Prop:=λ_ _=>False
abbrev TS:=Ends->St->Hp->Prop
def EP (X:Cx)(pins:List (Addr×Obj))(σ:St)(Q:VK)(u:Value)(s':Shared):Prop:=∃ v H',Inv X pins σ H' s'/\RelV v u/\Q v H'
def TP (X:Cx)(pins:List (Addr×Obj))(σ:St)(Q:Bool->Hp->Prop)(b:Bool)(s':Shared):Prop:=∃ H',Inv X pins σ H' s'/\Q b H'
def AP (X:Cx)(pins:List (Addr×Obj))(σ:St)(Q:List V->Hp->Prop)(us:List Value)(s':Shared):Prop:=∃ vs H',Inv X pins σ H' s'/\Vals vs us/\Q vs H'
def SP (X:Cx)(pins:List (Addr×Obj))(D:Ends)(f:Flow)(s':Shared):Prop:=
 match f with
 |.next=>∃ σ' H',Inv X pins σ' H' s'/\D.nx σ' H'
 |.brk=>∃ σ' H',Inv X pins σ' H' s'/\D.bk σ' H'
 |.cont=>∃ σ' H',Inv X pins σ' H' s'/\D.ct σ' H'
 |.ret u=>∃ v σ' H',Inv X pins σ' H' s'/\RelV v u/\D.rt v H'
def PE (X:Cx)(e:Expr)(t:TE):Prop:=
 ∀ (pins:List (Addr×Obj)) (s:Shared) (σ:St) (H:Hp) (Q:VK),Inv X pins σ H s->t σ H Q->wpAny (model X.prog X.w) X.A (eval e X.env) (EP X pins σ Q) X.xe s
def PT (X:Cx)(e:Expr)(t:TT):Prop:=
 ∀ (pins:List (Addr×Obj)) (s:Shared) (σ:St) (H:Hp) (Q:Bool->Hp->Prop),Inv X pins σ H s->t σ H Q->wpAny (model X.prog X.w) X.A (isTrue e X.env (eval e X.env)) (TP X pins σ Q) X.xe s
def PW (X:Cx)(e:Expr)(t:TT):Prop:=
 ∀ (whole:Sem Value) (pins:List (Addr×Obj)) (s:Shared) (σ:St) (H:Hp) (Q:Bool->Hp->Prop),Inv X pins σ H s->t σ H Q->wpAny (model X.prog X.w) X.A (isTrue e X.env whole) (TP X pins σ Q) X.xe s
theorem PW.pt {X:Cx}{e:Expr}{t:TT}(h:PW X e t):PT X e t:=h _
def PA (X:Cx)(es:List Expr)(t:TA):Prop:=
 ∀ (pos:Pos) (pins:List (Addr×Obj)) (s:Shared) (σ:St) (H:Hp) (Q:List V->Hp->Prop),Inv X pins σ H s->t σ H Q->wpAny (model X.prog X.w) X.A (spliced (backTo pos (starEach es X.env))) (AP X pins σ Q) X.xe s
def PS (X:Cx)(st:Stmt)(t:TS):Prop:=
 ∀ (pins:List (Addr×Obj)) (s:Shared) (σ:St) (H:Hp) (D:Ends),Inv X pins σ H s->t D σ H->wpAny (model X.prog X.w) X.A (exec st X.env) (SP X pins D) X.xe s
def xT (X:Cx)(st:List Stmt)(t:TS):Prop:=
 ∀ (pins:List (Addr×Obj)) (s:Shared) (σ:St) (H:Hp) (D:Ends),Inv X pins σ H s->t D σ H->wpAny (model X.prog X.w) X.A (execs st X.env) (SP X pins D) X.xe s
theorem bK {α:Type}{t:Sem α}{Q Q':α->Shared->Prop}{M:Model}{A:Around}{E:Value->Shared->Prop}{s:Shared}(h:wpAny M A t Q E s)(hQ:∀ a s,Q a s->Q' a s):wpAny M A t Q' E s:=ab9 h hQ λ_ _ x=>x
section
variable {X:Cx}
theorem bin {a b:Expr}{ta tb:TE}(ha:PE X a ta)(hb:PE X b tb){pins:List (Addr×Obj)}{s:Shared}{σ:St}{H:Hp}{R:V->V->Hp->Prop}(I:Inv X pins σ H s)(h:ta σ H λx H1=>tb σ H1 λy H2=>R x y H2)
  {α:Type} {Q:α->Shared->Prop} {f:Value->Value->Sem α}
  (hf:∀ v u s2 x y H2,Inv X pins σ H2 s2->RelV x v->RelV y u->R x y H2->wpAny (model X.prog X.w) X.A (f v u) Q X.xe s2) :
  wpAny (model X.prog X.w) X.A (eval a X.env) (λv s₁=>wpAny (model X.prog X.w) X.A (eval b X.env) (λu s₂=>wpAny (model X.prog X.w) X.A (f v u) Q X.xe s₂) X.xe s₁) X.xe s:=by
 refine bK (ha pins s σ H _ I h) λv s1 ⟨x,H1,I1,r1,q1⟩=>?_
 refine bK (hb pins s1 σ H1 _ I1 q1) λu s2 ⟨y,H2,I2,r2,q2⟩=>?_
 exact hf v u s2 x y H2 I2 r1 r2 q2
def OD (i:Nat):TE:=λσ H Q=>∃ v,σ[i]?=some (some v)/\Q v H
def tC (v:V):TE:=λ_ H Q=>Q v H
theorem Np {i:Nat}{x:Str}{pos:Pos}(hN:X.N[i]?=some x)(hv:T1 X.env.scope x)(hd:(x == ("__debug__":Str))=false)(HN:(x == ("__classdict__":Str))=false):PE X (.Name x pos) (OD i):=by
 intro pins s σ H Q I h
 obtain⟨v,e,h⟩:=h
 obtain⟨m,hn,hl⟩:=I.loc
 obtain⟨u,r,l⟩:=hl i x v hN e hv
 have fin:EP X pins σ Q u s:=⟨v,H,I,r,h⟩
 rcases l with⟨hk,hm⟩ | ⟨hk,c,hc,Ki⟩
 ·exact wpAny_Name (wpAny_loadName_local I.ok.kind hk hn hm fin) hd
 ·rcases hk with hk | hk
  ·exact wpAny_Name (wpAny_loadName_cell I.ok.kind hk hc Ki fin) hd
  ·exact wpAny_Name (wpAny_loadName_free I.ok.kind hk hc Ki fin HN) hd
theorem Ng {i j pos}:PE X (.Constant (.int i) j pos) (tC (.int i)):=λ_ _ _ H _ I h=>wpAny_Constant_int ⟨.int i,H,I.tok _,⟨_,rfl⟩,h⟩
theorem Rb {b j pos}:PE X (.Constant (.bool b) j pos) (tC (.bl b)):=λ_ _ _ H _ I h=>Constant_bool ⟨.bl b,H,I,rfl,h⟩
theorem Nj {j pos}:PE X (.Constant .none j pos) (tC .aq):=λ_ _ _ H _ I h=>Constant_none ⟨.aq,H,I,rfl,h⟩
theorem Nm {x j pos}:PE X (.Constant (.str x) j pos) (tC (.str x)):=λ_ _ _ H _ I h=>Calls.Constant_str ⟨.str x,H,I.tok _,⟨_,rfl⟩,h⟩
def Gl (X:Cx)(x:Str):Prop:=X.env.kindOf x=some .globalImplicit
theorem ql {E:Value->Shared->Prop}{pins:List (Addr×Obj)}{s:Shared}{σ:St}{H:Hp}{x:Str}{u:Value}{pos:Pos}{Q:Value->Shared->Prop}(I:Inv X pins σ H s)(hg:Gl X x)(hm:X.mg x=some u)(h:Q u s)
  (hd:(x == ("__debug__":Str))=false):wpAny (model X.prog X.w) X.A (eval (.Name x pos) X.env) Q E s:=
 Calls.Name_function_global I.ok.kind hg (Calls.loadGlobal_global (by rw[I.ok.glob];exact I.mod.glob.keeps I.bk) hm h) hd
theorem mR {E:Value->Shared->Prop}{pins:List (Addr×Obj)}{s:Shared}{σ:St}{H:Hp}{x:Str}{u:Value}{pos:Pos}{Q:Value->Shared->Prop}(I:Inv X pins σ H s)(hg:Gl X x)(hm:X.mg x=none)(hv:bootBuiltins x=some u)(h:Q u s)
  (hn:x≠"__name__":=by decide) (hd:(x == ("__debug__":Str))=false:=by decide):wpAny (model X.prog X.w) X.A (eval (.Name x pos) X.env) Q E s:=by
 obtain⟨mb,h1,h2⟩:=I.mod.blt
 exact Calls.Name_function_global I.ok.kind hg (Calls.loadGlobal_builtin (by rw[I.ok.glob];exact I.mod.glob.keeps I.bk) hm (by rw[I.ok.blt];exact h1.keeps I.bk) ((h2 x hn).trans hv) h) hd
theorem IQ {x:Str}{v:V}{u:Value}{pos:Pos}(hg:Gl X x)(hm:X.mg x=none)(hv:bootBuiltins x=some u)(r:RelV v u)(hn:x≠"__name__":=by decide)(hd:(x == ("__debug__":Str))=false:=by decide):PE X (.Name x pos) (tC v):=
 λ_ _ _ H _ I h=>mR I hg hm hv ⟨v,H,I,r,h⟩ hn hd
variable {a b:Expr}{ta tb:TE}{pos:Pos}
def PC (X:Cx)(op:CmpOp)(a b:Expr)(t:TE):Prop:=
 ∀ (pins:List (Addr×Obj)) (s:Shared) (σ:St) (H:Hp) (Q:VK),Inv X pins σ H s->t σ H Q->
  wpAny (model X.prog X.w) X.A (eval a X.env) (λv s₁=>wpAny (model X.prog X.w) X.A (eval b X.env) (λu s₂=>wpAny (model X.prog X.w) X.A (compareOp op v u) (EP X pins σ Q) X.xe s₂) X.xe s₁) X.xe s
def tB (t:TE):TT:=λσ H Q=>t σ H λx H1=>∃ c,x=.bl c/\Q c H1
theorem E3 {op:CmpOp}{t:TE}(h:PC X op a b t)(h1:behindInMarks op b=false):PE X (.Compare a [op] [b] pos) t:=λpins s σ H Q I hw=>wpAny_Compare1 (h pins s σ H Q I hw) h1
theorem Fq {op:CmpOp}{t:TE}(h:PC X op a b t)(h1:behindInMarks op b=false):PT X (.Compare a [op] [b] pos) (tB t):=by
 intro pins s σ H Q I hw
 refine wpAny_isTrue_Compare1 (bK (h pins s σ H _ I hw) λv s1 h1=>bK h1 λu s2 h2=>bK h2 λc s3 ⟨x,H1,I1,r1,q1⟩=>?_) h1
 obtain⟨d,rfl,q⟩:=q1
 cases r1
 exact wpAny_truthy_bool ⟨H1,I1,q⟩
variable {tA Tz:TT}{rest:List Expr}
def Oq (t u:TT):TT:=λσ H Q=>t σ H λc H1=>if c=true then u σ H1 Q else Q false H1
def Wv (t u:TT):TT:=λσ H Q=>t σ H λc H1=>if c=true then Q true H1 else u σ H1 Q
def Oy (t:TT):TT:=λσ H Q=>t σ H λc H1=>Q (!c) H1
theorem pw_and1 (ha:PT X a tA):PW X (.BoolOp .And [a] pos) tA:=by
 intro wh pins s σ H Q I h
 refine isTrue_and (bK (ha pins s σ H Q I h) λc s1 e=>?_)
 cases c with
 |true=>exact isTrue_and_nil e
 |false=>exact e
theorem pw_or1 (ha:PT X a tA):PW X (.BoolOp .Or [a] pos) tA:=by
 intro wh pins s σ H Q I h
 refine isTrue_or (bK (ha pins s σ H Q I h) λc s1 e=>?_)
 cases c with
 |false=>exact isTrue_or_nil e
 |true=>exact e
theorem pw_and (ha:PT X a tA)(hb:PW X (.BoolOp .And (b::rest) pos) Tz):PW X (.BoolOp .And (a::b::rest) pos) (Oq tA Tz):=by
 intro wh pins s σ H Q I h
 refine isTrue_and (bK (ha pins s σ H _ I h) λc s1 ⟨H1,I1,q1⟩=>?_)
 cases c with
 |true=>exact hb wh pins s1 σ H1 Q I1 q1
 |false=>exact⟨H1,I1,q1⟩
theorem pw_or (ha:PT X a tA)(hb:PW X (.BoolOp .Or (b::rest) pos) Tz):PW X (.BoolOp .Or (a::b::rest) pos) (Wv tA Tz):=by
 intro wh pins s σ H Q I h
 refine isTrue_or (bK (ha pins s σ H _ I h) λc s1 ⟨H1,I1,q1⟩=>?_)
 cases c with
 |true=>exact⟨H1,I1,q1⟩
 |false=>exact hb wh pins s1 σ H1 Q I1 q1
theorem NC (ha:PT X a tA):PT X (.UnaryOp .Not a pos) (Oy tA):=by
 intro pins s σ H Q I h
 exact isTrue_not (ha pins s σ H (λc H1=>Q (!c) H1) I h)
def Gf (ta tb:TE):TE:=λσ H Q=>ta σ H λx H1=>∃ c,x=.bl c/\if c=true then tb σ H1 Q else Q (.bl false) H1
def Gm (ta:TE):TE:=λσ H Q=>ta σ H λx H1=>∃ c,x=.bl c/\Q (.bl (!c)) H1
theorem Nl {op}{t:TE}(h:PE X a t):PE X (.BoolOp op [a] pos) t:=λpins s σ H Q I hw=>BoolOp_one (h pins s σ H Q I hw)
theorem Nd (ha:PE X a ta)(hb:PE X (.BoolOp .And (b::rest) pos) tb):PE X (.BoolOp .And (a::b::rest) pos) (Gf ta tb):=by
 intro pins s σ H Q I h
 refine BoolOp_and (bK (ha pins s σ H _ I h) λv s1 ⟨x,H1,I1,r1,q1⟩=>?_)
 obtain⟨c,rfl,q1⟩:=q1
 cases r1
 refine wpAny_truthy_bool ?_
 cases c with
 |true=>exact hb pins s1 σ H1 Q I1 q1
 |false=>exact⟨.bl false,H1,I1,rfl,q1⟩
theorem Nk (ha:PE X a ta):PE X (.UnaryOp .Not a pos) (Gm ta):=by
 intro pins s σ H Q I h
 refine UnaryOp_ (bK (ha pins s σ H _ I h) λv s1 ⟨x,H1,I1,r1,q1⟩=>?_)
 obtain⟨c,rfl,q1⟩:=q1
 cases r1
 exact not_of (wpAny_truthy_bool ⟨.bl (!c),H1,I1,rfl,q1⟩)
def Wu (t:TT)(ta tb:TE):TE:=λσ H Q=>t σ H λc H1=>if c=true then ta σ H1 Q else tb σ H1 Q
theorem E7 {c:Expr}(hc:PT X c tA)(ha:PE X a ta)(hb:PE X b tb):PE X (.IfExp c a b pos) (Wu tA ta tb):=by
 intro pins s σ H Q I h
 refine wpAny_IfExp (bK (hc pins s σ H _ I h) λd s1 ⟨H1,I1,q1⟩=>?_)
 cases d with
 |true=>exact ha pins s1 σ H1 Q I1 q1
 |false=>exact hb pins s1 σ H1 Q I1 q1
end
def fh (K:PySem.W.Frag)(H:Hp)(a:Addr)(xs:List V):Prop:=
 Rd H a (.lst xs)\/
  ∃ (o:Obj) (its:Array Value) (n:Nat),K.lookup a=some o/\o.cls=.type "list"/\o.dict=none/\o.data=.seq its n/\its.size<=sizeLine/\Vals xs its.toList
def i8 (K:PySem.W.Frag)(H:Hp)(a:Addr)(xs:List V):Prop:=
 Rd H a (.tup xs)\/
  ∃ (o:Obj) (its:Array Value) (n:Nat),K.lookup a=some o/\o.cls=.type "tuple"/\o.data=.seq its n/\its.size<=sizeLine/\Vals xs its.toList
noncomputable def T2:Value->Option V
 |.none=>some .aq
 |.bool b=>some (.bl b)
 |.int i _=>some (.int i)
 |.str x _=>some (.str x)
 |.bytes b _=>some (.OX b)
 |.float b _=>some (.LY b)
 |.ref a=>some (.ref a)
 |.type n=>some (.ty n)
 |_=>none
theorem RelV.abs {x:V}{u:Value}(r:RelV x u):T2 u=some x:=by
 cases x with
 |aq=>cases r;rfl
 |bl _=>cases r;rfl
 |int _=>obtain⟨t,rfl⟩:=r;rfl
 |str _=>obtain⟨t,rfl⟩:=r;rfl
 |OX _=>obtain⟨t,rfl⟩:=r;rfl
 |LY _=>obtain⟨t,rfl⟩:=r;rfl
 |ref _=>cases r;rfl
 |ty _=>cases r;rfl
theorem RelV.inj {x y:V}{u:Value}(r:RelV x u)(q:RelV y u):x=y:=abD (r.abs.symm.trans q.abs)
theorem Vals.inj:∀ {xs ys:List V}{us:List Value},Vals xs us->Vals ys us->xs=ys
 |_,_,_,.nil,.nil=>rfl
 |_,_,_,.cons r t,.cons r' t'=>by rw[r.inj r',Vals.inj t t']
section
variable {X:Cx}{pins:List (Addr×Obj)}{σ:St}{H:Hp}{s:Shared}{a:Addr}{xs ys:List V}
theorem fh.of {K:PySem.W.Frag}(h:H a=some (.lst xs)):fh K H a xs:=.inl (.inl h)
theorem i8.of {K:PySem.W.Frag}(h:H a=some (.tup xs)):i8 K H a xs:=.inl (.inl h)
theorem Inv.list (I:Inv X pins σ H s)(h:fh X.K H a xs):∃ its:List Value,Vals xs its/\PlainL s.heap a its.toArray/\xs.length<=sizeLine:=by
 rcases h with h | ⟨o,its,n,hk,hc,hd,hs,hz,r⟩
 ·obtain⟨z,its,n,r,e⟩:=h.ok I.hok
  exact⟨its,r,⟨_,n,e,rfl,rfl,rfl⟩,z⟩
 ·refine⟨its.toList,r,⟨o,n,I.oH a o hk,hc,hd,by simpa using hs⟩,?_⟩
  have e:=r.length
  simp only[Array.length_toList]at e
  lia
theorem Inv.tuple (I:Inv X pins σ H s)(h:i8 X.K H a xs):∃ its:List Value,Vals xs its/\IsTup s.heap a its.toArray/\xs.length<=sizeLine:=by
 rcases h with h | ⟨o,its,n,hk,hc,hs,hz,r⟩
 ·obtain⟨z,its,r,p⟩:=h.ok I.hok
  exact⟨its,r,p.tup,z⟩
 ·refine⟨its.toList,r,⟨o,I.oH a o hk,hc,n,by simpa using hs⟩,?_⟩
  have e:=r.length
  simp only[Array.length_toList]at e
  lia
theorem Inv.wK (I:Inv X pins σ H s)(h:fh X.K H a xs)(h':fh X.K H a ys):xs=ys:=by
 obtain⟨its,r,⟨o,n,e,_,_,d⟩,_⟩:=I.list h
 obtain⟨its',r',⟨o',n',e',_,_,d'⟩,_⟩:=I.list h'
 rw[e]at e';cases e'
 rw[d]at d'
 injection d' with d1 _
 have:its=its':=by simpa using congrArg Array.toList d1
 subst this
 exact r.inj r'
theorem Inv.CC (I:Inv X pins σ H s)(h:i8 X.K H a xs)(h':i8 X.K H a ys):xs=ys:=by
 obtain⟨its,r,⟨o,e,_,n,d⟩,_⟩:=I.tuple h
 obtain⟨its',r',⟨o',e',_,n',d'⟩,_⟩:=I.tuple h'
 rw[e]at e';cases e'
 rw[d]at d'
 injection d' with d1 _
 have:its=its':=by simpa using congrArg Array.toList d1
 subst this
 exact r.inj r'
end
noncomputable abbrev Cx.sP (X:Cx)(E:Value->Shared->Prop):Cx:={X with xe:=E}
noncomputable abbrev Cx.Q2 (X:Cx):Cx:=X.sP λ_ _=>False
theorem Cx.Ok.sP {X:Cx}(ok:X.Ok)(E:Value->Shared->Prop):(X.sP E).Ok:=
 ⟨ok.mod,ok.kind,ok.glob,ok.blt,ok.above,ok.inj,ok.has,ok.cab,ok.hd,ok.frames,ok.stk,ok.exf,ok.bs,ok.bsz,ok.noex,ok.exfs,ok.pX,ok.frf⟩
theorem Cx.Ok.lK {X:Cx}{E:Value->Shared->Prop}(ok:(X.sP E).Ok):X.Ok:=
 ⟨ok.mod,ok.kind,ok.glob,ok.blt,ok.above,ok.inj,ok.has,ok.cab,ok.hd,ok.frames,ok.stk,ok.exf,ok.bs,ok.bsz,ok.noex,ok.exfs,ok.pX,ok.frf⟩
section
variable {X:Cx}{pins:List (Addr×Obj)}{σ:St}{H:Hp}{s:Shared}{E:Value->Shared->Prop}
theorem Inv.sP (I:Inv X pins σ H s)(E:Value->Shared->Prop):Inv (X.sP E) pins σ H s:=⟨I.ok.sP E,I.os,I.bare,I.base,I.loc,I.cell,I.free,I.freeC,I.pin,I.hok,I.len⟩
theorem Inv.lK (I:Inv (X.sP E) pins σ H s):Inv X pins σ H s:=⟨I.ok.lK,I.os,I.bare,I.base,I.loc,I.cell,I.free,I.freeC,I.pin,I.hok,I.len⟩
theorem SP.lK {D:Ends}{f:Flow}{s':Shared}(h:SP (X.sP E) pins D f s'):SP X pins D f s':=by
 cases f with
 |next=>obtain⟨σ',H',I,q⟩:=h;exact⟨σ',H',I.lK,q⟩
 |brk=>obtain⟨σ',H',I,q⟩:=h;exact⟨σ',H',I.lK,q⟩
 |cont=>obtain⟨σ',H',I,q⟩:=h;exact⟨σ',H',I.lK,q⟩
 |ret u=>obtain⟨v,σ',H',I,r,q⟩:=h;exact⟨v,σ',H',I.lK,r,q⟩
theorem xT.Q2 {st:List Stmt}{t:TS}(h:xT X.Q2 st t):xT X st t:=λpins s σ H D I hw=>
 ab9 (h pins s σ H D (I.sP _) hw) (λ_ _ q=>q.lK) λ_ _ z=>False.elim z
end
section
variable {X:Cx}{st:Stmt}{rest:List Stmt}{t u:TS}{e:Expr}{te:TE}{pos:Pos}
def Gk:TS:=λD σ H=>D.nx σ H
def OA (t u:TS):TS:=λD σ H=>t {D with nx:=u D} σ H
theorem Je:xT X [] Gk:=λ_ _ σ H _ I h=>wpAny_execs_nil ⟨σ,H,I,h⟩
theorem Fp (h1:PS X st t)(h2:xT X rest u):xT X (st::rest) (OA t u):=by
 intro pins s σ H D I h
 refine wpAny_execs_cons (bK (h1 pins s σ H {D with nx:=u D} I h) λf s1 q=>?_)
 cases f with
 |next=>
  obtain⟨σ',H',I',q⟩:=q
  exact h2 pins s1 σ' H' D I' q
 |ret v=>exact q
 |brk=>exact q
 |cont=>exact q
theorem Jf (h1:PS X st t):xT X [st] t:=by
 intro pins s σ H D I h
 refine wpAny_execs_cons (bK (h1 pins s σ H D I h) λf s1 q=>?_)
 cases f with
 |next=>exact wpAny_execs_nil q
 |ret v=>exact q
 |brk=>exact q
 |cont=>exact q
theorem Inv.quiet {pins:List (Addr×Obj)}{σ:St}{H:Hp}{s:Shared}(I:Inv X pins σ H s):interactive X.env=false:=by simp[interactive,I.ok.kind]
def Gh (te:TE):TS:=λD σ H=>te σ H λ_ H1=>D.nx σ H1
theorem Jc (he:PE X e te)(hs:swapsWith e none pos.line X.env=pure false):PS X (.Expr e pos) (Gh te):=by
 intro pins s σ H D I h
 exact wpAny_Expr_any (bK (he pins s σ H _ I h) λv s1 ⟨x,H1,I1,r1,q1⟩=>⟨σ,H1,I1,q1⟩) I.quiet hs
def Oz (te:TE):TS:=λD σ H=>te σ H D.rt
theorem NB (he:PE X e te):PS X (.Return (some e) pos) (Oz te):=by
 intro pins s σ H D I h
 exact wpAny_Return_some (bK (he pins s σ H _ I h) λv s1 ⟨x,H1,I1,r1,q1⟩=>⟨x,σ,H1,I1,r1,q1⟩)
def Ou (c:TT)(t u:TS):TS:=λD σ H=>c σ H λb H1=>if b=true then t D σ H1 else u D σ H1
theorem Rj {c:Expr}{a b:List Stmt}{tc:TT}(hc:PT X c tc)(ha:xT X a t)(hb:xT X b u):PS X (.If c a b pos) (Ou tc t u):=by
 intro pins s σ H D I h
 refine wpAny_If (bK (hc pins s σ H _ I h) λd s1 ⟨H1,I1,q1⟩=>?_)
 cases d with
 |true=>exact ha pins s1 σ H1 D I1 q1
 |false=>exact hb pins s1 σ H1 D I1 q1
end
abbrev TG:=V->St->Hp->(St->Hp->Prop)->Prop
abbrev GL:=List V->St->Hp->(St->Hp->Prop)->Prop
def PG (X:Cx)(target:Expr)(t:TG):Prop:=
 ∀ (pins:List (Addr×Obj)) (s:Shared) (σ:St) (H:Hp) (v:V) (u:Value) (Q:St->Hp->Prop),Inv X pins σ H s->RelV v u->t v σ H Q->
  wpAny (model X.prog X.w) X.A (assign target X.env u) (λ_ s'=>∃ σ' H',Inv X pins σ' H' s'/\Q σ' H') X.xe s
def PD (X:Cx)(ts:List Expr)(t:GL):Prop:=
 ∀ (pins:List (Addr×Obj)) (s:Shared) (σ:St) (H:Hp) (vs:List V) (us:List Value) (Q:St->Hp->Prop),Inv X pins σ H s->Vals vs us->t vs σ H Q->
  wpAny (model X.prog X.w) X.A (assignInOrder ((assignEach ts X.env).map (·.2)) us) (λ_ s'=>∃ σ' H',Inv X pins σ' H' s'/\Q σ' H') X.xe s
abbrev Hc:=V->V->V->Hp->(Hp->Prop)->Prop
def PF (X:Cx)(t:Hc):Prop:=
 ∀ (pins:List (Addr×Obj)) (s:Shared) (σ:St) (H:Hp) (o i v:V) (ov iv u:Value) (Q:Hp->Prop),Inv X pins σ H s->RelV o ov->RelV i iv->RelV v u->t o i v H Q->
  wpAny (model X.prog X.w) X.A (setItem ov iv u) (λ_ s'=>∃ H',Inv X pins σ H' s'/\Q H') X.xe s
section
variable {X:Cx}{pos:Pos}
def nu (i:Nat):TG:=λv σ H Q=>Q (σ.set i (some v)) H
theorem AE {i:Nat}{x:Str}(hN:X.N.Nodup)(hi:X.N[i]?=some x)(hx:Loc X.env.scope x)(hf:X.fn x=true\/X.env.scope.names.lookup x=some .local:=by first | exact .inl rfl | exact .inr rfl | assumption):PG X (.Name x pos) (nu i):=by
 intro pins s σ H v u Q I r h
 exact wpAny_assign_Name (xD I hN hi hx r (λs' I'=>⟨_,H,I',h⟩) hf)
def L1:GL:=λvs σ H Q=>vs=[]/\Q σ H
def DW (t:TG)(u:GL):GL:=λvs σ H Q=>∃ v r,vs=v::r/\t v σ H λσ' H'=>u r σ' H' Q
theorem IV:PD X [] L1:=by
 intro pins s σ H vs us Q I r h
 obtain⟨e,h⟩:=h
 subst e
 cases r
 exact assignInOrder_nil ⟨σ,H,I,h⟩
theorem Fd {e:Expr}{es:List Expr}{t:TG}{u:GL}(h1:PG X e t)(h2:PD X es u)
  (hs:(assignEach (e::es) X.env).map (·.2)=assign e X.env::(assignEach es X.env).map (·.2):=by rfl):PD X (e::es) (DW t u):=by
 intro pins s σ H vs us Q I r h
 obtain⟨v,vr,e1,h⟩:=h
 subst e1
 cases r with
 |cons r rr=>
  rw[hs]
  refine assignInOrder_cons (bK (h1 pins s σ H _ _ _ I r h) λ_ s1 ⟨σ1,H1,I1,q1⟩=>?_)
  exact h2 pins s1 σ1 H1 _ _ Q I1 rr q1
def L3 (K:PySem.W.Frag)(n:Nat)(t:GL):TG:=λv σ H Q=>∃ a xs,v=.ref a/\i8 K H a xs/\xs.length=n/\t xs σ H Q
theorem Nr {es:List Expr}{k:Nat}{t:GL}{n:Nat}(hc:X.calm=true)(h:PD X es t)
  (hn:(assignEach es X.env).length=n:=by rfl) (UX:(assignEach es X.env).findIdx? (·.1)=none:=by rfl):PG X (.Tuple es k pos) (L3 X.K n t):=by
 intro pins s σ H v u Q I r hw
 obtain⟨a,xs,e1,hq,hl,hw⟩:=hw
 subst e1
 cases r
 obtain⟨its,rv,ht,hz⟩:=I.tuple hq
 refine assign_Tuple_tuple (I.ok.hd hc) ht (by simp[hn,<-hl,rv.length]) UX λh' hx=>?_
 have I1:Inv X pins σ H {s with heap:=h'}:=I.kept (t':=s.toks) λb o e=>hx b o (abI (abx e)) e
 exact h pins _ σ H xs _ Q I1 (by simpa using rv) hw
def Qp (to ti:TE)(t:Hc):TG:=λv σ H Q=>to σ H λo H1=>ti σ H1 λi H2=>t o i v H2 λH3=>Q σ H3
theorem Nq {o i:Expr}{to ti:TE}{t:Hc}(ho:PE X o to)(hi:PE X i ti)(hs:PF X t)
  (ha:∀ v,assign (.Subscript o i pos) X.env v=(do
   let ov←holding [v] (eval o X.env)
   let iv←holding [v,ov] (eval i X.env)
   standAt pos
   holding [v,ov,iv] (setItem ov iv v)
   release [v,ov,iv] [])):PG X (.Subscript o i pos) (Qp to ti t):=by
 intro pins s σ H v u Q I r h
 rw[ha]
 refine abk (wpAny_holding (bK (ho pins s σ H _ I h) λov s1 ⟨x,H1,I1,r1,q1⟩=>?_))
 refine abk (wpAny_holding (bK (hi pins s1 σ H1 _ I1 q1) λiv s2 ⟨y,H2,I2,r2,q2⟩=>?_))
 refine abk (wpAny_standAt (abk (wpAny_holding (bK (hs pins s2 σ H2 x y v ov iv u _ I2 r1 r2 r q2) λ_ s3 ⟨H3,I3,q3⟩=>?_))))
 exact wpAny_release ⟨σ,H3,I3,q3⟩
def xF (te:TE)(g:TG):TS:=λD σ H=>te σ H λx H1=>g x σ H1 D.nx
theorem Fi {tg e:Expr}{te:TE}{g:TG}(he:PE X e te)(hg:PG X tg g)(hs:swapsWithSole [tg] e pos.line X.env=pure false:=by rfl)(hw:swappedStores [tg] e X.env=pure none:=by rfl)
  (h1:(assignEach [tg] X.env).map (·.2)=[assign tg X.env]:=by rfl):PS X (.Assign [tg] e pos) (xF te g):=by
 intro pins s σ H D I h
 refine wpAny_Assign_stores (bK (he pins s σ H _ I h) λv s1 ⟨x,H1,I1,r1,q1⟩=>?_) hs hw
 rw[h1]
 exact bK (hg pins s1 σ H1 x v _ I1 r1 q1) λ_ s2 q=>q
theorem Fm {i:Nat}{x:Str}{e:Expr}{te:TE}{pos':Pos}(hN:X.N.Nodup)(hi:X.N[i]?=some x)(hx:Loc X.env.scope x)(he:PE X e te)(hs:swapsWith e (some (.Name x pos')) pos.line X.env=pure false:=by rfl)(hf:X.fn x=true\/X.env.scope.names.lookup x=some .local:=by first | exact .inl rfl | exact .inr rfl | assumption) :
  PS X (.Assign [.Name x pos'] e pos) (xF te (nu i)):=by
 intro pins s σ H D I h
 refine wpAny_Assign_Name (bK (he pins s σ H _ I h) λv s1 ⟨y,H1,I1,r1,q1⟩=>?_) hs
 exact xD I1 hN hi hx r1 (λs2 I2=>⟨_,H1,I2,q1⟩) hf
end
section
variable {X:Cx}{pos:Pos}
def zE (c:TT)(tb:TS):TS:=λD σ H=>∃ W:Nat->St->Hp->Prop,(∃ m,W m σ H)/\∀ m σ H,W m σ H->
 c σ H λb H1=>if b=true then ∃ N:St->Hp->Prop,(∀ σ' H',N σ' H'->∃ m',m' < m/\W m' σ' H')/\tb {D with nx:=N,ct:=N,bk:=D.nx} σ H1 else D.nx σ H1
theorem Fo {c:Expr}{body:List Stmt}{tc:TT}{tb:TS}(hp:PassesOwn (model X.prog X.w) X.A X.env X.xe)(hc:PT X c tc)(hb:xT X body tb):PS X (.While c body [] pos) (zE tc tb):=by
 intro pins s σ H D I h
 obtain⟨W,⟨m0,w0⟩,turn⟩:=h
 refine wpAny_While (codeAny_whileLoop (λn s'=>∃ σ' H',Inv X pins σ' H' s'/\W n σ' H') ?_ m0 ⟨σ,H,I,w0⟩)
 rintro n s1 ⟨σ1,H1,I1,w1⟩
 refine wpAny_passesOwn hp (bK (hc pins s1 σ1 H1 _ I1 (turn n σ1 H1 w1)) λb s2 ⟨H2,I2,q2⟩=>?_)
 cases b with
 |true=>
  obtain⟨N,hN,q2⟩:=q2
  rw[abr rfl]
  refine wpAny_passesOwn hp (bK (hb pins s2 σ1 H2 _ I2 q2) λf s3 q3=>?_)
  cases f with
  |next=>
   obtain⟨σ3,H3,I3,n3⟩:=q3
   obtain⟨m',hm,w3⟩:=hN σ3 H3 n3
   exact⟨m',hm,σ3,H3,I3,w3⟩
  |cont=>
   obtain⟨σ3,H3,I3,n3⟩:=q3
   obtain⟨m',hm,w3⟩:=hN σ3 H3 n3
   exact⟨m',hm,σ3,H3,I3,w3⟩
  |brk=>exact q3
  |ret v=>exact q3
 |false=>
  rw[abo abA]
  exact wpAny_execs_nil ⟨σ1,H2,I2,q2⟩
end
structure It where
 go:Nat->Hp->Prop
 yld:Nat->Hp->V->Hp->Prop
 stop:Nat->Hp->Prop
def jb (X:Cx)(pins:List (Addr×Obj))(H:Hp)(b:Addr):Prop:=
 H b=none/\b≠X.env.locals/\b∉X.fs/\(b∈X.ex\/X.s₀.heap.objs.size<=b)/\(∀ x c,X.env.cells.lookup x=some c->c≠b)/\∀ p∈X.pn++pins,p.1≠b
theorem Inv.qO {X:Cx}{pins:List (Addr×Obj)}{σ:St}{H H':Hp}{s:Shared}{b:Addr}(I:Inv X pins σ H s)(hb:s.heap.objs.size<=b)(hn:H' b=none):jb X pins H' b:=by
 refine⟨hn,Nat.ne_of_gt (abK I.lt hb),I.Vs hb,.inr (abE I.sz hb),λx c e z=>?_,λp hp z=>?_⟩
 ·obtain⟨v,q⟩:=I.cell x c e
  exact absurd (abK q.lt (by rw[z];exact hb)) (Nat.lt_irrefl _)
 ·exact absurd (abK (abx (I.pin p hp).1) (by rw[z];exact hb)) (Nat.lt_irrefl _)
structure Turn (P:Program)(w:World)(K:PySem.W.Frag)(tg:Expr)(J:It)(fp:List Addr)(it:Addr)(tn:Nat->Heap->Prop):Prop where
 mem:it∈fp
 obj:∀ i h,tn i h->∀ b∈fp,∃ o,h.get? b=some o/\∀ v,o.data≠.cell v
 keep:∀ i h h',tn i h->(∀ b∈fp,∀ o,h.get? b=some o->h'.get? b=some o)->tn i h'
 item:∀ (X:Cx),X.prog=P->X.w=w->X.K=K->X.calm=true->∀ (i:Nat) (pins:List (Addr×Obj)) (s:Shared) (σ:St) (H:Hp) (E:Value->Shared->Prop),Inv X pins σ H s->(∀ b∈fp,jb X pins H b)->tn i s.heap->J.go i H->
  wpAny (model P w) X.A (pyNext (.ref it)) (λr s1=>∃ u,r=some u/\
   wpAny (model P w) X.A (letOwnedTupleGo tg (.ref it) u) (λ_ s2=>∃ x H',Inv X pins σ H' s2/\RelV x u/\J.yld i H x H'/\tn (i+1) s2.heap/\∀ b∈fp,H' b=none) E s1) E s
 done:∀ (X:Cx),X.prog=P->X.w=w->X.K=K->X.calm=true->∀ (i:Nat) (pins:List (Addr×Obj)) (s:Shared) (σ:St) (H:Hp) (E:Value->Shared->Prop),Inv X pins σ H s->(∀ b∈fp,jb X pins H b)->tn i s.heap->J.stop i H->
  wpAny (model P w) X.A (pyNext (.ref it)) (λr s1=>r=none/\Inv X pins σ H s1) E s
 self:∀ (A:Around) (i:Nat) (s:Shared) (Q:Value->Shared->Prop) (E:Value->Shared->Prop),tn i s.heap->Q (.ref it) s->wpAny (model P w) A (pyIter (.ref it)) Q E s
abbrev TI:=St->Hp->(It->Hp->Prop)->Prop
def WB (X:Cx)(pins:List (Addr×Obj))(σ:St)(tg:Expr)(R:It->Hp->Prop)(QJ:Value)(s2:Shared):Prop:=
 ∃ (it:Addr) (fp:List Addr) (tn:Nat->Heap->Prop) (J:It) (H':Hp),QJ=.ref it/\Inv X pins σ H' s2/\Turn X.prog X.w X.K tg J fp it tn/\tn 0 s2.heap/\(∀ b∈fp,jb X pins H' b)/\R J H'
def PI (X:Cx)(tg iter:Expr)(wi:TI):Prop:=
 ∀ (pins:List (Addr×Obj)) (s:Shared) (σ:St) (H:Hp) (R:It->Hp->Prop),Inv X pins σ H s->wi σ H R->
  wpAny (model X.prog X.w) X.A (eval iter X.env) (λv s1=>wpAny (model X.prog X.w) X.A (pyIter v) (WB X pins σ tg R) X.xe s1) X.xe s
theorem wx {M:Model}{A:Around}{E:Value->Shared->Prop}{s:Shared}{tg:Expr}{it:Addr}{u:Value}{o:Obj}{n:String}{vs:Array Value}{Q:Unit->Shared->Prop}(ho:s.heap.get? it=some o)(hc:o.cls=.type n)(hd:o.data=.fields vs)
  (hn:["enumerate","zip","dict_itemiterator","dict_reverseitemiterator","odict_iterator","itertools.zip_longest","itertools.pairwise"].contains n=false) (hQ:Q () s):wpAny M A (letOwnedTupleGo tg (.ref it) u) Q E s:=by
 unfold letOwnedTupleGo
 cases tg<;>first
  |exact abm hQ
  |(cases u<;>first
    |exact abm hQ
    |(refine abk (wpAny_load ho ?_);rw[hc,hd];show wpAny M A (if (["enumerate","zip","dict_itemiterator","dict_reverseitemiterator","odict_iterator","itertools.zip_longest","itertools.pairwise"].contains n&&vs[0]? == some (rawInt _))=true then _ else _) Q E s;rw[abo (by intro h;rw[hn,Bool.false_and]at h;cases h)];exact abm hQ))
noncomputable def C2 (K:PySem.W.Frag)(a:Addr):It:=
 ⟨λi H=>∃ xs x,fh K H a xs/\xs[i]?=some x,λi H x H'=>H'=H/\∀ xs,fh K H a xs->xs[i]?=some x,λi H=>∃ xs,fh K H a xs/\xs.length<=i⟩
noncomputable def Sk (K:PySem.W.Frag)(a:Addr):It:=
 ⟨λi H=>∃ xs x,i8 K H a xs/\xs[i]?=some x,λi H x H'=>H'=H/\∀ xs,i8 K H a xs->xs[i]?=some x,λi H=>∃ xs,i8 K H a xs/\xs.length<=i⟩
noncomputable def Sj (lo:Int)(n:Nat):It:=⟨λi _=>i<n,λi H x H'=>H'=H/\x=.int (lo+i),λi _=>n<=i⟩
theorem CH {P:Program}{w:World}{K:PySem.W.Frag}{tg:Expr}(a it:Addr):Turn P w K tg (C2 K a) [it] it (λi h=>h.IsListIter it a i) where
 mem:=by simp
 obj:=λi h st b hb=>by
  have e:b=it:=by simpa using hb
  subst e
  obtain⟨o,e,c,d⟩:=st
  exact⟨o,e,λv z=>by rw[d]at z;cases z⟩
 keep:=λi h h' st k=>st.at λo e=>k it (by simp) o e
 item:=by
  intro X hP hw hK hc i pins s σ H E I hf st hg
  subst hP hw hK
  obtain⟨xs,x,hq,hx⟩:=hg
  obtain⟨its,rv,p,hz⟩:=I.list hq
  obtain⟨u,hu,ru⟩:=rv.get hx
  obtain⟨f0,f1,f2,f3,f4,f5⟩:=hf it (by simp)
  refine wpAny_pyNext_list_item st p.isList (x:=u) (by simpa using hu) λh' F6 sb=>?_
  have I1:Inv X pins σ H {s with heap:=h'}:=I.turned (t':=s.toks) (λb o hb e=>(sb.2 b hb).trans e) f0 f1 f3 f4 f5
  obtain⟨o,e,c,d⟩:=id F6
  exact⟨u,rfl,wx (s:={s with heap:=h'}) e c d (by decide) ⟨x,H,I1,ru,⟨rfl,λys hy=>by rw[I.wK hy hq];exact hx⟩,F6,λb hb=>(hf b hb).1⟩⟩
 done:=by
  intro X hP hw hK hc i pins s σ H E I hf st hg
  subst hP hw hK
  obtain⟨xs,hq,hx⟩:=hg
  obtain⟨its,rv,p,hz⟩:=I.list hq
  obtain⟨f0,f1,f2,f3,f4,f5⟩:=hf it (by simp)
  have hl:=rv.length
  exact wpAny_pyNext_list_end (I.ok.hd hc) st p.isList (by simp;lia) λh' eb=>⟨rfl,I.turned (t':=s.toks) (λb o hb e=>eb b o hb e) f0 f1 f3 f4 f5⟩
 self:=λ_ _ _ _ _ st h=>wpAny_pyIter_listiter st h
theorem zM {P:Program}{w:World}{K:PySem.W.Frag}{tg:Expr}(a it:Addr):Turn P w K tg (Sk K a) [it] it (λi h=>h.IsTupleIter it a i) where
 mem:=by simp
 obj:=λi h st b hb=>by
  have e:b=it:=by simpa using hb
  subst e
  obtain⟨o,e,c,d⟩:=st
  exact⟨o,e,λv z=>by rw[d]at z;cases z⟩
 keep:=λi h h' st k=>st.at λo e=>k it (by simp) o e
 item:=by
  intro X hP hw hK hc i pins s σ H E I hf st hg
  subst hP hw hK
  obtain⟨xs,x,hq,hx⟩:=hg
  obtain⟨its,rv,p,hz⟩:=I.tuple hq
  obtain⟨u,hu,ru⟩:=rv.get hx
  obtain⟨f0,f1,f2,f3,f4,f5⟩:=hf it (by simp)
  refine wpAny_pyNext_tuple_item st (show s.heap.IsTuple a its.toArray from p) (x:=u) (by simpa using hu) λh' F6 sb=>?_
  have I1:Inv X pins σ H {s with heap:=h'}:=I.turned (t':=s.toks) (λb o hb e=>(sb.2 b hb).trans e) f0 f1 f3 f4 f5
  obtain⟨o,e,c,d⟩:=id F6
  exact⟨u,rfl,wx (s:={s with heap:=h'}) e c d (by decide) ⟨x,H,I1,ru,⟨rfl,λys hy=>by rw[I.CC hy hq];exact hx⟩,F6,λb hb=>(hf b hb).1⟩⟩
 done:=by
  intro X hP hw hK hc i pins s σ H E I hf st hg
  subst hP hw hK
  obtain⟨xs,hq,hx⟩:=hg
  obtain⟨its,rv,p,hz⟩:=I.tuple hq
  obtain⟨f0,f1,f2,f3,f4,f5⟩:=hf it (by simp)
  have hl:=rv.length
  exact wpAny_pyNext_tuple_end (I.ok.hd hc) st (show s.heap.IsTuple a its.toArray from p) (by simp;lia) λh' eb=>⟨rfl,I.turned (t':=s.toks) (λb o hb e=>eb b o hb e) f0 f1 f3 f4 f5⟩
 self:=λ_ _ _ _ _ st h=>wpAny_pyIter_tupleiter st h
theorem zK {P:Program}{w:World}{K:PySem.W.Frag}{tg:Expr}(it:Addr)(lo:Int)(n:Nat):Turn P w K tg (Sj lo n) [it] it (λi h=>IsRangeIter h it (lo+(i:Nat)*1) ((n:Int)-(i:Nat)) 1) where
 mem:=by simp
 obj:=λi h st b hb=>by
  have e:b=it:=by simpa using hb
  subst e
  exact⟨_,st,λv z=>by
   have z':Data.fields _=Data.cell v:=z
   cases z'⟩
 keep:=λi h h' st k=>k it (by simp) _ st
 item:=by
  intro X hP hw hK hc i pins s σ H E I hf st hg
  subst hP hw hK
  obtain⟨f0,f1,f2,f3,f4,f5⟩:=hf it (by simp)
  have W:=Walks.range (prog:=X.prog) (w:=X.w) (I.ok.hd hc) it lo 1 n
  refine W.item i s _ _ hg st λv h' tk hv F6 kk=>?_
  obtain⟨t,rfl⟩:=hv
  have I1:Inv X pins σ H {s with heap:=h',toks:=tk}:=I.turned (λb o hb e=>kk b o (by simpa using hb) e) f0 f1 f3 f4 f5
  refine⟨_,rfl,wx (s:={s with heap:=h',toks:=tk}) (n:="range_iterator") F6 rfl rfl (by decide) ⟨.int (lo+i),H,I1,⟨t,?_⟩,⟨rfl,rfl⟩,F6,λb hb=>(hf b hb).1⟩⟩
  rw[Int.mul_one]
 done:=by
  intro X hP hw hK hc i pins s σ H E I hf st hg
  subst hP hw hK
  obtain⟨f0,f1,f2,f3,f4,f5⟩:=hf it (by simp)
  exact wpAny_pyNext_range_end (I.ok.hd hc) st (by have:n<=i:=hg;lia) λh' eb=>⟨rfl,I.turned (t':=s.toks) (λb o hb e=>eb b o hb e) f0 f1 f3 f4 f5⟩
 self:=λ_ _ _ _ _ st h=>wpAny_pyIter_rangeiter st h
section
variable {X:Cx}{tg:Expr}
def Ko (K:PySem.W.Frag)(tl:TE):TI:=λσ H R=>tl σ H λx H1=>∃ a,x=.ref a/\(∃ xs,fh K H1 a xs)/\R (C2 K a) H1
def QG (K:PySem.W.Frag)(tl:TE):TI:=λσ H R=>tl σ H λx H1=>∃ a,x=.ref a/\(∃ xs,i8 K H1 a xs)/\R (Sk K a) H1
theorem IY {l:Expr}{tl:TE}(hl:PE X l tl):PI X tg l (Ko X.K tl):=by
 intro pins s σ H R I h
 refine bK (hl pins s σ H _ I h) λv s1 ⟨x,H1,I1,r1,q1⟩=>?_
 obtain⟨a,e,⟨xs,hq⟩,q⟩:=q1
 subst e
 cases r1
 obtain⟨its,rv,p,hz⟩:=I1.list hq
 refine wpAny_pyIter_list p.isList ?_
 refine⟨s1.heap.objs.size,[s1.heap.objs.size],_,_,H1,rfl,I1.kept (t':=s1.toks) λb o e=>abp _ e,CH a _,⟨_,abz _ rfl,rfl,rfl⟩,λb hb=>?_,q⟩
 have e:b=s1.heap.objs.size:=by simpa using hb
 subst e
 exact I1.qO (abl _) (I1.hok.fresh (abl _))
theorem Nv {l:Expr}{tl:TE}(hl:PE X l tl):PI X tg l (QG X.K tl):=by
 intro pins s σ H R I h
 refine bK (hl pins s σ H _ I h) λv s1 ⟨x,H1,I1,r1,q1⟩=>?_
 obtain⟨a,e,⟨xs,hq⟩,q⟩:=q1
 subst e
 cases r1
 obtain⟨its,rv,p,hz⟩:=I1.tuple hq
 refine wpAny_pyIter_tuple (show s1.heap.IsTuple a its.toArray from p) ?_
 refine⟨s1.heap.objs.size,[s1.heap.objs.size],_,_,H1,rfl,I1.kept (t':=s1.toks) λb o e=>abp _ e,zM a _,⟨_,abz _ rfl,rfl,rfl⟩,λb hb=>?_,q⟩
 have e:b=s1.heap.objs.size:=by simpa using hb
 subst e
 exact I1.qO (abl _) (I1.hok.fresh (abl _))
theorem FI {pins:List (Addr×Obj)}{σ:St}{H:Hp}{s:Shared}{R:It->Hp->Prop}{E:Value->Shared->Prop}{lo hi:Int}{t u v:Tok}{tk:Nat}(I:Inv X pins σ H s)(h1:-(2 ^ 62)<=lo)(h2:lo<2 ^ 62)(h3:-(2 ^ 62)<=hi)(h4:hi<2 ^ 62)
  (q:R (Sj lo (hi-lo).toNat) H):wpAny (model X.prog X.w) X.A (pyIter (.ref s.heap.objs.size)) (WB X pins σ tg R) E {s with heap:=s.heap.push {cls:=.type "range",data:=.fields #[.int lo t,.int hi u,.int 1 v]},toks:=tk}:=by
 refine wpAny_pyIter_range (IsRange.new ..) (small_one h1 h2 h3 h4) ?_
 have I1:Inv X pins σ H {s with heap:=s.heap.push {cls:=.type "range",data:=.fields #[.int lo t,.int hi u,.int 1 v]},toks:=tk}:=I.kept λb o e=>abp _ e
 refine⟨(s.heap.push {cls:=.type "range",data:=.fields #[.int lo t,.int hi u,.int 1 v]}).objs.size,[(s.heap.push {cls:=.type "range",data:=.fields #[.int lo t,.int hi u,.int 1 v]}).objs.size],_,_,H,rfl,
  I1.kept (t':=tk) λb o e=>abp _ e,zK _ lo (hi-lo).toNat,?_,λb hb=>?_,q⟩
 ·have e1:lo+((0:Nat):Int)*1=lo:=by simp
  have e2:(((hi-lo).toNat:Nat):Int)-((0:Nat):Int)=Builtin.Range.rangeSize lo hi 1:=by rw[rangeSize_one];split<;>lia
  show IsRangeIter _ _ (lo+((0:Nat):Int)*1) ((((hi-lo).toNat:Nat):Int)-((0:Nat):Int)) 1
  rw[e1,e2]
  exact abz _ rfl
 ·have e:b=(s.heap.push {cls:=.type "range",data:=.fields #[.int lo t,.int hi u,.int 1 v]}).objs.size:=by simpa using hb
  subst e
  exact I1.qO (abl _) (I1.hok.fresh (abl _))
def Ef (ta:TA):TI:=λσ H R=>ta σ H λvs H1=>∃ j:Int,vs=[.int j]/\-(2 ^ 62)<=j/\j<2 ^ 62/\R (Sj 0 j.toNat) H1
theorem Cf {a:Expr}{ta:TA}{p pos:Pos}(hg:Gl X "range")(hm:X.mg "range" = none)(ha:PA X [a] ta)(hs:starEach [a] X.env=[(false,eval a X.env)]:=by rfl):PI X tg (.Call (.Name "range" p) [a] [] pos) (Ef ta):=by
 intro pins s σ H R I h
 refine Call_ (mR I hg hm boot_range (PyProof.Rows.callWith_type1 (bK (ha pos pins s σ H _ I h) λus s1 ⟨vs,H1,I1,r1,q1⟩=>?_) hs rfl))
 obtain⟨j,e,q1,q2,q⟩:=q1
 subst e
 cases r1 with
 |cons r rr=>
  cases rr
  obtain⟨t,rfl⟩:=r
  exact call_range_1 (FI I1 (by lia) (by lia) q1 q2 (by simpa using q))
def Gi (wi:TI)(g:TG)(tb:TS):TS:=λD σ H=>wi σ H λJ H1=>∃ W:Nat->Nat->St->Hp->Prop,(∃ m,W 0 m σ H1)/\∀ i m σ H,W i m σ H->
 (J.stop i H/\D.nx σ H)\/(J.go i H/\∃ N:St->Hp->Prop,(∀ σ' H',N σ' H'->∃ m',m' < m/\W (i+1) m' σ' H')/\∀ x H',J.yld i H x H'->g x σ H' λσ2 H2=>tb {D with nx:=N,ct:=N,bk:=D.nx} σ2 H2)
noncomputable def rK (fp:List Addr)(h:Heap):List (Addr×Obj):=fp.filterMap λb=>(h.get? b).map λo=>(b,o)
theorem fE {fp:List Addr}{h:Heap}{b:Addr}{o:Obj}(hb:b∈fp)(e:h.get? b=some o):(b,o)∈rK fp h:=List.mem_filterMap.mpr ⟨b,hb,by rw[e];rfl⟩
theorem B7 {fp:List Addr}{h:Heap}{p:Addr×Obj}(hp:p∈rK fp h):p.1∈fp/\h.get? p.1=some p.2:=by
 obtain⟨b,hb,e⟩:=List.mem_filterMap.mp hp
 cases q:h.get? b with
 |none=>rw[q]at e;cases e
 |some o=>
  rw[q]at e
  have e':(b,o)=p:=abD e
  subst e'
  exact⟨hb,q⟩
theorem Inv.pinned {pins:List (Addr×Obj)}{σ:St}{H:Hp}{s:Shared}{fp:List Addr}(I:Inv X pins σ H s)(hf:∀ b∈fp,jb X pins H b)(ho:∀ b∈fp,∃ o,s.heap.get? b=some o/\∀ v,o.data≠.cell v):Inv X (pins++rK fp s.heap) σ H s:=
 I.AF λp hp=>(abP.mp hp).elim (λz=>I.pin p (abU _ z)) λz=>by
  obtain⟨hb,e⟩:=B7 z
  obtain⟨f0,f1,f2,_⟩:=hf p.1 hb
  obtain⟨o,e',d⟩:=ho p.1 hb
  rw[e]at e';cases e'
  exact⟨e,f0,f1,f2,d⟩
theorem Inv.lJ {pins pl:List (Addr×Obj)}{σ:St}{H:Hp}{s:Shared}(I:Inv X (pins++pl) σ H s):Inv X pins σ H s:=I.AF λp hp=>I.pin p (abU _ (List.mem_append_left _ hp))
theorem Fj {iter:Expr}{body:List Stmt}{wi:TI}{g:TG}{tb:TS}{pos:Pos}(hp:PassesOwn (model X.prog X.w) X.A X.env X.xe)(hc:X.calm=true)(hi:PI X tg iter wi)(hg:PG X tg g)(hb:xT X body tb)
  (hs:∀ x,foldedSetIterable iter X.env x=pure x):PS X (.For tg iter body [] pos) (Gi wi g tb):=by
 intro pins s σ H D I h
 refine wpAny_For (bK (hi pins s σ H _ I h) λv s1 h1=>bK h1 λQJ s2 h2=>?_) hs
 obtain⟨it,fp,tn,J,H2,e,I2,T,CU,f2,W,⟨m0,w0⟩,turn⟩:=h2
 subst e
 have stat:∀ {H':Hp},(∀ b∈fp,H' b=none)->∀ b∈fp,jb X pins H' b:=λhn b hb=>⟨hn b hb,(f2 b hb).2⟩
 refine codeAny_forLoop_any (λn s'=>∃ i σ' H',Inv X pins σ' H' s'/\tn i s'.heap/\(∀ b∈fp,H' b=none)/\W i n σ' H') ?_ m0 ⟨0,σ,H2,I2,CU,λb hb=>(f2 b hb).1,w0⟩
 rintro n s3 ⟨i,σ3,H3,I3,Ym,Xa,w3⟩
 rcases turn i n σ3 H3 w3 with⟨stop,qn⟩ | ⟨go,N,hN,step⟩
 ·refine wpAny_passesOwn hp (bK (T.done X rfl rfl rfl hc i pins s3 σ3 H3 X.xe I3 (stat Xa) Ym stop) λr s4 ⟨hr,I4⟩=>?_)
  subst hr
  exact wpAny_execs_nil ⟨σ3,H3,I4,qn⟩
 ·refine wpAny_passesOwn hp (bK (T.item X rfl rfl rfl hc i pins s3 σ3 H3 X.xe I3 (stat Xa) Ym go) λr s4 ⟨u,hr,h4⟩=>?_)
  subst hr
  refine wpAny_passesOwn hp (bK h4 λ_ s5 ⟨x,H5,I5,r5,y5,Wo,YW⟩=>?_)
  have Yu:=I5.pinned (stat YW) (T.obj _ _ Wo)
  refine wpAny_passesOwn hp (bK (hg _ s5 σ3 H5 x u _ Yu r5 (step x H5 y5)) λ_ s6 ⟨σ6,H6,I6,q6⟩=>?_)
  refine wpAny_passesOwn hp (bK (hb _ s6 σ6 H6 _ I6 q6) λf s7 q7=>?_)
  have again:∀ {σ7:St}{H7:Hp},Inv X (pins++rK fp s5.heap) σ7 H7 s7->N σ7 H7->∃ m,m<n/\∃ i σ' H',Inv X pins σ' H' s7/\tn i s7.heap/\(∀ b∈fp,H' b=none)/\W i m σ' H':=λ{σ7 H7} I7 n7=>by
   obtain⟨m',hm,w7⟩:=hN σ7 H7 n7
   refine⟨m',hm,i+1,σ7,H7,I7.lJ,T.keep _ _ _ Wo λb hb o e=>(I7.pin (b,o) (abU _ (abU _ (fE hb e)))).1,λb hb=>?_,w7⟩
   obtain⟨o,e,d⟩:=T.obj _ _ Wo b hb
   exact(I7.pin (b,o) (abU _ (abU _ (fE hb e)))).2.1
  cases f with
  |next=>obtain⟨σ7,H7,I7,n7⟩:=q7;exact again I7 n7
  |cont=>obtain⟨σ7,H7,I7,n7⟩:=q7;exact again I7 n7
  |brk=>obtain⟨σ7,H7,I7,q7⟩:=q7;exact⟨σ7,H7,I7.lJ,q7⟩
  |ret v=>obtain⟨x7,σ7,H7,I7,r7,q7⟩:=q7;exact⟨x7,σ7,H7,I7.lJ,r7,q7⟩
end
noncomputable abbrev R2:=V->V->Hp->VK->Prop
def lV (X:Cx)(f:Value->Value->Sem Value)(r:R2):Prop:=
 ∀ (pins:List (Addr×Obj)) (s:Shared) (σ:St) (H:Hp) (x y:V) (v u:Value) (Q:VK),Inv X pins σ H s->RelV x v->RelV y u->r x y H Q->
  wpAny (model X.prog X.w) X.A (f v u) (EP X pins σ Q) X.xe s
def TZ (X:Cx)(f:Value->Sem Value)(r:V->Hp->VK->Prop):Prop:=
 ∀ (pins:List (Addr×Obj)) (s:Shared) (σ:St) (H:Hp) (x:V) (v:Value) (Q:VK),Inv X pins σ H s->RelV x v->r x H Q->
  wpAny (model X.prog X.w) X.A (f v) (EP X pins σ Q) X.xe s
def eC (X:Cx)(f:Value)(r:List V->Hp->VK->Prop):Prop:=
 ∀ (pins:List (Addr×Obj)) (s:Shared) (σ:St) (H:Hp) (xs:List V) (us:List Value) (Q:VK),Inv X pins σ H s->Vals xs us->r xs H Q->
  wpAny (model X.prog X.w) X.A (call f us) (EP X pins σ Q) X.xe s
def TY (X:Cx)(r:V->Hp->(Bool->Hp->Prop)->Prop):Prop:=
 ∀ (pins:List (Addr×Obj)) (s:Shared) (σ:St) (H:Hp) (x:V) (v:Value) (Q:Bool->Hp->Prop),Inv X pins σ H s->RelV x v->r x H Q->
  wpAny (model X.prog X.w) X.A (truthy v) (TP X pins σ Q) X.xe s
def CY (r:R2)(ta tb:TE):TE:=λσ H Q=>ta σ H λx H1=>tb σ H1 λy H2=>r x y H2 Q
def Wx (r:V->Hp->VK->Prop)(ta:TE):TE:=λσ H Q=>ta σ H λx H1=>r x H1 Q
def rI (C:Int->Int->Prop)(g:Int->Int->V):R2:=λx y H Q=>∃ i j,x=.int i/\y=.int j/\C i j/\Q (g i j) H
def Fw (g:Int->Int->V):R2:=λx y H Q=>∃ i j,x=.int i/\y=.int j/\Q (g i j) H
def rU (g:Int->V):V->Hp->VK->Prop:=λx H Q=>∃ i,x=.int i/\Q (g i) H
section
variable {X:Cx}{a b:Expr}{ta tb:TE}{pos:Pos}
theorem Lx (ha:PE X a ta)(hb:PE X b tb){pins:List (Addr×Obj)}{s:Shared}{σ:St}{H:Hp}{R:V->V->Hp->Prop}(I:Inv X pins σ H s)
  (h:ta σ H λx H1=>tb σ H1 λy H2=>R x y H2) {Q:Value->Shared->Prop} {f:Value->Value->Sem Value}
  (hf:∀ v u s2 x y H2,Inv X pins σ H2 s2->RelV x v->RelV y u->R x y H2->wpAny (model X.prog X.w) X.A (f v u) Q X.xe s2) :
  wpAny (model X.prog X.w) X.A (eval a X.env) (λv s₁=>wpAny (model X.prog X.w) X.A (eval b X.env) (λu s₂=>wpAny (model X.prog X.w) X.A (f v u) Q X.xe s₂) X.xe s₁) X.xe s:=by
 refine bK (ha pins s σ H _ I h) λv s1 ⟨x,H1,I1,r1,q1⟩=>?_
 refine bK (hb pins s1 σ H1 _ I1 q1) λu s2 ⟨y,H2,I2,r2,q2⟩=>?_
 exact hf v u s2 x y H2 I2 r1 r2 q2
theorem Rg {op:Operator}{r:R2}(ho:lV X (binaryOp op) r)(ha:PE X a ta)(hb:PE X b tb):PE X (.BinOp a op b pos) (CY r ta tb):=by
 intro pins s σ H Q I h
 exact wpAny_BinOp (Lx ha hb I h λv u s2 x y H2 I2 rx ry q=>ho pins s2 σ H2 x y v u Q I2 rx ry q)
theorem Rh {op:UnaryOp}{r:V->Hp->VK->Prop}(ho:TZ X (unaryOp op) r)(ha:PE X a ta):PE X (.UnaryOp op a pos) (Wx r ta):=by
 intro pins s σ H Q I h
 exact UnaryOp_ (bK (ha pins s σ H _ I h) λv s1 ⟨x,H1,I1,r1,q1⟩=>ho pins s1 σ H1 x v Q I1 r1 q1)
theorem S6 {f:Value->Value->Sem Value}{C:Int->Int->Prop}{g:Int->Int->Int}
  (rule:∀ (i j:Int) (t u:Tok) (s:Shared) (Q:Value->Shared->Prop) (E:Value->Shared->Prop),C i j->Q (.int (g i j) s.toks) {s with toks:=s.toks+1}->wpAny (model X.prog X.w) X.A (f (.int i t) (.int j u)) Q E s) :
  lV X f (rI C λi j=>.int (g i j)):=by
 intro pins s σ H x y v u Q I rx ry h
 obtain⟨i,j,rfl,rfl,hc,q⟩:=h
 obtain⟨t,rfl⟩:=rx
 obtain⟨t',rfl⟩:=ry
 exact rule i j t t' s _ _ hc ⟨.int (g i j),H,I.tok _,⟨_,rfl⟩,q⟩
theorem Q5 {f:Value->Value->Sem Value}{g:Int->Int->Int}
  (rule:∀ (i j:Int) (t u:Tok) (s:Shared) (Q:Value->Shared->Prop) (E:Value->Shared->Prop),Q (.int (g i j) s.toks) {s with toks:=s.toks+1}->wpAny (model X.prog X.w) X.A (f (.int i t) (.int j u)) Q E s) :
  lV X f (Fw λi j=>.int (g i j)):=by
 intro pins s σ H x y v u Q I rx ry h
 obtain⟨i,j,rfl,rfl,q⟩:=h
 obtain⟨t,rfl⟩:=rx
 obtain⟨t',rfl⟩:=ry
 exact rule i j t t' s _ _ ⟨.int (g i j),H,I.tok _,⟨_,rfl⟩,q⟩
theorem IH {f:Value->Value->Sem Value}{g:Int->Int->Bool}
  (rule:∀ (i j:Int) (t u:Tok) (s:Shared) (Q:Value->Shared->Prop) (E:Value->Shared->Prop),Q (.bool (g i j)) s->wpAny (model X.prog X.w) X.A (f (.int i t) (.int j u)) Q E s) :
  lV X f (Fw λi j=>.bl (g i j)):=by
 intro pins s σ H x y v u Q I rx ry h
 obtain⟨i,j,rfl,rfl,q⟩:=h
 obtain⟨t,rfl⟩:=rx
 obtain⟨t',rfl⟩:=ry
 exact rule i j t t' s _ _ ⟨.bl (g i j),H,I,rfl,q⟩
def Pp (i j:Int):Prop:=0<j/\j<1073741824
def Pq (i j:Int):Prop:=0<=j/\j<=1000000/\i.natAbs<2 ^ 64
def CZ (i j:Int):Prop:=(-(2 ^ 64)<i/\i<2 ^ 64)\/(-(2 ^ 64)<j/\j<2 ^ 64)
theorem CZ.ok {i j:Int}(h:CZ i j):IntMulOk i j:=by
 rcases h with⟨h1,h2⟩ | ⟨h1,h2⟩
 ·exact .of_left (intBits_le_64 h1 h2)
 ·exact .of_right (intBits_le_64 h1 h2)
theorem MZ:lV X (binaryOp .Add) (Fw λi j=>.int (i+j)):=Q5 λ_ _ _ _ _ _ _ q=>add_int q
theorem Na:lV X (binaryOp .Sub) (Fw λi j=>.int (i-j)):=Q5 λ_ _ _ _ _ _ _ q=>sub_int q
theorem M7:lV X (binaryOp .Mult) (rI CZ λi j=>.int (i*j)):=S6 λ_ _ _ _ _ _ _ hc q=>mul_int q hc.ok
theorem IL:lV X (binaryOp .FloorDiv) (rI Pp λi j=>.int (i/j)):=S6 λi j _ _ _ _ _ hc q=>by
 have h1:(0:Int)<j:=hc.1
 have h2:j<1073741824:=hc.2
 exact floordiv_int (by lia) (by rw[Int.fdiv_eq_ediv_of_nonneg i (by lia)];exact q) (.inl (PyProof.noPylong_small (by lia)))
theorem M6:lV X (binaryOp .Mod) (rI (λ_ j=>0<j) λi j=>.int (i%j)):=S6 λi j _ _ _ _ _ hc q=>by
 have h1:(0:Int)<j:=hc
 exact mod_int' (by lia) (by rw[Int.fmod_eq_emod_of_nonneg i (by lia)];exact q)
theorem M9:lV X (binaryOp .Pow) (rI Pq λi j=>.int (i ^ j.toNat)):=S6 λ_ _ _ _ _ _ _ hc q=>pow_int_small hc.1 hc.2.1 hc.2.2 q
theorem unI {f:Value->Sem Value}{g:Int->Int}
  (rule:∀ (i:Int) (t:Tok) (s:Shared) (Q:Value->Shared->Prop) (E:Value->Shared->Prop),Q (.int (g i) s.toks) {s with toks:=s.toks+1}->wpAny (model X.prog X.w) X.A (f (.int i t)) Q E s) :
  TZ X f (rU λi=>.int (g i)):=by
 intro pins s σ H x v Q I rx h
 obtain⟨i,rfl,q⟩:=h
 obtain⟨t,rfl⟩:=rx
 exact rule i t s _ _ ⟨.int (g i),H,I.tok _,⟨_,rfl⟩,q⟩
theorem OP:TZ X (unaryOp .USub) (rU λi=>.int (-i)):=unI λ_ _ _ _ _ q=>neg_int q
end
section
variable {X:Cx}{a b c:Expr}{ta tb:TE}{pos:Pos}
theorem LX {pins:List (Addr×Obj)}{σ:St}{H:Hp}{s:Shared}{Q:VK}{k k':Bool}(I:Inv X pins σ H s)(q:Q (.bl k) H)(e:k=k'):EP X pins σ Q (.bool k') s:=by
 subst e
 exact⟨.bl k,H,I,rfl,q⟩
theorem Q9:lV X (compareOp .Lt) (Fw λi j=>.bl (decide (i<j))):=IH λ_ _ _ _ _ _ _ q=>lt_int q
theorem Q8:lV X (compareOp .LtE) (Fw λi j=>.bl (decide (i<=j))):=IH λ_ _ _ _ _ _ _ q=>le_int q
theorem Q7:lV X (compareOp .Gt) (Fw λi j=>.bl (decide (j<i))):=IH λ_ _ _ _ _ _ _ q=>gt_int q
theorem Q6:lV X (compareOp .GtE) (Fw λi j=>.bl (decide (j<=i))):=IH λ_ _ _ _ _ _ _ q=>ge_int q
theorem M5:lV X (compareOp .Is) (λx y H Q=>y=.aq/\Q (.bl (decide (x=.aq))) H):=by
 intro pins s σ H x y v u Q I rx ry h
 obtain⟨rfl,q⟩:=h
 cases ry
 refine is_none_gen (LX I q ?_)
 cases x<;>first
  |(cases rx;rfl)
  |(obtain⟨t,rfl⟩:=rx;rfl)
theorem lV.or {f:Value->Value->Sem Value}{r r':R2}(h:lV X f r)(h':lV X f r'):lV X f (λx y H Q=>r x y H Q\/r' x y H Q):=by
 intro pins s σ H x y v u Q I rx ry q
 rcases q with q | q
 ·exact h pins s σ H x y v u Q I rx ry q
 ·exact h' pins s σ H x y v u Q I rx ry q
theorem u4 {op:CmpOp}{r:R2}(ho:lV X (compareOp op) r)(ha:PE X a ta)(hb:PE X b tb)(hm:behindInMarks op b=false):PE X (.Compare a [op] [b] pos) (CY r ta tb):=by
 intro pins s σ H Q I h
 exact wpAny_Compare1 (Lx ha hb I h λv u s2 x y H2 I2 rx ry q=>ho pins s2 σ H2 x y v u Q I2 rx ry q) hm
def Gn (t:TE):TT:=λσ H Q=>t σ H λx H'=>∃ k,x=.bl k/\Q k H'
theorem u7 {op:CmpOp}{r:R2}(ho:lV X (compareOp op) r)(ha:PE X a ta)(hb:PE X b tb)(hm:behindInMarks op b=false):PT X (.Compare a [op] [b] pos) (Gn (CY r ta tb)):=by
 intro pins s σ H Q I h
 refine wpAny_isTrue_Compare1 (bK (ha pins s σ H _ I h) λv s1 ⟨x,H1,I1,r1,q1⟩=>bK (hb pins s1 σ H1 _ I1 q1) λu s2 ⟨y,H2,I2,r2,q2⟩=>
  bK (ho pins s2 σ H2 x y v u _ I2 r1 r2 q2) λc s3 ⟨z,H3,I3,r3,k,e,q3⟩=>?_) hm
 subst e
 cases r3
 exact wpAny_truthy_bool ⟨H3,I3,q3⟩
def Hd (K:PySem.W.Frag)(x:V)(H:Hp)(k:Bool):Prop:=
 match x with
 |.aq=>k=false
 |.bl b=>k=b
 |.int i=>k=(i != 0)
 |.str y=>y.length<=sizeLine/\k=((y.length:Int) != 0)
 |.OX y=>y.size<=sizeLine/\k=((y.size:Int) != 0)
 |.ref p=>(∃ xs,fh K H p xs/\k = !xs.isEmpty)\/(∃ xs,i8 K H p xs/\k = !xs.isEmpty)\/∃ kvs,H p=some (.dK kvs)/\k = !kvs.isEmpty
 |_=>False
theorem yL {κ:Type}{kvs:List (κ×V)}{vs:List (κ×Value)}(r:KV kvs vs):(!vs.isEmpty) = !kvs.isEmpty:=by
 cases r<;>rfl
theorem qZ {xs:List V}{its:List Value}(r:Vals xs its):(!its.toArray.isEmpty) = !xs.isEmpty:=by
 cases r<;>simp
theorem mS:(sizeLine:Nat)<2 ^ 63:=by rw[ab0];decide
theorem OK:TY X (λx H Q=>∃ k,Hd X.K x H k/\Q k H):=by
 intro pins s σ H x v Q I rx h
 obtain⟨k,e,q⟩:=h
 have hl:=mS
 have hs:sizeLine=16777216:=ab0
 cases x with
 |aq=>
  cases rx
  have e':k=false:=e
  subst e'
  exact truthy_none ⟨H,I,q⟩
 |bl b=>
  cases rx
  have e':k=b:=e
  subst e'
  exact wpAny_truthy_bool ⟨H,I,q⟩
 |int i=>
  obtain⟨t,rfl⟩:=rx
  have e':k=(i != 0):=e
  subst e'
  exact PySem.P.truthy_int ⟨H,I,q⟩
 |str y=>
  obtain⟨t,rfl⟩:=rx
  obtain⟨hy,e'⟩:y.length<=sizeLine/\k=((y.length:Int) != 0):=e
  subst e'
  exact PySem.P.truthy_str (by lia) ⟨H,I.tok _,q⟩
 |OX y=>
  obtain⟨t,rfl⟩:=rx
  obtain⟨hy,e'⟩:y.size<=sizeLine/\k=((y.size:Int) != 0):=e
  subst e'
  exact PySem.W.truthy_bytes (by lia) ⟨H,I.tok _,q⟩
 |ref p=>
  cases rx
  have e':(∃ xs,fh X.K H p xs/\k = !xs.isEmpty)\/(∃ xs,i8 X.K H p xs/\k = !xs.isEmpty)\/∃ kvs,H p=some (.dK kvs)/\k = !kvs.isEmpty:=e
  rcases e' with⟨xs,hx,e'⟩ | ⟨xs,hx,e'⟩ | ⟨kvs,hx,e'⟩
  ·subst e'
   obtain⟨its,r,pl,hz⟩:=I.list hx
   have hlen:=r.length
   exact wpAny_truthy_list pl.isList (by simp only[abv];lia) ⟨H,I.tok _,by rw[qZ r];exact q⟩
  ·subst e'
   obtain⟨its,r,pl,hz⟩:=I.tuple hx
   have hlen:=r.length
   exact truthy_tuple pl (by simp only[abv];lia) ⟨H,I.tok _,by rw[qZ r];exact q⟩
  ·subst e'
   obtain⟨hz,hS,vs,r,m⟩:kvs.length<=sizeLine/\(p == sysModules)=false/\∃ vs,KV kvs vs/\s.heap.DictOf (bB X.prog X.w) p vs:=I.hok p _ hx
   have hlen:kvs.length=vs.length:=Paired.length r
   exact wpAny_truthy_dict hS m (by lia) ⟨H,I.tok _,by rw[yL r];exact q⟩
 |_=>exact(show False from e).elim
theorem Fs (ha:PE X a ta)(he:∀ whole,isTrue a X.env whole=(do let v←whole;standAt a.pos;holding [v] (truthy v))) :
  PT X a (λσ H Q=>ta σ H λx H'=>∃ k,Hd X.K x H' k/\Q k H'):=by
 intro pins s σ H Q I h
 exact isTrue_plain (bK (ha pins s σ H _ I h) λv s1 ⟨x,H1,I1,r1,q1⟩=>OK pins s1 σ H1 x v Q I1 r1 q1) (he _)
theorem ze:lV X (binaryOp .Add) (λx y H Q=>∃ i j,x=.str i/\y=.str j/\i.length+j.length<=sizeLine/\Q (.str (i++j)) H):=by
 intro pins s σ H x y v u Q I rx ry h
 obtain⟨i,j,rfl,rfl,hz,q⟩:=h
 obtain⟨t,rfl⟩:=rx
 obtain⟨t',rfl⟩:=ry
 exact add_str (λt' tk=>⟨.str (i++j),H,I.tok _,⟨_,rfl⟩,q⟩) hz
theorem vals1 {x:V}{us:List Value}(r:Vals [x] us):∃ u,us=[u]/\RelV x u:=by
 cases r with
 |cons r1 r2=>cases r2;exact⟨_,rfl,r1⟩
theorem vals2 {x y:V}{us:List Value}(r:Vals [x,y] us):∃ u w',us=[u,w']/\RelV x u/\RelV y w':=by
 cases r with
 |cons r1 r2=>
  cases r2 with
  |cons r3 r4=>cases r4;exact⟨_,_,rfl,r1,r3⟩
theorem Bq:eC X (.type "int") (λxs H Q=>(∃ i,xs=[.int i]/\Q (.int i) H)\/∃ k,xs=[.bl k]/\Q (.int (if k then 1 else 0)) H):=by
 intro pins s σ H xs us Q I r h
 rcases h with⟨i,rfl,q⟩ | ⟨k,rfl,q⟩
 ·obtain⟨u,rfl,t,rfl⟩:=vals1 r
  exact call_int_int ⟨.int i,H,I,⟨_,rfl⟩,q⟩
 ·obtain⟨u,rfl,r1⟩:=vals1 r
  cases r1
  exact call_int_bool ⟨.int (if k then 1 else 0),H,I.tok _,⟨_,rfl⟩,q⟩
end
structure xS (h:Heap)(x dx C:Addr)(mA:Str->Option Value):Prop where
 obj:h.get? x=some (PySem.W.instObj C dx)
 ns:h.Ns1 dx mA
 ne:dx≠x
theorem BW {h:Heap}{dx:Addr}{mA:Str->Option Value}(n:h.Ns1 dx mA):∃ od,h.get? dx=some od/\∀ name,PySem.W.lookIn name od=some (mA name):=by
 obtain⟨o,es,ep,ho,hd,hk,_,hm⟩:=n
 refine⟨o,ho,λname=>?_⟩
 have e:=hm name
 unfold nsFind findBy at e
 rw[<-Array.find?_toList]at e
 unfold PySem.W.lookIn
 rw[hd]
 dsimp only
 split
 ·rename_i y q
  rw[q]at e
  exact congrArg some e
 ·rename_i q
  rw[q]at e
  have a:es.toList.any (·.refKey)=false:=by
   rw[List.any_eq_false]
   intro y hy
   obtain⟨z,t,UM⟩:=hk y (Array.mem_toList_iff.mp hy)
   simp[DictEntry.refKey,UM]
  have a':¬ es.toList.any (·.refKey)=true:=by rw[a];exact abA
  rw[abo a']
  exact congrArg some e
theorem xS.look {h:Heap}{x dx C:Addr}{mA:Str->Option Value}(I:xS h x dx C mA):∃ od,PySem.W.InstAt h x (PySem.W.instObj C dx) C (some od)/\∀ name,PySem.W.lookIn name od=some (mA name):=
 let ⟨od,ho,hl⟩:=BW I.ns
 ⟨od,⟨I.obj,rfl,rfl,ho⟩,hl⟩
section
variable {prog:Program}{w:World}{A:Around}{E:Value->Shared->Prop}{s:Shared}{K:PySem.W.Frag}{x dx C f:Addr}{mA:Str->Option Value}{name:Str}{v:Value}
theorem get_map {expr:Bool}{Q:Value->Shared->Prop}(X:K.In s.heap)(I:xS s.heap x dx C mA)(hg:PySem.W.plainGet K C name=true)(hh:PySem.W.hasDictIn K C=true)
  (ha:PySem.W.findIn K (.ref C) name=some none) (hv:mA name=some v) (SV:PySem.W.handedIn v=true) (h:Q v {s with toks:=s.toks+1}) :
  wpAny (model prog w) A (getAttr (.ref x) name expr) Q E s:=by
 obtain⟨od,J,hl⟩:=I.look
 exact PySem.W.get_value X J (PySem.W.plainGet_of hg).1 (PySem.W.findObj_own hh ha rfl (by rw[hl,hv])) SV h
theorem DZ {pl:Sem Bool}{Q:Value×List Value->Shared->Prop}(X:K.In s.heap)(I:xS s.heap x dx C mA)(hg:PySem.W.plainGet K C name=true)
  (hf:PySem.W.findIn K (.ref C) name=some (some (.ref f))) (ht:PySem.W.isFn K (.ref f)=true) (hv:mA name=none) (h:Q (.ref f,[.ref x]) s) :
  wpAny (model prog w) A (getMethod (.ref x) name pl) Q E s:=by
 obtain⟨od,J,hl⟩:=I.look
 exact PySem.W.method_fn X J (PySem.W.plainGet_of hg).1 (PySem.W.plainGet_of hg).2 hf (beq_iff_eq.mp ht) (by show(PySem.W.lookIn name od).map (·.isSome)=some false;rw[hl,hv];rfl) h
theorem Jr {ns:List Str}{Q:Unit->Shared->Prop}(X:K.In s.heap)(I:xS s.heap x dx C mA)
  (hs:PySem.W.findIn K (.ref C) "__setattr__" = some (some (.builtin "object.__setattr__"))) (hp:PySem.W.plainOver K C=true) (ht:PySem.W.takerIn K C name=some none) (hh:PySem.W.hasDictIn K C=true)
  (hw:PySem.Within mA ns) (hsz:ns.length<=sizeLine)
  (h:∀ h',xS h' x dx C (λy=>if y=name then some v else mA y)->Heap.SameBut dx s.heap h'->Q () {s with heap:=h',toks:=s.toks+2}) :
  wpAny (model prog w) A (setAttr (.ref x) name v) Q E s:=by
 obtain⟨od,J,hl⟩:=I.look
 refine PySem.W.set_plain X J hs (PySem.W.osa_open (s:={s with toks:=s.toks+1}) (r:=none) X J hp ht λb=>?_)
 obtain⟨cd,hc,UB⟩:=PySem.W.any_some hh
 have hx:s.heap.get? x=some ⟨.ref C,some dx,.plain,#[]⟩:=I.obj
 refine abk (abm (abk (abk (wpAny_loadPart hx (abk (PySem.W.Looks.here (s:={s with toks:=s.toks+1}) (PySem.W.looks_clsIn X hc) ?_))))))
 rw[UB]
 refine abm (a:=some dx) (abk (abm (abk ?_)))
 refine wpAny_nsSet1 (s:={s with toks:=s.toks+1}) I.ns λh' O4 O7=>?_
 obtain⟨oD,esD,epD,Zw,Y9,Y7⟩:=O4.count (PySem.Within.cons name v hw)
 refine abk (wpAny_lookBehind Zw (by rw[Y9];exact pastItsLine_dict (abE Y7 (by rw[abC];lia))) ?_)
 exact abm (h _ ⟨(O7.2 _ (acd I.ne)).trans I.obj,O4,I.ne⟩ O7)
theorem EG {R:Result->Shared->Prop}{vs:List Value}{kw:List (Str×Value)}(X:K.In s.heap)(hm:PySem.W.makesIn K C=true)
  (hi:PySem.W.findIn K (.ref C) "__init__" = some (some (.ref f))) (hf:PySem.W.typeIn K (.ref f)=some (.type "function"))
  (h:codeAny (model prog w) (A.under (.builtin "type.__call__" ⟨.ref C::vs,kw⟩)) (.call (.ref f) ⟨.ref (s.heap.objs.size+1)::vs,kw⟩) (PySem.W.InitBack (s.heap.objs.size+1) R)
   {s with heap:=(s.heap.push PySem.W.emptyDict).push (PySem.W.instObj C s.heap.objs.size)}) :
  codeAny (model prog w) A (.call (.ref C) ⟨vs,kw⟩) R s:=by
 obtain⟨hh,g,d,t,os⟩:=s
 exact PySem.W.make_core (PySem.W.makes_of X hm) (PySem.W.looks_findIn X hi) (λself=>PySem.W.bind_fn X self hf) (.inl rfl) h
end
noncomputable def gu (f:Str)(v:V):List (Str×V)->List (Str×V)
 |[]=>[(f,v)]
 |(g,x)::r=>if g=f then(g,v)::r else(g,x)::gu f v r
theorem pJ (f g:Str)(v:V):∀ fs:List (Str×V),(gu f v fs).lookup g=if g=f then some v else fs.lookup g
 |[]=>by
  show List.lookup g [(f,v)]=_
  by_cases h:g=f
  ·have hb:(g == f)=true:=beq_iff_eq.mpr h
   simp only[List.lookup,hb,abr h]
  ·have hb:(g == f)=false:=acg.mpr h
   simp only[List.lookup,hb,abo h]
 |(k,x)::r=>by
  have ih:=pJ f g v r
  rw[show gu f v ((k,x)::r)=(if k=f then(k,v)::r else(k,x)::gu f v r) from rfl]
  by_cases hk:k=f
  ·rw[abr hk]
   by_cases h:g=k
   ·have hb:(g == k)=true:=beq_iff_eq.mpr h
    simp only[List.lookup,hb,abr (h.trans hk)]
   ·have hb:(g == k)=false:=acg.mpr h
    simp only[List.lookup,hb,abo (λe:g=f=>h (e.trans hk.symm))]
  ·rw[abo hk]
   by_cases h:g=k
   ·have hb:(g == k)=true:=beq_iff_eq.mpr h
    simp only[List.lookup,hb,abo (λe:g=f=>hk (h.symm.trans e))]
   ·have hb:(g == k)=false:=acg.mpr h
    simp only[List.lookup,hb]
    exact ih
theorem oJ (f:Str)(v:V):∀ fs:List (Str×V),f∈(gu f v fs).map (·.1)/\∀ g,g∈fs.map (·.1)->g∈(gu f v fs).map (·.1)
 |[]=>⟨by simp[gu],λg h=>by simp at h⟩
 |(k,x)::r=>by
  obtain⟨i1,i2⟩:=oJ f v r
  rw[show gu f v ((k,x)::r)=(if k=f then(k,v)::r else(k,x)::gu f v r) from rfl]
  by_cases hk:k=f
  ·rw[abr hk]
   subst hk
   exact⟨by simp,λg h=>by simpa using h⟩
  ·rw[abo hk]
   refine⟨?_,λg h=>?_⟩
   ·rw[abH]
    exact abS _ i1
   ·rw[abH]at h ⊢
    rcases abW.mp h with e | e
    ·exact abW.mpr (.inl e)
    ·exact abS _ (i2 g e)
theorem pH (f:Str)(v:V):∀ fs:List (Str×V),(gu f v fs).length<=fs.length+1
 |[]=>by simp[gu]
 |(k,x)::r=>by
  have ih:=pH f v r
  rw[show gu f v ((k,x)::r)=(if k=f then(k,v)::r else(k,x)::gu f v r) from rfl]
  by_cases hk:k=f
  ·rw[abr hk,abC,abC];lia
  ·rw[abo hk,abC,abC];lia
theorem j5.some_of {v:V}{o:Option Value}(r:j5 (some v) o):∃ u,o=some u/\RelV v u:=by
 cases o with
 |none=>exact(show False from r).elim
 |some u=>exact⟨u,rfl,r⟩
theorem j5.none_of {o:Option Value}(r:j5 none o):o=none:=by
 cases o with
 |none=>rfl
 |some u=>exact(show False from r).elim
theorem BE {v:V}{u:Value}(r:RelV v u):PySem.W.handedIn u=true:=by
 cases v with
 |aq=>cases(show u=Value.none from r);rfl
 |bl b=>cases(show u=Value.bool b from r);rfl
 |int i=>obtain⟨t,e⟩:=(show ∃ t,u=Value.int i t from r);cases e;rfl
 |str x=>obtain⟨t,e⟩:=(show ∃ t,u=Value.str x t from r);cases e;rfl
 |OX b=>obtain⟨t,e⟩:=(show ∃ t,u=Value.bytes b t from r);cases e;rfl
 |LY b=>obtain⟨t,e⟩:=(show ∃ t,u=Value.float b t from r);cases e;rfl
 |ref a=>cases(show u=Value.ref a from r);rfl
 |ty n=>cases(show u=Value.type n from r);rfl
section
variable {P:Program}{w:World}{H:Hp}{h:Heap}{a C dx:Addr}{fs:List (Str×V)}
theorem qg (hok:jU P w H h)(e:H a=some (.ins C dx fs)):∃ mA,xS h a dx C mA/\(∀ f,j5 (fs.lookup f) (mA f))/\PySem.Within mA (fs.map (·.1))/\fs.length<=1000/\H dx=some (.own a):=by
 obtain⟨d,z,ne,ob,mA,n,r,q⟩:=(show bD P w H h a (.ins C dx fs) from hok a _ e)
 exact⟨mA,⟨ob,n,ne⟩,r,q,z,d⟩
end
structure p8 (K:PySem.W.Frag)(C:Addr):Prop where
 pg:PySem.W.plainGet K C Str.empty=true
 hd:PySem.W.hasDictIn K C=true
 po:PySem.W.plainOver K C=true
 sa:PySem.W.findIn K (.ref C) "__setattr__" = some (some (.builtin "object.__setattr__"))
theorem p8.get {K:PySem.W.Frag}{C:Addr}(c:p8 K C)(f:Str):PySem.W.plainGet K C f=true:=c.pg
def jg (K:PySem.W.Frag)(C:Addr)(f:Str):Prop:=PySem.W.findIn K (.ref C) f=some none
theorem jg.R8 {K:PySem.W.Frag}{C:Addr}{f:Str}(n:jg K C f):PySem.W.takerIn K C f=some none:=by
 unfold PySem.W.takerIn
 rw[show PySem.W.findIn K (.ref C) f=some none from n]
 rfl
structure Meth (K:PySem.W.Frag)(C:Addr)(m:Str)(f:Addr):Prop where
 at_:PySem.W.findIn K (.ref C) m=some (some (.ref f))
 fn:PySem.W.isFn K (.ref f)=true
 kp:PySem.W.keepIn K (.ref f)=true
section
variable {X:Cx}{pins:List (Addr×Obj)}{σ:St}{H:Hp}{s:Shared}{a C dx:Addr}{fs:List (Str×V)}{f:Str}{v:V}{A:Around}{E:Value->Shared->Prop}
theorem yE {b:Bool}{Q:Value->Shared->Prop}(I:Inv X pins σ H s)(e:H a=some (.ins C dx fs))(c:p8 X.K C)(n:jg X.K C f)(l:fs.lookup f=some v)
  (h:∀ u s',Inv X pins σ H s'->RelV v u->Q u s'):wpAny (model X.prog X.w) A (getAttr (.ref a) f b) Q E s:=by
 obtain⟨mA,O,r,_,_,_⟩:=qg I.hok e
 obtain⟨u,hu,ru⟩:=j5.some_of (v:=v) (o:=mA f) (by rw[<-l];exact r f)
 exact get_map I.oH O (c.get f) c.hd n hu (BE ru) (h u _ (I.tok _) ru)
theorem qX {m:Str}{g:Addr}{pl:Sem Bool}{Q:Value×List Value->Shared->Prop}(I:Inv X pins σ H s)(e:H a=some (.ins C dx fs))(c:p8 X.K C)(k:Meth X.K C m g)(l:fs.lookup m=none)
  (h:Q (.ref g,[.ref a]) s):wpAny (model X.prog X.w) A (getMethod (.ref a) m pl) Q E s:=by
 obtain⟨mA,O,r,_,_,_⟩:=qg I.hok e
 have hn:mA m=none:=j5.none_of (by rw[<-l];exact r m)
 exact DZ I.oH O (c.get m) k.at_ k.fn hn h
theorem zt {y:V}{u:Value}{Q:Unit->Shared->Prop}(I:Inv X pins σ H s)(e:H a=some (.ins C dx fs))(c:p8 X.K C)(n:jg X.K C f)(hl:fs.length<1000)(ry:RelV y u)
  (h:∀ s',Inv X pins σ (upd H a (.ins C dx (gu f y fs))) s'->Q () s'):wpAny (model X.prog X.w) A (setAttr (.ref a) f u) Q E s:=by
 obtain⟨mA,O,r,wi,_,ho⟩:=qg I.hok e
 have hz:(fs.map (·.1)).length<=sizeLine:=by rw[ab1,ab0];lia
 refine Jr I.oH O c.sa c.po n.R8 c.hd wi hz λh' O' sb=>h _ ?_
 have hd:∃ o,h'.get? dx=some o:=let ⟨o,_,_,e',_⟩:=O'.ns;⟨o,e'⟩
 refine I.write (x:=a) (e:=dx) (by rw[e];exact True.intro) (.inr ho) (λb q hb z=>(sb.2 b hb).trans z) hd ?_
 refine⟨by rw[ax O.ne];exact ho,?_,O.ne,O'.obj,_,O'.ns,λg=>?_,λg hg=>?_⟩
 ·have:=pH f y fs;lia
 ·show j5 ((gu f y fs).lookup g) (if g=f then some u else mA g)
  rw[pJ]
  by_cases q:g=f
  ·rw[abr q,abr q];exact ry
  ·rw[abo q,abo q];exact r g
 ·by_cases q:g=f
  ·rw[q];exact(oJ f y fs).1
  ·refine(oJ f y fs).2 g (wi g λz=>hg ?_)
   show(if g=f then some u else mA g)=none
   rw[abo q];exact z
theorem Inv.made (I:Inv X pins σ H s):Inv X pins σ (upd (upd H s.heap.objs.size (.own (s.heap.objs.size+1))) (s.heap.objs.size+1) (.ins C s.heap.objs.size []))
  {s with heap:=(s.heap.push PySem.W.emptyDict).push (PySem.W.instObj C s.heap.objs.size)}:=by
 have e1:(s.heap.push PySem.W.emptyDict).get? s.heap.objs.size=some PySem.W.emptyDict:=abz s.heap rfl
 have e2:((s.heap.push PySem.W.emptyDict).push (PySem.W.instObj C s.heap.objs.size)).get? (s.heap.objs.size+1)=some (PySem.W.instObj C s.heap.objs.size):=by
  have:=abz (s.heap.push PySem.W.emptyDict) (o:=PySem.W.instObj C s.heap.objs.size) rfl
  rwa [Heap.size_push]at this
 have e3:(s.heap.push PySem.W.emptyDict).Ns s.heap.objs.size (λ_=>none):=⟨PySem.W.emptyDict,#[],_,e1,rfl,(λe he=>absurd he (by simp)),λ_=>rfl⟩
 have I1:=I.laid (a:=s.heap.objs.size) (o:=.own (s.heap.objs.size+1)) (h':=s.heap.push PySem.W.emptyDict) (t':=s.toks) (λb u q=>abp _ q) (abl _) ⟨_,e1⟩
 refine I1.laid (a:=s.heap.objs.size+1) (o:=.ins C s.heap.objs.size []) (t':=s.toks) (λb u q=>abp _ q) (Nat.le_of_eq (Heap.size_push _ _)) ?_
 have ne:s.heap.objs.size≠s.heap.objs.size+1:=abI (Nat.lt_succ_self _)
 refine⟨by rw[ax ne,bF],abO _,ne,e2,λ_=>none,(Heap.Ns1.of_empty e3).at λo q=>abp _ q,λ_=>True.intro,λy hy=>absurd rfl hy⟩
theorem Hj {prog:Program}{w:World}{env:Env}{e:Expr}{f:Str}{pos:Pos}{s:Shared}{Q:Value->Shared->Prop}(hb:attributeBase e f env (eval e env)=eval e env)
  (h:wpAny (model prog w) A (eval e env) (λo s₁=>wpAny (model prog w) A (getAttr o f true) Q E s₁) E s):wpAny (model prog w) A (eval (.Attribute e f pos) env) Q E s:=
 Attribute_any_ h (by rw[arm_eval_Attribute,hb])
end
def R4 (K:PySem.W.Frag)(ta:TE)(f:Str):TE:=λσ H Q=>ta σ H λx H1=>∃ a C dx fs v,x=.ref a/\H1 a=some (.ins C dx fs)/\p8 K C/\jg K C f/\fs.lookup f=some v/\Q v H1
def RG (K:PySem.W.Frag)(ta tv:TE)(f:Str):TS:=λD σ H=>tv σ H λy H1=>ta σ H1 λx H2=>∃ a C dx fs,x=.ref a/\H2 a=some (.ins C dx fs)/\p8 K C/\jg K C f/\fs.length<1000/\
 D.nx σ (upd H2 a (.ins C dx (gu f y fs)))
section
variable {X:Cx}{o e value:Expr}{f:Str}{pos pos':Pos}{ta tv:TE}
theorem Nf (he:PE X e ta)(hb:attributeBase e f X.env (eval e X.env)=eval e X.env):PE X (.Attribute e f pos) (R4 X.K ta f):=by
 intro pins s σ H Q I h
 refine Hj hb (bK (he pins s σ H _ I h) λu s1 ⟨x,H1,I1,rx,a,C,dx,fs,v,ex,ea,c,n,l,q⟩=>?_)
 subst ex
 obtain rfl:u=Value.ref a:=rx
 exact yE I1 ea c n l λu' s2 I2 ru=>⟨v,H1,I2,ru,q⟩
theorem NA (ha:PE X o ta)(hv:PE X value tv)(hs:swapsWith value (some (.Attribute o f pos')) pos.line X.env=pure false):PS X (.Assign [.Attribute o f pos'] value pos) (RG X.K ta tv f):=by
 intro pins s σ H D I h
 refine plainObj_wpAny_Assign_Attribute (bK (hv pins s σ H _ I h) λu s1 ⟨y,H1,I1,ry,q⟩=>bK (ha pins s1 σ H1 _ I1 q) λov s2 ⟨x,H2,I2,rx,a,C,dx,fs,ex,ea,c,n,l,q2⟩=>?_) hs
 subst ex
 obtain rfl:ov=Value.ref a:=rx
 exact zt I2 ea c n l ry λs3 I3=>⟨σ,_,I3,q2⟩
end
section
variable {X:Cx}{pins:List (Addr×Obj)}{σ:St}{H:Hp}{s:Shared}{A:Around}{E:Value->Shared->Prop}{Q:Value->Shared->Prop}{c:Value}{b:Bool}
inductive mJ (K:PySem.W.Frag)(H:Hp):V->Value->Prop where
 |aq:mJ K H .aq (.type "NoneType")
 |bl (x:Bool):mJ K H (.bl x) (.type "bool")
 |int (i:Int):mJ K H (.int i) (.type "int")
 |str (x:Str):mJ K H (.str x) (.type "str")
 |LY (x:UInt64):mJ K H (.LY x) (.type "float")
 |lst {a:Addr} {xs:List V} (e:H a=some (.lst xs)):mJ K H (.ref a) (.type "list")
 |dE {a:Addr} {o:Obj} {xs:List V} (e:H a=some (.dE o (.lst xs))):mJ K H (.ref a) (.type "list")
 |tup {a:Addr} {xs:List V} (e:H a=some (.tup xs)):mJ K H (.ref a) (.type "tuple")
 |dK {a:Addr} {kvs:List (Key×V)} (e:H a=some (.dK kvs)):mJ K H (.ref a) (.type "dict")
 |dT {a:Addr} {kvs:List (NK.KD×V)} (e:H a=some (.dT kvs)):mJ K H (.ref a) (.type "dict")
 |ins {a C dx:Addr} {fs:List (Str×V)} (e:H a=some (.ins C dx fs)) (cl:p8 K C) (ha:PySem.W.findIn K (.ref C) "__class__" = some (some (.builtin "object.__class__")))
   (hn:PySem.W.specialIn K (.builtin "object.__class__") "__get__" = some (some (.builtin "getset_descriptor.__get__"))) (Xu:PySem.W.takesIn K (.builtin "object.__class__")=some true)
   (hm:PySem.W.mroIn K C (.type "object")=some true):mJ K H (.ref a) (.ref C)
theorem BM {x:V}{u t:Value}(I:Inv X pins σ H s)(rx:RelV x u)(ty:mJ X.K H x t)(e:PySem.W.kitOne X.K t c=some b)(h:∀ tk,Q (.bool b) {s with toks:=tk}) :
  wpAny (model X.prog X.w) A (call (.builtin "isinstance") [u,c]) Q E s:=by
 cases ty with
 |aq=>cases(show u=Value.none from rx);exact ack PySem.W.kitx_none I.oH True.intro e (λz=>nomatch z) h
 |bl y=>cases(show u=Value.bool y from rx);exact ack PySem.W.kitx_bool I.oH True.intro e (λz=>nomatch z) h
 |int i=>obtain⟨t,q⟩:=(show ∃ t,u=Value.int i t from rx);cases q;exact ack PySem.W.kitx_int I.oH True.intro e (λz=>nomatch z) h
 |str y=>obtain⟨t,q⟩:=(show ∃ t,u=Value.str y t from rx);cases q;exact ack PySem.W.kitx_str I.oH True.intro e (λz=>nomatch z) h
 |LY y=>obtain⟨t,q⟩:=(show ∃ t,u=Value.float y t from rx);cases q;exact ack PySem.W.kitx_float I.oH True.intro e (λz=>nomatch z) h
 |@lst a xs ea=>
  cases(show u=Value.ref a from rx)
  obtain⟨_,_,n,_,h1⟩:=(show bD X.prog X.w H s.heap a (.lst xs) from I.hok a _ ea)
  exact ack PySem.W.kitx_list I.oH ⟨_,h1,rfl⟩ e (λz=>nomatch z) h
 |@dE a ob xs ea=>
  cases(show u=Value.ref a from rx)
  obtain⟨_,_,_,n,_,h1⟩:=(show bD X.prog X.w H s.heap a (.dE ob (.lst xs)) from I.hok a _ ea)
  exact ack PySem.W.kitx_list I.oH ⟨_,h1,rfl⟩ e (λz=>nomatch z) h
 |@tup a xs ea=>
  cases(show u=Value.ref a from rx)
  obtain⟨_,_,_,p⟩:=(show bD X.prog X.w H s.heap a (.tup xs) from I.hok a _ ea)
  obtain⟨o,h1,h2,_⟩:=p
  exact ack PySem.W.kitx_tuple I.oH ⟨o,h1,h2⟩ e (λz=>nomatch z) h
 |@dK a kvs ea=>
  cases(show u=Value.ref a from rx)
  obtain⟨_,_,vs,_,p⟩:=(show bD X.prog X.w H s.heap a (.dK kvs) from I.hok a _ ea)
  obtain⟨o,es,ep,h1,h2,_⟩:=p
  exact ack PySem.W.kitx_dict I.oH ⟨o,h1,h2.1⟩ e (λz=>nomatch z) h
 |@dT a kvs ea=>
  cases(show u=Value.ref a from rx)
  obtain⟨_,_,xs,_,o,es,ep,h1,h2,_⟩:=(show bD X.prog X.w H s.heap a (.dT kvs) from I.hok a _ ea)
  exact ack PySem.W.kitx_dict I.oH ⟨o,h1,h2.1⟩ e (λz=>nomatch z) h
 |@ins a C dx fs ea cl ha hn Xu hm=>
  cases(show u=Value.ref a from rx)
  obtain⟨mA,O,_⟩:=qg I.hok ea
  obtain⟨od,J,_⟩:=O.look
  exact ack (PySem.W.kitx_own (cl.get _) cl.hd ha hn Xu hm) I.oH J e (λz=>nomatch z) h
end
structure d3 (k:Nat)(A:Around):Prop where
 hd:A.handled=none
 dp:A.depth+3*k+5<recursionLimit
 un:A.units+16*k+200<cLine
 gd:A.guards=some []
theorem d3.mono {j k:Nat}{A:Around}(r:d3 k A)(h:j<=k):d3 j A:=⟨r.hd,by have:=r.dp;lia,by have:=r.un;lia,r.gd⟩
theorem d3.deeper {k:Nat}{A:Around}(r:d3 (k+1) A)(env:Env):d3 k (A.deeper env):=
 ⟨r.hd,by have:=r.dp;show A.depth+1+3*k+5<_;lia,by have:=r.un;show A.units+3+16*k+200<_;lia,r.gd⟩
theorem yW {A:Around}{C:Addr}{us:List Value}{kw:List (Str×Value)}:(A.under (.builtin "type.__call__" ⟨.ref C::us,kw⟩)).depth=A.depth+1:=by
 first | rfl | simp[Around.under,Code.weight,Code.isCreation,Code.isGuard,Code.isCaller,Code.frames,Code.isFrame,guardIds]
theorem yX {A:Around}{C:Addr}{us:List Value}{kw:List (Str×Value)}:(A.under (.builtin "type.__call__" ⟨.ref C::us,kw⟩)).units=A.units+1:=by
 first | rfl | simp[Around.under,Code.cUnits,Code.frames,Code.isFrame]
theorem wQ {A:Around}{C:Addr}{us:List Value}{kw:List (Str×Value)}:(A.under (.builtin "type.__call__" ⟨.ref C::us,kw⟩)).guards=A.guards:=by
 first | rfl | simp[Around.under,Code.weight,Code.isCreation,Code.isGuard,Code.isCaller,Code.frames,Code.isFrame,guardIds]
theorem d3.make {k:Nat}{A:Around}(r:d3 (k+1) A)(C:Addr)(us:List Value)(kw:List (Str×Value)):d3 k (A.under (.builtin "type.__call__" ⟨.ref C::us,kw⟩)):=
 ⟨r.hd,by have:=r.dp;rw[yW];lia,by have:=r.un;rw[yX];lia,(wQ).trans r.gd⟩
theorem d3.depth {k:Nat}{A:Around}(r:d3 k A):A.depth<recursionLimit:=by have:=r.dp;lia
theorem d3.units {k:Nat}{A:Around}(r:d3 k A):A.units+64<cLine:=by have:=r.un;lia
def rX:TA:=λ_ H Q=>Q [] H
def nY (ta:TE)(tr:TA):TA:=λσ H Q=>ta σ H λx H1=>tr σ H1 λxs H2=>Q (x::xs) H2
section
variable {X:Cx}{e:Expr}{es:List Expr}{te:TE}{t:TA}{pos:Pos}
theorem rH:PA X [] rX:=λ_ _ _ _ H Q I h=>Calls.spliced_nil ⟨[],H,I,.nil,h⟩
theorem jD (ha:PE X e te)(hr:PA X es t)(hs:starEach (e::es) X.env=(false,eval e X.env)::starEach es X.env:=by rfl):PA X (e::es) (nY te t):=by
 intro pos pins s σ H Q I h
 rw[hs]
 show wpAny _ _ (spliced ((false,eval e X.env)::backTo pos (starEach es X.env))) _ _ s
 refine Calls.spliced_cons (bK (ha pins s σ H _ I h) λu s1 ⟨x,H1,I1,r1,q1⟩=>?_)
 exact bK (hr pos pins s1 σ H1 _ I1 q1) λus s2 ⟨xs,H2,I2,r2,q2⟩=>⟨x::xs,H2,I2,.cons r1 r2,q2⟩
def OC (t:TA):TE:=λσ H Q=>t σ H λxs H1=>xs.length<=sizeLine/\∀ p,H1 p=none->Q (.ref p) (upd H1 p (.tup xs))
def Ox (t:TA):TE:=λσ H Q=>t σ H λxs H1=>xs.length<=sizeLine/\∀ p,H1 p=none->Q (.ref p) (upd H1 p (.lst xs))
theorem Nn {x1}(h:PA X es t):PE X (.Tuple es x1 pos) (OC t):=by
 intro pins s σ H Q I hq
 refine wpAny_Tuple_spliced (bK (h pos pins s σ H _ I hq) λus s1 ⟨xs,H1,I1,r,z,q⟩=>⟨by rw[<-r.length];exact z,?_⟩)
 have hf:H1 s1.heap.objs.size=none:=I1.hok.fresh (abl _)
 refine⟨.ref s1.heap.objs.size,upd H1 s1.heap.objs.size (.tup xs),I1.laid (t':=s1.toks) (λb u e=>abp _ e) (abl _) ?_,rfl,q _ hf⟩
 exact⟨z,us,r,f9.new _ _⟩
theorem Ni (h:PA X es t):PE X (.List es pos) (Ox t):=by
 intro pins s σ H Q I hq
 refine wpAny_List_spliced (bK (h pos pins s σ H _ I hq) λus s1 ⟨xs,H1,I1,r,z,q⟩=>⟨by rw[<-r.length];exact z,?_⟩)
 have hf:H1 s1.heap.objs.size=none:=I1.hok.fresh (abl _)
 refine⟨.ref s1.heap.objs.size,upd H1 s1.heap.objs.size (.lst xs),I1.laid (t':=s1.toks) (λb u e=>abp _ e) (abl _) ?_,rfl,q _ hf⟩
 exact⟨z,us,0,r,abz _ rfl⟩
end
abbrev Sp:=List V->Hp->VK->XK->Prop
abbrev Bb:=List Env->Hp->Shared->XK->Value->Shared->Prop
structure xQ (P:Program)(w:World)(K:PySem.W.Frag)(mg:Str->Option Value)(base:Heap)(A:Around)(outer:List Env)(s:Shared)(H:Hp):Prop where
 frames:A.frames=some outer
 mod:Mod K mg base
 bs:∀ b o,base.get? b=some o->s.heap.get? b=some o/\H b=none
 bsz:base.objs.size<=s.heap.objs.size
 pX:s.heap.FunFrames base outer
 frf:∀ b∈CO outer,H b=none
 hok:jU P w H s.heap
 bare:AllBare s.gens
def CE (outer:List Env)(P:Program)(w:World)(H:Hp)(s:Shared)(Q:VK)(u:Value)(s':Shared):Prop:=
 ∃ v H',s'.os=s.os/\AllBare s'.gens/\Un (CO outer) [] H H' s.heap s'.heap/\jU P w H' s'.heap/\RelV v u/\Q v H'
def CR (CX:Bb)(outer:List Env)(P:Program)(w:World)(H:Hp)(s:Shared)(Q:VK)(E:XK)(r:Result)(s':Shared):Prop:=
 match r with
 |.ok (.ret u)=>CE outer P w H s Q u s'
 |.ok _=>False
 |.error e=>CX outer H s E e s'
structure dA (P:Program)(w:World)(K:PySem.W.Frag)(mg:Str->Option Value)(base:Heap)(CX:Bb)(k:Nat)(f:Addr)(fd:FuncData)(ps:List Str)(sp:Sp):Prop where
 len:∀ vs H Q E,sp vs H Q E->vs.length=ps.length
 run:∀ (A:Around) (outer:List Env) (s:Shared) (H:Hp) (args:Args) (us:List Value) (vs:List V) (Q:VK) (E:XK),d3 k A->xQ P w K mg base A outer s H->BindsTo s fd args (ps.zip us)->Vals vs us->sp vs H Q E->
  codeAny (model P w) A (.call (.ref f) args) (CR CX outer P w H s Q E) s
theorem dA.mono {P:Program}{w:World}{K:PySem.W.Frag}{mg:Str->Option Value}{base:Heap}{CX:Bb}{j k:Nat}{f:Addr}{fd:FuncData}{ps:List Str}{sp:Sp}(F:dA P w K mg base CX j f fd ps sp)(h:j<=k) :
  dA P w K mg base CX k f fd ps sp:=⟨F.len,λA outer s H args us vs Q E hr=>F.run A outer s H args us vs Q E (hr.mono h)⟩
theorem dA.imp {P:Program}{w:World}{K:PySem.W.Frag}{mg:Str->Option Value}{base:Heap}{CX:Bb}{k:Nat}{f:Addr}{fd:FuncData}{ps:List Str}{sp Yk:Sp}(F:dA P w K mg base CX k f fd ps sp)
  (h:∀ vs H Q E,Yk vs H Q E->sp vs H Q E):dA P w K mg base CX k f fd ps Yk:=
 ⟨λvs H Q E q=>F.len vs H Q E (h _ _ _ _ q),λA outer s H args us vs Q E hr he hb hv hs=>F.run A outer s H args us vs Q E hr he hb hv (h _ _ _ _ hs)⟩
theorem xQ.make {P:Program}{w:World}{K:PySem.W.Frag}{mg:Str->Option Value}{base:Heap}{A:Around}{outer:List Env}{s:Shared}{H:Hp}(e:xQ P w K mg base A outer s H)(C:Addr)(us:List Value)(kw:List (Str×Value)) :
  xQ P w K mg base (A.under (.builtin "type.__call__" ⟨.ref C::us,kw⟩)) outer s H:=⟨by first | exact e.frames | (simpa [Around.under,Code.envs,Code.isFrame,pushEnvs]using e.frames),e.mod,e.bs,e.bsz,e.pX,e.frf,e.hok,e.bare⟩
section
variable {X:Cx}{pins:List (Addr×Obj)}{σ:St}{H:Hp}{s s':Shared}
theorem Inv.Ql (I:Inv X pins σ H s):xQ X.prog X.w X.K X.mg X.base X.A X.stack s H:=
 ⟨I.ok.frames,I.ok.mod,I.bs,abE I.ok.bsz I.sz,I.stack,I.AU,I.hok,I.bare⟩
theorem Inv.after {Q:VK}{u:Value}(I:Inv X pins σ H s)(h:CE X.stack X.prog X.w H s Q u s'):EP X pins σ Q u s':=by
 obtain⟨v,H',os,bare,un,hok,r,q⟩:=h
 obtain⟨hh,g,d,t,Z8⟩:=s'
 obtain rfl:Z8=s.os:=os
 exact⟨v,H',I.call (h':=hh) (g':=g) (d':=d) (t':=t) (ch:=[]) un hok bare (λb z=>absurd z (by simp)),r,q⟩
end
def AW (sp:Sp)(qd:List V)(E:XK)(t:TA):TE:=λσ H Q=>t σ H λvs H1=>sp (vs++qd) H1 Q E
def xI (C:Addr)(m:Str)(sp:Sp)(qd:List V)(E:XK)(ta:TE)(t:TA):TE:=λσ H Q=>ta σ H λx H1=>∃ a dx fs,x=.ref a/\H1 a=some (.ins C dx fs)/\fs.lookup m=none/\
 t σ H1 λvs H2=>sp (x::(vs++qd)) H2 Q E
def xH (C:Addr)(sp:Sp)(qd:List V)(E:XK)(t:TA):TE:=λσ H Q=>t σ H λvs H1=>∀ x dx,H1 x=none->H1 dx=none->dx≠x->
 sp (.ref x::(vs++qd)) (upd (upd H1 dx (.own x)) x (.ins C dx [])) (λv H2=>v=.aq/\Q (.ref x) H2) E
def Binds (K:PySem.W.Frag)(fd:FuncData)(ps:List Str)(ds:List Value):Prop:=
 ∀ (s:Shared) (us:List Value),K.In s.heap->(us++ds).length=ps.length->BindsTo s fd ⟨us,[]⟩ (ps.zip (us++ds))
theorem Binds.all {K:PySem.W.Frag}{fd:FuncData}{ps:List Str}(h:∀ us:List Value,us.length=ps.length->bindArgs fd ⟨us,[]⟩=pure (ps.zip us)):Binds K fd ps []:=λs us _ hl=>by
 rw[acj]at hl ⊢
 exact .of_eq (h us hl)
def Passes (CX:Bb)(X:Cx)(E:XK):Prop:=∀ (pins:List (Addr×Obj)) (σ:St) (H:Hp) (s:Shared) (e:Value) (s':Shared),Inv X pins σ H s->CX X.stack H s E e s'->X.xe e s'
section
variable {X:Cx}{CX:Bb}{k:Nat}{f C:Addr}{fd:FuncData}{ps:List Str}{sp:Sp}{qd:List V}{ds:List Value}{E:XK}{x:Str}{p pos:Pos}{e:Expr}{es:List Expr}{t:TA}
theorem zq {pins:List (Addr×Obj)}{σ:St}{H:Hp}{s:Shared}{Q:VK}{us:List Value}{vs:List V}(F:dA X.prog X.w X.K X.mg X.base CX k f fd ps sp)(hr:d3 k X.A)(hb:Binds X.K fd ps ds)(hd:Vals qd ds)(hx:Passes CX X E)
  (I:Inv X pins σ H s) (r:Vals vs us) (h:sp (vs++qd) H Q E):wpAny (model X.prog X.w) X.A (call (.ref f) us) (EP X pins σ Q) X.xe s:=by
 have r2:Vals (vs++qd) (us++ds):=r.append hd
 have hl:(us++ds).length=ps.length:=by rw[<-r2.length];exact F.len _ _ _ _ h
 refine wpAny_call (codeAny_mono (F.run X.A X.stack s H ⟨us,[]⟩ (us++ds) (vs++qd) Q E hr I.Ql (hb s us I.oH hl) r2 h) λr s' hq=>?_)
 cases r with
 |error e=>exact hx pins σ H s e s' I hq
 |ok fl=>
  cases fl with
  |ret u=>exact I.after hq
  |next=>exact False.elim hq
  |brk=>exact False.elim hq
  |cont=>exact False.elim hq
theorem IS (F:dA X.prog X.w X.K X.mg X.base CX k f fd ps sp)(hr:d3 k X.A)(hg:Gl X x)(hm:X.mg x=some (.ref f))(hk:PySem.W.keepIn X.K (.ref f)=true)(hb:Binds X.K fd ps ds)(hd:Vals qd ds)(hx:Passes CX X E)
  (ha:PA X (e::es) t) (BG:(x == ("__debug__":Str))=false:=by decide) (he:starEach (e::es) X.env=(false,eval e X.env)::starEach es X.env:=by rfl) (wA:(backTo pos (starEach es X.env)).any (·.1)=false:=by rfl) :
  PE X (.Call (.Name x p) (e::es) [] pos) (AW sp qd E t):=by
 intro pins s σ H Q I h
 refine wpAny_Call_Name_kw (ql I hg hm ?_ BG)
 refine PySem.W.callWith_K (h₀:=X.base) I.ok.mod.kin hk (bK (ha pos pins s σ H _ I h) λus s1 ⟨vs,H1,I1,r,q⟩=>⟨I1.oH,?_⟩) he wA
 exact zq F hr hb hd hx I1 r q
structure Mk (K:PySem.W.Frag)(C f:Addr):Prop where
 makes:PySem.W.makesIn K C=true
 init:PySem.W.findIn K (.ref C) "__init__" = some (some (.ref f))
 fn:PySem.W.isFn K (.ref f)=true
 kp:PySem.W.keepIn K (.ref C)=true
theorem xp {pins:List (Addr×Obj)}{σ:St}{H:Hp}{s:Shared}{Q:VK}{us:List Value}{vs:List V}(M:Mk X.K C f)(F:dA X.prog X.w X.K X.mg X.base CX k f fd ps sp)(hr:d3 (k+1) X.A)(hb:Binds X.K fd ps ds)(hd:Vals qd ds)
  (hx:Passes CX X E) (I:Inv X pins σ H s) (r:Vals vs us)
  (h:∀ x dx,H x=none->H dx=none->dx≠x->sp (.ref x::(vs++qd)) (upd (upd H dx (.own x)) x (.ins C dx [])) (λv H2=>v=.aq/\Q (.ref x) H2) E) :
  wpAny (model X.prog X.w) X.A (call (.ref C) us) (EP X pins σ Q) X.xe s:=by
 have hq:=h (s.heap.objs.size+1) s.heap.objs.size (I.hok.fresh (Nat.le_succ _)) (I.hok.fresh (abl _)) (abI (Nat.lt_succ_self _))
 have I2:=Inv.made (C:=C) I
 have r2:Vals (V.ref (s.heap.objs.size+1)::(vs++qd)) (Value.ref (s.heap.objs.size+1)::(us++ds)):=.cons rfl (r.append hd)
 have hl:(Value.ref (s.heap.objs.size+1)::us++ds).length=ps.length:=by
  have e:=r2.length
  rw[F.len _ _ _ _ hq]at e
  exact e.symm
 refine wpAny_call (EG (f:=f) I.oH M.makes M.init (beq_iff_eq.mp M.fn) (codeAny_mono (F.run _ X.stack _ _ ⟨Value.ref (s.heap.objs.size+1)::us,[]⟩ (Value.ref (s.heap.objs.size+1)::(us++ds)) _ _ E (hr.make C us [])
  (I2.Ql.make C us []) (hb _ (Value.ref (s.heap.objs.size+1)::us) I2.oH hl) r2 hq) λr s' Km=>?_))
 cases r with
 |error e=>exact hx pins σ _ _ e s' I2 Km
 |ok fl=>
  cases fl with
  |ret u=>
   obtain⟨v,H',I3,rv,ev,q3⟩:=I2.after Km
   subst ev
   exact⟨rv,⟨V.ref (s.heap.objs.size+1),H',I3,rfl,q3⟩⟩
  |next=>exact False.elim Km
  |brk=>exact False.elim Km
  |cont=>exact False.elim Km
theorem IU (M:Mk X.K C f)(F:dA X.prog X.w X.K X.mg X.base CX k f fd ps sp)(hr:d3 (k+1) X.A)(hg:Gl X x)(hm:X.mg x=some (.ref C))(hb:Binds X.K fd ps ds)(hd:Vals qd ds)(hx:Passes CX X E)
  (ha:PA X (e::es) t) (BG:(x == ("__debug__":Str))=false:=by decide) (he:starEach (e::es) X.env=(false,eval e X.env)::starEach es X.env:=by rfl) (wA:(backTo pos (starEach es X.env)).any (·.1)=false:=by rfl) :
  PE X (.Call (.Name x p) (e::es) [] pos) (xH C sp qd E t):=by
 intro pins s σ H Q I h
 refine wpAny_Call_Name_kw (ql I hg hm ?_ BG)
 refine PySem.W.callWith_K (h₀:=X.base) I.ok.mod.kin M.kp (bK (ha pos pins s σ H _ I h) λus s1 ⟨vs,H1,I1,r,q⟩=>⟨I1.oH,?_⟩) he wA
 exact xp M F hr hb hd hx I1 r q
theorem E9 (M:Mk X.K C f)(F:dA X.prog X.w X.K X.mg X.base CX k f fd ps sp)(hr:d3 (k+1) X.A)(hg:Gl X x)(hm:X.mg x=some (.ref C))(hb:Binds X.K fd ps ds)(hd:Vals qd ds)(hx:Passes CX X E)
  (BG:(x == ("__debug__":Str))=false:=by decide):PE X (.Call (.Name x p) [] [] pos) (xH C sp qd E rX):=by
 intro pins s σ H Q I h
 refine wpAny_Call_Name_kw (ql I hg hm ?_ BG)
 exact PySem.W.callWith_K0 I.oH M.kp (xp (us:=[]) M F hr hb hd hx I .nil h)
end
structure ja (N P:List Str)(sc:Scope):Prop where
 kind:sc.kind=.function
 co:sc.isCoroutine=false
 gen:sc.isGenerator=false
 nd:N.Nodup
 pre:N.take P.length=P
 par:∀ x∈P,sc.names.lookup x=some .local\/sc.names.lookup x=some .cell
 nofree:∀ y∈sc.names,y.2≠.free
theorem sX {kindOf:Str->Option NameKind}{x:Str}:∀ {binds:List (Str×Value)}{m:Str->Option Value},(∀ v,(x,v)∉binds)->bindL kindOf binds m x=m x
 |[],_,_=>rfl
 |(n,v)::r,m,h=>by
  unfold bindL
  rw[sX λw hw=>h w (abS _ hw)]
  split
  ·have:x≠n:=by rintro rfl;exact h v acn
   simp[this]
  ·rfl
theorem sU {kindOf:Str->Option NameKind}{x:Str}:∀ {binds:List (Str×Value)}{m:Str->Option Value},(∀ v,(x,v)∉binds)->bindC kindOf binds m x=m x
 |[],_,_=>rfl
 |(n,v)::r,m,h=>by
  unfold bindC
  rw[sU λw hw=>h w (abS _ hw)]
  split
  ·rfl
  ·have:x≠n:=by rintro rfl;exact h v acn
   simp[this]
theorem sV {kindOf:Str->Option NameKind}{x:Str}{v:Value}:∀ {P:List Str}{vs:List Value}{i:Nat}{m:Str->Option Value},P.Nodup->P[i]?=some x->vs[i]?=some v->kindOf x=some .local->
  bindL kindOf (P.zip vs) m x=some v
 |[],_,_,_,_,h,_,_=>by simp at h
 |_::_,[],_,_,_,_,h,_=>by simp at h
 |p::P,w::vs,0,m,nd,h1,h2,hk=>by
  simp at h1 h2;subst h1;subst h2
  show bindL kindOf ((p,w)::P.zip vs) m p=_
  unfold bindL
  rw[sX λv hv=>(List.nodup_cons.mp nd).1 (List.of_mem_zip hv).1,abr hk]
  simp
 |p::P,w::vs,i+1,m,nd,h1,h2,hk=>by
  show bindL kindOf ((p,w)::P.zip vs) m x=_
  unfold bindL
  exact sV (i:=i) (List.nodup_cons.mp nd).2 (by simpa using h1) (by simpa using h2) hk
theorem sT {kindOf:Str->Option NameKind}{x:Str}{v:Value}:∀ {P:List Str}{vs:List Value}{i:Nat}{m:Str->Option Value},P.Nodup->P[i]?=some x->vs[i]?=some v->kindOf x≠some .local->
  bindC kindOf (P.zip vs) m x=some v
 |[],_,_,_,_,h,_,_=>by simp at h
 |_::_,[],_,_,_,_,h,_=>by simp at h
 |p::P,w::vs,0,m,nd,h1,h2,hk=>by
  simp at h1 h2;subst h1;subst h2
  show bindC kindOf ((p,w)::P.zip vs) m p=_
  unfold bindC
  rw[sU λv hv=>(List.nodup_cons.mp nd).1 (List.of_mem_zip hv).1,abo hk]
  simp
 |p::P,w::vs,i+1,m,nd,h1,h2,hk=>by
  show bindC kindOf ((p,w)::P.zip vs) m x=_
  unfold bindC
  exact sT (i:=i) (List.nodup_cons.mp nd).2 (by simpa using h1) (by simpa using h2) hk
noncomputable def start (N:List Str)(vs:List V):St:=vs.map some++List.replicate (N.length-vs.length) none
noncomputable def yq (CX:Bb)(P:Program)(w:World)(K:PySem.W.Frag)(mg:Str->Option Value)(base:Heap)(N:List Str)(qual:Str)(scope:Scope)(f:Addr)(cd:Value)(A:Around)(outer:List Env)(s:Shared)(H:Hp)(E:XK):Cx where
 prog:=P
 w:=w
 K:=K
 mg:=mg
 base:=base
 A:=A.deeper (envOfC qual scope s.heap.objs.size f cd)
 N:=N
 s₀:=s
 H₀:=H
 env:=envOfC qual scope s.heap.objs.size f cd
 outer:=outer
 stack:=envOfC qual scope s.heap.objs.size f cd::outer
 ex:=[]
 calm:=true
 fn:=λ_=>true
 pn:=[]
 xe:=λe s'=>wpAny (model P w) (A.deeper (envOfC qual scope s.heap.objs.size f cd)) (leaving (envOfC qual scope s.heap.objs.size f cd) e) (λ_ V7=>CX outer H s E e V7) (λe' V7=>CX outer H s E e' V7) s'
theorem vS {sc:Scope}{n:Nat}{x:Str}(h:sc.names.lookup x=some .cell):∃ c,(cellsFrom n sc.names []).lookup x=some c:=by
 have q:=PySem.W.cellsFrom_some sc.names n [] (.inl h)
 exact Option.isSome_iff_exists.mp q
theorem BK {CX:Bb}{P:Program}{w:World}{K:PySem.W.Frag}{mg:Str->Option Value}{base:Heap}{N ps:List Str}{qual:Str}{scope:Scope}{f:Addr}{cd:Value}{A:Around}{outer:List Env}{s s1:Shared}{H:Hp}{E:XK}{us:List Value}{vs:List V}
  (S:ja N ps scope) (hd:A.handled=none) (e0:xQ P w K mg base A outer s H) (hl:vs.length=ps.length) (r:Vals vs us)
  (x:InCallC s s.heap.objs.size (bindL (envOfC qual scope s.heap.objs.size f cd).kindOf (ps.zip us) λ_=>none) (cellsFrom (s.heap.objs.size+1) scope.names []) (bindC (envOfC qual scope s.heap.objs.size f cd).kindOf (ps.zip us) λ_=>none) s1) :
  Inv (yq CX P w K mg base N qual scope f cd A outer s H E) [] (start N vs) H s1:=by
 have wA:ps.length<=N.length:=by have:=congrArg List.length S.pre;rw[acz]at this;lia
 obtain⟨h1,tk,rfl,hk⟩:=x.done
 have noA:∀ b:Addr,b∉(yq CX P w K mg base N qual scope f cd A outer s H E).ex:=λb z=>absurd (show b∈([]:List Addr) from z) (by simp)
 refine⟨⟨e0.mod,S.kind,rfl,rfl,abl _,λy z c h1 h2=>?_,λy hy=>?_,λy c _ h=>?_,λ_=>hd,Around.frames_deeper e0.frames,.inr ⟨rfl,rfl⟩,λb z=>absurd z (noA b),e0.bs,e0.bsz,λb _ _=>noA b,λb z=>absurd z (noA b),e0.pX,e0.frf⟩,
  rfl,e0.bare,Un.kept hk,⟨_,x.toInCall.ns,λi y v h1 h2 h3=>?_⟩,λy c h=>⟨_,x.cell y c h⟩,e0.hok.fresh (abl _),λy c h=>?_,λp hp=>absurd (show p∈([]:List (Addr×Obj)) from hp) (by simp),e0.hok.kept hk,?_⟩
 ·exact name_of_addr x.apart (ab_ h1) (ab_ h2)
 ·have hy:scope.names.lookup y=some .cell\/scope.names.lookup y=some .free:=hy
  rcases hy with hy | hy
  ·exact vS hy
  ·exact absurd rfl (S.nofree _ (ab_ hy))
 ·exact Nat.le_of_lt (x.above y c (ab_ h))
 ·have hi:i<vs.length:=by
   unfold start at h2
   by_cases hi:i<vs.length
   ·exact hi
   ·rw[abt (by simpa using hi)]at h2
    rw[List.getElem?_replicate]at h2
    split at h2<;>cases h2
  have ha:vs[i]?=some v:=by
   unfold start at h2
   rw[abq (by simpa using hi),abG]at h2
   cases e:vs[i]? with
   |none=>rw[e]at h2;cases h2
   |some a=>rw[e]at h2;cases h2;rfl
  obtain⟨u,hu,rv⟩:=r.get ha
  have hp:ps[i]?=some y:=by
   rw[<-S.pre,List.getElem?_take_of_lt (by lia)];exact h1
  have XI:ps.Nodup:=by rw[<-S.pre];exact S.nd.sublist (List.take_sublist _ _)
  refine⟨u,rv,?_⟩
  rcases S.par y (abY hp) with k | k
  ·exact .inl ⟨k,sV XI hp hu k⟩
  ·obtain⟨c,e⟩:=vS (n:=s.heap.objs.size+1) k
   refine .inr ⟨.inl k,c,e,?_⟩
   have q:=x.cell y c e
   rw[sT XI hp hu (by show scope.names.lookup y≠_;rw[k];decide)]at q
   exact q
 ·exact e0.hok.fresh (Nat.le_of_lt (x.above y c (ab_ h)))
 ·unfold start
  show _=N.length
  rw[aby,ab1,List.length_replicate]
  lia
theorem Qm {CX:Bb}{P:Program}{w:World}{K:PySem.W.Frag}{mg:Str->Option Value}{base:Heap}{k:Nat}{f:Addr}{name qual:Str}{params:Arguments}{body:List Stmt}{scope:Scope}{dV kV doc pm kj ct oc:Value}{an od:Option Addr}
  {CT:Array (Option Value)} {N ps:List Str} {sp:Sp} (lk:K.lookup f=some ⟨oc,od,.func (PySem.W.fnOf name qual params body scope dV kV doc pm an kj ct),CT⟩) (HN:PySem.W.codeIn K kj qual=true) (S:ja N ps scope)
  (len:∀ vs H Q E,sp vs H Q E->vs.length=ps.length)
  (D8:∀ (A:Around) (outer:List Env) (s:Shared) (H:Hp) (vs:List V) (Q:VK) (E:XK),d3 k (A.deeper (envOfC qual scope s.heap.objs.size f kj))->sp vs H Q E->
   ∃ t,xT (yq CX P w K mg base N qual scope f kj A outer s H E) body t/\t {nx:=λ_ H'=>Q .aq H',rt:=Q} (start N vs) H) :
  dA P w K mg base CX (k+1) f (PySem.W.fnOf name qual params body scope dV kV doc pm an kj ct) ps sp:=by
 refine⟨len,λA outer s H args us vs Q E hr e0 hb r hsp=>?_⟩
 have hl:=len _ _ _ _ hsp
 have KX:K.In s.heap:=e0.mod.kin.keeps λb o e=>(e0.bs b o e).1
 have lim:s.heap.NoLimit:=e0.mod.nolimit.keeps λb o e=>(e0.bs b o e).1
 have Qz:∀ y∈ps.zip us,scope.names.lookup y.1=some .local\/(scope.names.lookup y.1=some .cell/\((cellsFrom (s.heap.objs.size+1) scope.names []).lookup y.1).isSome=true):=λ⟨n,v⟩ hy=>by
  rcases S.par n (List.of_mem_zip hy).1 with q | q
  ·exact .inl q
  ·exact .inr ⟨q,PySem.W.cellsFrom_some _ _ _ (.inl q)⟩
 refine codeAny_call_function hr.depth (KX _ _ lk) rfl S.co S.gen rfl (PySem.W.codeRec_of KX HN) (hb _ _ _ _ ?_)
 refine wpAny_newFunctionEnv_cells S.kind Qz λenv he s1 x=>?_
 subst he
 refine⟨lim.keeps x.toInCall.keep,codeAny_func ?_⟩
 obtain⟨t,ht,hq⟩:=D8 A outer s H vs Q E (hr.deeper _) hsp
 have I:Inv (yq CX P w K mg base N qual scope f kj A outer s H E) [] (start N vs) H s1:=BK S hr.hd e0 hl r x
 refine ab9 (ht [] s1 (start N vs) H _ I hq) (λfl s' hs=>?_) λe s' hs=>hs
 have fin:∀ {σ':St}{H':Hp}{v:V}{u:Value},Inv (yq CX P w K mg base N qual scope f kj A outer s H E) [] σ' H' s'->RelV v u->Q v H'->CE outer P w H s Q u s':=
  λ{σ' H' v u} J rv q=>⟨v,H',J.os,J.bare,J.base,J.hok,rv,q⟩
 cases fl with
 |ret u=>
  obtain⟨v,σ',H',J,rv,q⟩:=hs
  exact fin J rv q
 |next=>
  obtain⟨σ',H',J,q⟩:=hs
  exact fin (v:=V.aq) (u:=Value.none) J rfl q
 |brk=>
  obtain⟨_,_,_,q⟩:=hs
  exact False.elim q
 |cont=>
  obtain⟨_,_,_,q⟩:=hs
  exact False.elim q
section
variable {X:Cx}{x:Str}{p pos:Pos}{e:Expr}{es:List Expr}{t:TA}{id T:String}{r:List V->Hp->VK->Prop}
def R0 (r:List V->Hp->VK->Prop)(t:TA):TE:=λσ H Q=>t σ H λvs H1=>r vs H1 Q
theorem E2 (hc:eC X (.builtin id) r)(hg:Gl X x)(hm:X.mg x=none)(hv:bootBuiltins x=some (.builtin id))(ha:PA X (e::es) t)(hn:x≠"__name__":=by decide)(BG:(x == ("__debug__":Str))=false:=by decide)
  (he:starEach (e::es) X.env=(false,eval e X.env)::starEach es X.env:=by rfl) (wA:(backTo pos (starEach es X.env)).any (·.1)=false:=by rfl):PE X (.Call (.Name x p) (e::es) [] pos) (R0 r t):=by
 intro pins s σ H Q I h
 refine wpAny_Call_Name_kw (mR I hg hm hv ?_ hn BG)
 exact PyProof.Rows.callWith_builtin1 (bK (ha pos pins s σ H _ I h) λus s1 ⟨vs,H1,I1,r1,q1⟩=>hc pins s1 σ H1 vs us Q I1 r1 q1) he wA
theorem B9 (hc:eC X (.type T) r)(hg:Gl X x)(hm:X.mg x=none)(hv:bootBuiltins x=some (.type T))(ha:PA X (e::es) t)(hn:x≠"__name__":=by decide)(BG:(x == ("__debug__":Str))=false:=by decide)
  (he:starEach (e::es) X.env=(false,eval e X.env)::starEach es X.env:=by rfl) (wA:(backTo pos (starEach es X.env)).any (·.1)=false:=by rfl):PE X (.Call (.Name x p) (e::es) [] pos) (R0 r t):=by
 intro pins s σ H Q I h
 refine wpAny_Call_Name_kw (mR I hg hm hv ?_ hn BG)
 exact PyProof.Rows.callWith_type1 (bK (ha pos pins s σ H _ I h) λus s1 ⟨vs,H1,I1,r1,q1⟩=>hc pins s1 σ H1 vs us Q I1 r1 q1) he wA
end
end L2
namespace HT
open PySem PyProof.Rows
section
variable {prog:Program}{w:World}{A:Around}{E:Value->Shared->Prop}{s:Shared}
theorem Ht {t b:Addr}{vs ws:List Value}{Q:Value->Shared->Prop}(ht:IsTup s.heap t vs.toArray)(hb:IsTup s.heap b ws.toArray)(hv:vs≠[])
  (h1:ws=[]->Q (.ref t) s) (h2:ws≠[]->Q (.ref s.heap.objs.size) {s with heap:=s.heap.push {cls:=.type "tuple",data:=.seq (vs++ws).toArray}})
  (hsz:vs.length+ws.length<=sizeLine):wpAny (model prog w) A (binaryOp .Add (.ref t) (.ref b)) Q E s:=by
 obtain⟨⟨cls,dd,data,sl⟩,ho,hc,n,hd⟩:=id ht
 obtain⟨⟨YK,W8,data2,ub⟩,Mb,Sy,n2,hd2⟩:=id hb
 simp only at hc hd Sy hd2
 subst hc hd Sy hd2
 have e:vs.toArray++ws.toArray=(vs++ws).toArray:=by simp
 by_cases hw:ws=[]
 ·exact concat_meets ⟨_,ho,rfl⟩ ⟨_,Mb,rfl⟩ noFill_tuple_add seq_tuple_add PySem.F.slot_tuple_add PySem.F.entry_tuple_add (PySem.F.args_tuple_add_2 _ _)
   (tuple_addW1 t b vs.toArray ws.toArray n n2 dd W8 sl ub (by simpa using hv) (by simp[hw])) ⟨ho,Mb,h1 hw⟩
 ·refine concat_meets ⟨_,ho,rfl⟩ ⟨_,Mb,rfl⟩ noFill_tuple_add seq_tuple_add PySem.F.slot_tuple_add PySem.F.entry_tuple_add (PySem.F.args_tuple_add_2 _ _)
   (tuple_addW2 t b vs.toArray ws.toArray n n2 dd W8 sl ub (by simpa using hv) (by simpa using hw) (by rw[abv,abv];exact hsz)) ⟨ho,Mb,?_⟩
  rw[e]
  exact h2 hw
noncomputable def eB (n d:Nat):Option Int->Nat
 |none=>d
 |some v=>if v<0 then(v+(n:Int)).toNat else min v.toNat n
theorem NQ (n d:Nat)(hd:d<=n)(o:Option Int):eB n d o<=n:=by
 cases o with
 |none=>exact hd
 |some v=>
  show(if v<0 then(v+(n:Int)).toNat else min v.toNat n)<=n
  by_cases hv:v<0
  ·rw[abr hv];lia
  ·rw[abo hv];exact Nat.min_le_right _ _
theorem z8 (v:Int)(n d:Nat):(if v<0 then max (v+(n:Int)) 0 else min v (n:Int))=((eB n d (some v):Nat):Int):=by
 show(if v<0 then max (v+(n:Int)) 0 else min v (n:Int))=(((if v<0 then(v+(n:Int)).toNat else min v.toNat n):Nat):Int)
 by_cases hv:v<0
 ·simp only[abr hv];lia
 ·simp only[abo hv];lia
theorem xY (lo hi:Option Int)(n:Nat):Builtin.Slice.sliceAdjust lo hi 1 (n:Int)=(((eB n 0 lo:Nat):Int),((eB n n hi:Nat):Int)):=by
 have h1:¬ ((1:Int)<0):=by lia
 unfold Builtin.Slice.sliceAdjust
 simp only[h1,acb]
 refine Prod.ext ?_ ?_
 ·cases lo with
  |none=>rfl
  |some v=>exact z8 v n 0
 ·cases hi with
  |none=>rfl
  |some v=>exact z8 v n n
theorem zh (i j:Nat):Builtin.Slice.slicePlaces (i:Int) (j:Int) 1=j-i:=by
 unfold Builtin.Slice.slicePlaces
 have h1:(1:Int)>0:=by lia
 simp only[h1,if_true,Int.ediv_one]
 split<;>lia
theorem rT {v:Value}{o:Option Int}{Q:Option Int->Shared->Prop}(p:IsPart v o)(h:Q o s):wpAny (model prog w) A (Builtin.Slice.slicePartIndex v) Q E s:=by
 cases p with
 |none=>exact slicePart_none h
 |int i t=>exact slicePart_int h
theorem oX {sl:Addr}{vl vu:Value}{lo hi:Option Int}{n:Nat}{Q:Int×Int×Nat->Shared->Prop}(hs:s.heap.IsSliceOf sl vl vu .none)(pl:IsPart vl lo)(pu:IsPart vu hi)
  (h:Q (((eB n 0 lo:Nat):Int),1,eB n n hi-eB n 0 lo) s):wpAny (model prog w) A (Builtin.Slice.sliceApplied (.ref sl) (pure (n:Int))) Q E s:=by
 obtain⟨os,QC,Xj,GQ⟩:=id hs
 unfold Builtin.Slice.sliceApplied Builtin.Slice.sliceFields
 refine abk (abk (wpAny_field QC GQ (x:=vl) rfl (abk (wpAny_field QC GQ (x:=vu) rfl (abk (wpAny_field QC GQ (x:=.none) rfl (abm ?_)))))))
 refine abk (slicePart_none ?_)
 show wpAny _ _ (if ((1:Int) == 0)=true then _ else _) _ _ s
 rw[abo (by decide)]
 refine abk (rT pl (abk (rT pu (abk (abm ?_)))))
 show wpAny _ _ (match Builtin.Slice.sliceAdjust lo hi 1 (n:Int) with | (lo,hi)=>pure (lo,(1:Int),Builtin.Slice.slicePlaces lo hi 1)) _ _ s
 rw[xY lo hi n]
 show wpAny _ _ (pure (((eB n 0 lo:Nat):Int),(1:Int),Builtin.Slice.slicePlaces ((eB n 0 lo:Nat):Int) ((eB n n hi:Nat):Int) 1)) _ _ s
 rw[zh]
 exact abm h
theorem Fe (xs:Array Value)(i k:Nat):((List.range k).filterMap λ(m:Nat)=>xs[((i:Int)+(m:Int)*1).toNat]?).toArray=((xs.toList.drop i).take k).toArray:=by
 have e:(λ(m:Nat)=>xs[((i:Int)+(m:Int)*1).toNat]?)=λm=>xs[i+m]?:=by
  funext m
  have:((i:Int)+(m:Int)*1).toNat=i+m:=by lia
  rw[this]
 rw[e]
 have:=pick_run xs i k
 rw[List.filterMap_map]at this
 have e2:((λx=>xs[x]?)∘λx=>i+x)=λm=>xs[i+m]?:=rfl
 rw[e2]at this
 rw[this]
theorem nD {t sl:Addr}{items:Array Value}{vl vu:Value}{lo hi:Option Int}{Q:Value->Shared->Prop}(ht:IsTup s.heap t items)(hs:s.heap.IsSliceOf sl vl vu .none)(pl:IsPart vl lo)(pu:IsPart vu hi)
  (hw:¬ (eB items.size 0 lo=0/\eB items.size items.size hi=items.size))
  (h:Q (.ref s.heap.objs.size) {s with heap:=s.heap.push {cls:=.type "tuple",data:=.seq ((items.toList.drop (eB items.size 0 lo)).take (eB items.size items.size hi-eB items.size 0 lo)).toArray}})
  (hsz:items.size<=sizeLine):wpAny (model prog w) A (getItem (.ref t) (.ref sl)) Q E s:=by
 have Aj:sizeOk (.seq ((items.toList.drop (eB items.size 0 lo)).take (eB items.size items.size hi-eB items.size 0 lo)).toArray):=by
  show((items.toList.drop (eB items.size 0 lo)).take (eB items.size items.size hi-eB items.size 0 lo)).toArray.size<=sizeLine
  rw[abv,acz,List.length_drop,Array.length_toList]
  lia
 have hj:eB items.size items.size hi<=items.size:=NQ _ _ (abl _) hi
 obtain⟨os,QC,Xj,GQ⟩:=id hs
 have Y2:s.TypeIs (.ref sl) "slice":=⟨os,QC,Xj⟩
 unfold getItem
 try with_reducible refine wpAny_holding ?_
 first | refine abk (abm ?_) | skip
 refine abk (wpAny_sequenceKey ht.typeIs (by decide) ?_)
 refine abk (acu (name:=Str.ofString "__getitem__") ht.typeIs PyProof.Rows.slot_tuple_getitem
  (aco PyProof.Rows.slot_tuple_getitem ht.typeIs entry_tuple_getitem ?_ (args_tuple_getitem _ _)))
 show wpAny _ _ (Builtin.Tuple.tupleItemsOf (.ref t) >>= _) _ _ s
 refine abk (tupleItemsOf_ ht ?_)
 refine abk (wpAny_typeOf Y2 ?_)
 rw[abr (by decide)]
 refine abk (oX hs pl pu ?_)
 have Zv:¬ ((((eB items.size 0 lo:Nat):Int) == 0&&(1:Int) == 1&&(eB items.size items.size hi-eB items.size 0 lo) == items.size)=true):=by
  intro q
  rw[abL,abL]at q
  have q1:((eB items.size 0 lo:Nat):Int)=0:=eq_of_beq q.1.1
  have q2:eB items.size items.size hi-eB items.size 0 lo=items.size:=eq_of_beq q.2
  exact hw ⟨by lia,by lia⟩
 show wpAny _ _ (if (((eB items.size 0 lo:Nat):Int) == 0&&(1:Int) == 1&&(eB items.size items.size hi-eB items.size 0 lo) == items.size)=true then _ else _) _ _ s
 rw[abo Zv,Fe]
 first
  |exact abk (m:=Builtin.Tuple.tupleExact _) (abX (abm ⟨_,rfl,abm h⟩) Aj)
  |exact abk (m:=Builtin.Tuple.tupleExact _) (abX (abk (abm (abm ⟨_,rfl,abm h⟩))) Aj)
  |exact abk (abk (m:=Builtin.Tuple.tupleExact _) (abX (abm (abm ⟨_,rfl,abm h⟩)) Aj))
  |exact abk (abk (m:=Builtin.Tuple.tupleExact _) (abX (abm ⟨_,rfl,abm h⟩) Aj))
end
end HT
namespace L2
open PySem PySem.Spec PyProof.Rows
abbrev TO:=St->Hp->(Option Int->Hp->Prop)->Prop
def PO (X:Cx)(e:Option Expr)(t:TO):Prop:=
 ∀ (pins:List (Addr×Obj)) (s:Shared) (σ:St) (H:Hp) (Q:Option Int->Hp->Prop),Inv X pins σ H s->t σ H Q->
  wpAny (model X.prog X.w) X.A (evalPart e X.env) (λu s'=>∃ o H',Inv X pins σ H' s'/\IsPart u o/\Q o H') X.xe s
def jH:TO:=λ_ H Q=>Q none H
def AX (t:TE):TO:=λσ H Q=>t σ H λx H1=>∃ i,x=.int i/\Q (some i) H1
section
variable {X:Cx}{e:Expr}{te:TE}{lo hi:Option Expr}{tl th:TO}{pos p2:Pos}
theorem u5:PO X none jH:=by
 intro pins s σ H Q I h
 rw[evalPart_none]
 exact abm ⟨none,H,I,.none,h⟩
theorem AG (h:PE X e te):PO X (some e) (AX te):=by
 intro pins s σ H Q I hw
 rw[evalPart_some]
 refine bK (h pins s σ H _ I hw) λu s1 ⟨x,H1,I1,r1,q1⟩=>?_
 obtain⟨i,rfl,q⟩:=q1
 obtain⟨t,rfl⟩:=r1
 exact⟨some i,H1,I1,.int i t,q⟩
def Ha (X:Cx)(r:V->Option Int->Option Int->Hp->VK->Prop):Prop:=
 ∀ (pins:List (Addr×Obj)) (s:Shared) (σ:St) (H:Hp) (x:V) (v vl vu:Value) (lo hi:Option Int) (sl:Addr) (Q:VK),Inv X pins σ H s->RelV x v->s.heap.IsSliceOf sl vl vu .none->IsPart vl lo->IsPart vu hi->r x lo hi H Q->
  ∃ T id,typeLookup (.type T) "__getitem__" = pure (some (.builtin id))/\s.TypeIs v T/\wpAny (model X.prog X.w) X.A (getItem v (.ref sl)) (EP X pins σ Q) X.xe s
theorem Ha.or {r r':V->Option Int->Option Int->Hp->VK->Prop}(h:Ha X r)(h':Ha X r'):Ha X (λx lo hi H Q=>r x lo hi H Q\/r' x lo hi H Q):=by
 intro pins s σ H x v vl vu lo hi sl Q I rx hs pl pu q
 rcases q with q | q
 ·exact h pins s σ H x v vl vu lo hi sl Q I rx hs pl pu q
 ·exact h' pins s σ H x v vl vu lo hi sl Q I rx hs pl pu q
def Ww (r:V->Option Int->Option Int->Hp->VK->Prop)(te:TE)(tl th:TO):TE:=λσ H Q=>te σ H λx H1=>tl σ H1 λl H2=>th σ H2 λu H3=>r x l u H3 Q
theorem Fc {r:V->Option Int->Option Int->Hp->VK->Prop}(hr:Ha X r)(he:PE X e te)(hl:PO X lo tl)(hu:PO X hi th):PE X (.Subscript e (.Slice lo hi none p2) pos) (Ww r te tl th):=by
 intro pins s σ H Q I h
 refine Subscript_ (bK (he pins s σ H _ I h) λv s1 ⟨x,H1,I1,r1,q1⟩=>?_)
 refine wpAny_Slice (bK (hl pins s1 σ H1 _ I1 q1) λvl s2 ⟨l,H2,I2,pl,q2⟩=>bK (hu pins s2 σ H2 _ I2 q2) λvu s3 ⟨u,H3,I3,pu,q3⟩=>?_)
 rw[evalPart_none]
 refine abm ?_
 have I4:Inv X pins σ H3 {s3 with heap:=s3.heap.push {cls:=.type "slice",data:=.fields #[vl,vu,.none]}}:=I3.kept (t':=s3.toks) λb ob q=>abp _ q
 obtain⟨T,id,hT,ht,hg⟩:=hr pins {s3 with heap:=s3.heap.push {cls:=.type "slice",data:=.fields #[vl,vu,.none]}} σ H3 x v vl vu l u s3.heap.objs.size Q I4 r1 (Heap.IsSliceOf.new ..) pl pu q3
 show wpAny (model X.prog X.w) X.A (subscriptTail e (.Slice lo hi none p2) v (.ref s3.heap.objs.size)) (EP X pins σ Q) X.xe {s3 with heap:=s3.heap.push {cls:=.type "slice",data:=.fields #[vl,vu,.none]}}
 exact tail_any (ops:=[.ref s3.heap.objs.size,v]) ht hT hg (by with_unfolding_all rfl)
noncomputable def vW (xs:List V)(lo hi:Option Int):List V:=(xs.drop (HT.eB xs.length 0 lo)).take (HT.eB xs.length xs.length hi-HT.eB xs.length 0 lo)
theorem pz (xs:List V)(lo hi:Option Int):(vW xs lo hi).length<=xs.length:=by
 unfold vW
 rw[acz,List.length_drop]
 lia
def Rw (K:PySem.W.Frag):V->Option Int->Option Int->Hp->VK->Prop:=λx lo hi H Q=>∃ a xs,x=.ref a/\i8 K H a xs/\
 ¬ (HT.eB xs.length 0 lo=0/\HT.eB xs.length xs.length hi=xs.length)/\∀ p,H p=none->Q (.ref p) (upd H p (.tup (vW xs lo hi)))
theorem Ob:Ha X (Rw X.K):=by
 intro pins s σ H x v vl vu lo hi sl Q I rx hs pl pu h
 obtain⟨a,xs,rfl,hx,hw,q⟩:=h
 cases rx
 obtain⟨its,r,ht,hz⟩:=I.tuple hx
 have hlen:its.toArray.size=xs.length:=by rw[abv];exact r.length.symm
 refine⟨"tuple",_,PyProof.Rows.slot_tuple_getitem.lookup,ht.typeIs,?_⟩
 refine HT.nD ht hs pl pu (by rw[hlen];exact hw) ?_ (by rw[hlen];exact hz)
 rw[hlen]
 refine⟨.ref s.heap.objs.size,_,I.laid (t':=s.toks) (o:=.tup (vW xs lo hi)) (λb ob q=>abp _ q) (abl _) ?_,rfl,q _ (I.hok.fresh (abl _))⟩
 exact⟨abE (pz xs lo hi) hz,_,(r.drop (HT.eB xs.length 0 lo)).take (HT.eB xs.length xs.length hi-HT.eB xs.length 0 lo),f9.new _ _⟩
def Rm (K:PySem.W.Frag):R2:=λx y H Q=>∃ a b xs ys,x=.ref a/\y=.ref b/\i8 K H a xs/\i8 K H b ys/\xs≠[]/\xs.length+ys.length<=sizeLine/\
 (ys=[]->Q (.ref a) H)/\(ys≠[]->∀ p,H p=none->Q (.ref p) (upd H p (.tup (xs++ys))))
theorem Vals.nR {xs:List V}{us:List Value}(r:Vals xs us):us=[]↔xs=[]:=by
 cases r with
 |nil=>simp
 |cons _ _=>simp
theorem IK:lV X (binaryOp .Add) (Rm X.K):=by
 intro pins s σ H x y v u Q I rx ry h
 obtain⟨a,b,xs,ys,rfl,rfl,ha,hb,hx,hz,q1,q2⟩:=h
 cases rx
 cases ry
 obtain⟨its,r1,p1,_⟩:=I.tuple ha
 obtain⟨sI,r2,p2,_⟩:=I.tuple hb
 refine HT.Ht p1 p2 (λz=>hx (r1.nR.mp z)) (λz=>⟨.ref a,H,I,rfl,q1 (r2.nR.mp z)⟩) (λz=>?_) (by rw[<-r1.length,<-r2.length];exact hz)
 refine⟨.ref s.heap.objs.size,_,I.laid (t':=s.toks) (o:=.tup (xs++ys)) (λb ob q=>abp _ q) (abl _) ?_,rfl,q2 (λw=>z (r2.nR.mpr w)) _ (I.hok.fresh (abl _))⟩
 exact⟨by rw[aby];exact hz,_,r1.append r2,f9.new _ _⟩
end
noncomputable def HX (n:Nat)(i:Int):Option Nat:=if 0<=i then(if i<n then some i.toNat else none) else if -(n:Int)<=i then some (i+n).toNat else none
def iT {α:Type}(xs:List α)(i:Int):Option α:=(HX xs.length i).bind λj=>xs[j]?
theorem Aq {n:Nat}{i:Int}{j:Nat}(h:HX n i=some j):seqIndex? i n=some j/\j<n/\-(n:Int)<=i/\i<n:=by
 unfold HX at h
 by_cases h0:0<=i
 ·rw[abr h0]at h
  by_cases h1:i<n
  ·rw[abr h1]at h
   have e:i.toNat=j:=abD h
   exact⟨by rw[seqIndex_of h0 h1,e],by lia,by lia,h1⟩
  ·rw[abo h1]at h;cases h
 ·rw[abo h0]at h
  by_cases h1:-(n:Int)<=i
  ·rw[abr h1]at h
   have e:(i+n).toNat=j:=abD h
   exact⟨by rw[seqIndex_neg (by lia) h1,e],by lia,h1,by lia⟩
  ·rw[abo h1]at h;cases h
theorem ux {α:Type}{xs:List α}{i:Int}{v:α}(h:iT xs i=some v):∃ j,seqIndex? i xs.length=some j/\xs[j]?=some v/\j<xs.length/\-(xs.length:Int)<=i/\i<xs.length:=by
 unfold iT at h
 cases e:HX xs.length i with
 |none=>rw[e]at h;cases h
 |some j=>
  rw[e]at h
  obtain⟨h1,h2,h3,h4⟩:=Aq e
  exact⟨j,h1,h,h2,h3,h4⟩
def zT (b:Expr):Prop:=∀ o i,subscripted b false o i=operate [o,i] (getItem o i)
def G5 (X:Cx)(r:R2):Prop:=
 ∀ (value slice:Expr) (pins:List (Addr×Obj)) (s:Shared) (σ:St) (H:Hp) (x y:V) (v u:Value) (Q:VK),Inv X pins σ H s->RelV x v->RelV y u->r x y H Q->
  subscripted slice false v u=operate [v,u] (getItem v u)->wpAny (model X.prog X.w) X.A (subscriptTail value slice v u) (EP X pins σ Q) X.xe s
def WA (X:Cx)(id:String)(r:V->List V->Hp->VK->Prop):Prop:=
 ∀ (pins:List (Addr×Obj)) (s:Shared) (σ:St) (H:Hp) (x:V) (xs:List V) (v:Value) (us:List Value) (Q:VK),Inv X pins σ H s->RelV x v->Vals xs us->r x xs H Q->
  wpAny (model X.prog X.w) X.A (call (.builtin id) (v::us)) (EP X pins σ Q) X.xe s
section
variable {X:Cx}{a b:Expr}{ta tb:TE}{pos:Pos}
theorem G5.or {r r':R2}(h:G5 X r)(h':G5 X r'):G5 X (λx y H Q=>r x y H Q\/r' x y H Q):=by
 intro value slice pins s σ H x y v u Q I rx ry q hs
 rcases q with q | q
 ·exact h value slice pins s σ H x y v u Q I rx ry q hs
 ·exact h' value slice pins s σ H x y v u Q I rx ry q hs
theorem Rf {r:R2}(hr:G5 X r)(ha:PE X a ta)(hb:PE X b tb)(hs:zT b):PE X (.Subscript a b pos) (CY r ta tb):=by
 intro pins s σ H Q I h
 exact Subscript_ (Lx ha hb I h λv u s2 x y H2 I2 rx ry q=>hr a b pins s2 σ H2 x y v u Q I2 rx ry q (hs _ _))
def Ro (K:PySem.W.Frag):R2:=λx y H Q=>∃ p xs i v,x=.ref p/\y=.int i/\fh K H p xs/\iT xs i=some v/\Q v H
def Rr (K:PySem.W.Frag):R2:=λx y H Q=>∃ p xs i v,x=.ref p/\y=.int i/\i8 K H p xs/\iT xs i=some v/\Q v H
def Rp:R2:=λx y H Q=>∃ z i c,x=.str z/\y=.int i/\z.length<=sizeLine/\iT z.cps.toList i=some c/\Q (.str ⟨#[c]⟩) H
theorem HY:G5 X (Ro X.K):=by
 intro value slice pins s σ H x y v u Q I rx ry h hs
 obtain⟨p,xs,i,z,rfl,rfl,hq,he,q⟩:=h
 cases rx
 obtain⟨t,rfl⟩:=ry
 obtain⟨its,r,pl,hz⟩:=I.list hq
 obtain⟨j,h1,h2,h3,h4,h5⟩:=ux he
 obtain⟨w,ew,xq⟩:=r.get h2
 have hl:=r.length
 have hn:=mS
 have fin:EP X pins σ Q w s:=⟨z,H,I,xq,q⟩
 by_cases h0:0<=i
 ·have hj:i.toNat=j:=by
   rw[seqIndex_of h0 h5]at h1
   exact abD h1
  exact item_listR pl.isList h0 (by lia) (by rw[hj];simpa using ew) fin hs
 ·have hj:(i+(its.toArray.size:Int)).toNat=j:=by
   rw[seqIndex_neg (by lia) h4]at h1
   rw[abv,<-hl]
   exact abD h1
  exact subscriptTail_builtinR (x:=w) pl.isList.typeIs slot_list_getitem.lookup
   (wpAny_getItem_list_neg (Q:=λr s'=>r=w/\EP X pins σ Q r s') pl.isList (by lia) (by rw[abv]<;>lia) (by lia) (by rw[hj];simpa using ew) ⟨rfl,fin⟩) hs
theorem Mm:G5 X (Rr X.K):=by
 intro value slice pins s σ H x y v u Q I rx ry h hs
 obtain⟨p,xs,i,z,rfl,rfl,hq,he,q⟩:=h
 cases rx
 obtain⟨t,rfl⟩:=ry
 obtain⟨its,r,pl,hz⟩:=I.tuple hq
 obtain⟨j,h1,h2,h3,h4,h5⟩:=ux he
 obtain⟨w,ew,xq⟩:=r.get h2
 have hl:=r.length
 have hn:=mS
 have fin:EP X pins σ Q w s:=⟨z,H,I,xq,q⟩
 exact subscriptTail_builtinR (x:=w) pl.typeIs slot_tuple_getitem.lookup
  (getItem_tuple (j:=j) (Q:=λr s'=>r=w/\EP X pins σ Q r s') pl (by lia) (by lia) (by rw[abv,<-hl];exact h1) (by simpa using ew) ⟨rfl,fin⟩) hs
theorem Ml:G5 X Rp:=by
 intro value slice pins s σ H x y v u Q I rx ry h hs
 obtain⟨z,i,c,rfl,rfl,hz,he,q⟩:=h
 obtain⟨t,rfl⟩:=rx
 obtain⟨t',rfl⟩:=ry
 obtain⟨j,h1,h2,h3,h4,h5⟩:=ux he
 have hl:z.cps.toList.length=z.length:=by simp[Str.length]
 rw[hl]at h1 h4 h5
 have hn:=mS
 exact tail_any (typeIs_str s z t) slot_str_getitem.lookup (getItem_str (c:=c) (by
  have e1:decide (i < -(2 ^ 63:Int))=false:=acq (by lia)
  have e2:decide (i≥2 ^ 63)=false:=acq (by lia)
  rw[e1,e2,Bool.or_false]) (by rw[h1];simpa using h2) ⟨.str ⟨#[c]⟩,H,I.tok _,⟨_,rfl⟩,q⟩) hs
def Rn (K:PySem.W.Frag):R2:=λx y H Q=>Ro K x y H Q\/Rr K x y H Q\/Rp x y H Q
theorem Mj:G5 X (Rn X.K):=HY.or (Mm.or Ml)
theorem yY (its:List Value)(n j:Nat)(u:Value):Obj.mapSeq (·.setIfInBounds j u) {cls:=.type "list",data:=.seq its.toArray n}={cls:=.type "list",data:=.seq (its.set j u).toArray n}:=by
 simp[Obj.mapSeq]
theorem Inv.lst {pins:List (Addr×Obj)}{σ:St}{H:Hp}{s:Shared}{p:Addr}{xs:List V}(I:Inv X pins σ H s)(h:H p=some (.lst xs)) :
  ∃ (its:List Value) (n:Nat),Vals xs its/\s.heap.get? p=some {cls:=.type "list",data:=.seq its.toArray n}/\xs.length<=sizeLine:=by
 obtain⟨z,its,n,r,e⟩:=I.hok p _ h
 exact⟨its,n,r,e,z⟩
theorem Inv.ML {pins:List (Addr×Obj)}{σ:St}{H:Hp}{s:Shared}{p:Addr}{xs ys:List V}{its its':List Value}{n n':Nat}{f:Obj->Obj}(I:Inv X pins σ H s)(h:H p=some (.lst xs))
  (ho:s.heap.get? p=some {cls:=.type "list",data:=.seq its.toArray n}) (hf:f {cls:=.type "list",data:=.seq its.toArray n}={cls:=.type "list",data:=.seq its'.toArray n'}) (r:Vals ys its') (hz:ys.length<=sizeLine) (t:Nat) :
  Inv X pins σ (upd H p (.lst ys)) {s with heap:=s.heap.update p f,toks:=t}:=by
 have e:(s.heap.update p f).get? p=some {cls:=.type "list",data:=.seq its'.toArray n'}:=by
  rw[Heap.get?_update_self f ho (by rw[hf]<;>rfl),hf]
 refine I.write (x:=p) (e:=p) (by rw[h];trivial) (.inl rfl) (λb u hb q=>(Heap.get?_update_other _ _ (acd hb)).trans q) ⟨_,e⟩ ?_
 exact⟨hz,its',n',r,e⟩
def Fz:V->V->V->Hp->(Hp->Prop)->Prop:=λo i v H Q=>∃ p xs k j,o=.ref p/\i=.int k/\H p=some (.lst xs)/\HX xs.length k=some j/\Q (upd H p (.lst (xs.set j v)))
theorem set_list:PF X Fz:=by
 intro pins s σ H o i v ov iv u Q I ro ri rv h
 obtain⟨p,xs,k,j,rfl,rfl,hp,hj,q⟩:=h
 cases ro
 obtain⟨t,rfl⟩:=ri
 obtain⟨its,n,r,ho,hz⟩:=I.lst hp
 obtain⟨h1,h2,h3,h4⟩:=Aq hj
 have hl:=r.length
 have hn:=mS
 have I':Inv X pins σ (upd H p (.lst (xs.set j v))) {s with heap:=s.heap.update p (Obj.mapSeq (·.setIfInBounds j u))}:=
  I.ML hp ho (yY its n j u) (r.set rv j) (by rw[ab8];exact hz) s.toks
 by_cases h0:0<=k
 ·have hk:k.toNat=j:=by
   rw[seqIndex_of h0 h4]at h1
   exact abD h1
  exact PySem.W.ki_setAt ho h0 (by lia) (by rw[abv,<-hl];exact h4) (by rw[hk];exact⟨_,I',q⟩)
 ·have hk:(k+(its.toArray.size:Int)).toNat=j:=by
   rw[seqIndex_neg (by lia) h3]at h1
   rw[abv,<-hl]
   exact abD h1
  exact PySem.W.ki_setBack ho (by lia) (by rw[abv,<-hl];exact h3) (by lia) (by rw[hk];exact⟨_,I',q⟩)
theorem vh (lo hi:Option Int)(n:Nat):(sliceBounds lo hi none n).1=((HT.eB n 0 lo:Nat):Int)/\(sliceBounds lo hi none n).2.1=((HT.eB n n hi:Nat):Int)/\(sliceBounds lo hi none n).2.2=1:=by
 refine⟨?_,?_,rfl⟩
 ·cases lo with
  |none=>simp[sliceBounds,HT.eB]
  |some i=>
   simp only[sliceBounds,HT.eB,Option.getD_none,show(1:Int)>0 by decide,if_true]
   by_cases h:i<0
   ·simp only[h,if_true]<;>lia
   ·simp only[h,acb]<;>lia
 ·cases hi with
  |none=>simp[sliceBounds,HT.eB]
  |some i=>
   simp only[sliceBounds,HT.eB,Option.getD_none,show(1:Int)>0 by decide,if_true]
   by_cases h:i<0
   ·simp only[h,if_true]<;>lia
   ·simp only[h,acb]<;>lia
theorem mz (its:List Value)(lo hi:Option Int):slicePick its.toArray lo hi none=((its.drop (HT.eB its.length 0 lo)).take (HT.eB its.length its.length hi-HT.eB its.length 0 lo)).toArray:=by
 obtain⟨h1,h2,h3⟩:=vh lo hi its.toArray.size
 unfold slicePick
 rw[h1,h2,h3]
 simp only[sliceRange_one,pick_run,abv]<;>rfl
def Ru (K:PySem.W.Frag):V->Option Int->Option Int->Hp->VK->Prop:=λx lo hi H Q=>∃ a xs,x=.ref a/\fh K H a xs/\∀ p,H p=none->Q (.ref p) (upd H p (.lst (vW xs lo hi)))
theorem Jt:Ha X (Ru X.K):=by
 intro pins s σ H x v vl vu lo hi sl Q I rx hs pl pu h
 obtain⟨a,xs,rfl,hx,q⟩:=h
 cases rx
 obtain⟨its,r,ht,hz⟩:=I.list hx
 have hlen:=r.length
 refine⟨"list",_,slot_list_getitem.lookup,ht.isList.typeIs,?_⟩
 refine wpAny_getItem_list_slice ht.isList hs pl pu .none (by simp) ?_ (by rw[abv]<;>lia)
 rw[mz,<-hlen]
 refine⟨.ref s.heap.objs.size,_,I.laid (t':=s.toks) (o:=.lst (vW xs lo hi)) (λb ob q=>abp _ q) (abl _) ?_,rfl,q _ (I.hok.fresh (abl _))⟩
 exact⟨abE (pz xs lo hi) hz,_,0,(r.drop (HT.eB xs.length 0 lo)).take (HT.eB xs.length xs.length hi-HT.eB xs.length 0 lo),abz _ rfl⟩
theorem uy:eC X (.builtin "len") (λxs H Q=>∃ p ys,xs=[.ref p]/\(fh X.K H p ys\/i8 X.K H p ys)/\Q (.int ys.length) H):=by
 intro pins s σ H xs us Q I r h
 obtain⟨p,ys,rfl,hq,q⟩:=h
 obtain⟨u,rfl,rx⟩:=vals1 r
 cases rx
 have hn:=mS
 rcases hq with hq | hq
 ·obtain⟨its,r',pl,hz⟩:=I.list hq
  have hlen:=r'.length
  exact Calls.call_len_list pl.isList (by simp only[abv]<;>lia) ⟨.int ys.length,H,I.tok _,⟨s.toks+1,by rw[abv,hlen]⟩,q⟩
 ·obtain⟨its,r',pl,hz⟩:=I.tuple hq
  have hlen:=r'.length
  exact len_tuple pl (by simp only[abv]<;>lia) ⟨.int ys.length,H,I.tok _,⟨s.toks+1,by rw[abv,hlen]⟩,q⟩
theorem uz:eC X (.builtin "len") (λxs H Q=>∃ z,xs=[.str z]/\z.length<=sizeLine/\Q (.int z.length) H):=by
 intro pins s σ H xs us Q I r h
 obtain⟨z,rfl,hz,q⟩:=h
 obtain⟨u,rfl,t,rfl⟩:=vals1 r
 have hn:=mS
 exact len_str (by lia) ⟨.int z.length,H,I.tok _,⟨_,rfl⟩,q⟩
theorem eC.or {f:Value}{r r':List V->Hp->VK->Prop}(h:eC X f r)(h':eC X f r'):eC X f (λxs H Q=>r xs H Q\/r' xs H Q):=by
 intro pins s σ H xs us Q I rs q
 rcases q with q | q
 ·exact h pins s σ H xs us Q I rs q
 ·exact h' pins s σ H xs us Q I rs q
theorem uA:eC X (.type "list") (λxs H Q=>∃ p ys,xs=[.ref p]/\(fh X.K H p ys\/i8 X.K H p ys)/\∀ l,H l=none->Q (.ref l) (upd H l (.lst ys))):=by
 intro pins s σ H xs us Q I r h
 obtain⟨p,ys,rfl,hq,q⟩:=h
 obtain⟨u,rfl,rx⟩:=vals1 r
 cases rx
 have fin:∀ (its:List Value),Vals ys its->ys.length<=sizeLine->∀ (h':Heap) (c':Nat),(∀ b o',s.heap.get? b=some o'->h'.get? b=some o')->
   h'.get? s.heap.objs.size=some {cls:=.type "list",dict:=none,data:=.seq its.toArray c',slots:=#[]}->EP X pins σ Q (.ref s.heap.objs.size) {s with heap:=h'}:=λits r' hz h' c' kp e=>
  ⟨.ref s.heap.objs.size,_,I.laid (t':=s.toks) kp (abl _) (show bD X.prog X.w _ h' _ (.lst ys) from⟨hz,its,c',r',e⟩),rfl,q _ (I.hok.fresh (abl _))⟩
 rcases hq with hq | hq
 ·obtain⟨its,r',pl,hz⟩:=I.list hq
  have hlen:=r'.length
  obtain⟨o,ho,hc,n,hd⟩:=pl.isList
  exact call_list_seq p (.inl rfl) ho hc hd (λh' c' kp e=>fin its r' hz h' c' kp e) (by simp only[abv]<;>lia)
 ·obtain⟨its,r',pl,hz⟩:=I.tuple hq
  have hlen:=r'.length
  obtain⟨o,ho,hc,n,hd⟩:=pl
  exact call_list_seq p (.inr rfl) ho hc hd (λh' c' kp e=>fin its r' hz h' c' kp e) (by simp only[abv]<;>lia)
theorem sC:eC X (.type "tuple") (λxs H Q=>∃ p ys,xs=[.ref p]/\((fh X.K H p ys/\∀ l,H l=none->Q (.ref l) (upd H l (.tup ys)))\/(i8 X.K H p ys/\Q (.ref p) H))):=by
 intro pins s σ H xs us Q I r h
 obtain⟨p,ys,rfl,h⟩:=h
 obtain⟨u,rfl,rx⟩:=vals1 r
 cases rx
 rcases h with⟨hq,q⟩ | ⟨hq,q⟩
 ·obtain⟨its,r',pl,hz⟩:=I.list hq
  have hlen:=r'.length
  refine call_tuple_list pl.isList (λh' kp=>?_) (by simp only[abv]<;>lia)
  have I1:Inv X pins σ H {s with heap:=h'}:=I.kept (t':=s.toks) kp
  have I2:Inv X pins σ (upd H h'.objs.size (.tup ys)) {s with heap:=h'.push {cls:=.type "tuple",data:=.seq its.toArray}}:=
   I1.laid (t':=s.toks) (λb o e=>abp _ e) (abl _) (show bD X.prog X.w _ _ _ (.tup ys) from⟨hz,its,r',f9.new _ _⟩)
  exact⟨.ref h'.objs.size,_,I2,rfl,q _ (I1.hok.fresh (abl _))⟩
 ·obtain⟨its,r',pl,hz⟩:=I.tuple hq
  exact call_tuple_same pl ⟨.ref p,H,I,rfl,q⟩
def TF (K:PySem.W.Frag)(T:String)(x:V)(H:Hp):Prop:=match x with
 |.str _=>T = "str"
 |.int _=>T = "int"
 |.ref p=>(T = "list"/\∃ xs,fh K H p xs)\/(T = "tuple"/\∃ o,K.lookup p=some o/\o.cls=.type "tuple"/\o.dict=none)\/
   (T = "dict"/\((∃ kvs,H p=some (.dK kvs))\/∃ kvs,H p=some (.dT kvs)))\/(T = "set"/\∃ S n,H p=some (.set S n))
 |_=>False
theorem Gz {pins:List (Addr×Obj)}{σ:St}{H:Hp}{s:Shared}{T:String}{x:V}{v:Value}(I:Inv X pins σ H s)(r:RelV x v)(ty:TF X.K T x H) :
  s.TypeIs v T/\∀ a,v=.ref a->∃ ob,s.heap.get? a=some ob/\ob.dict=none:=by
 cases x with
 |str z=>
  obtain⟨t,rfl⟩:=r
  cases(show T = "str" from ty)
  exact⟨typeIs_str s z t,λ_ e=>nomatch e⟩
 |int i=>
  obtain⟨t,rfl⟩:=r
  cases(show T = "int" from ty)
  exact⟨typeIs_int s i t,λ_ e=>nomatch e⟩
 |ref p=>
  cases r
  rcases ty with⟨rfl,xs,hq⟩ | ⟨rfl,o,hk,hc,hd⟩ | ⟨rfl,hk⟩ | ⟨rfl,S,n,hk⟩
  ·obtain⟨its,_,pl,_⟩:=I.list hq
   refine⟨pl.isList.typeIs,λa e=>?_⟩
   cases e
   obtain⟨o,n,e,c,hd,_⟩:=pl
   exact⟨o,e,hd⟩
  ·refine⟨⟨o,I.oH p o hk,hc⟩,λa e=>?_⟩
   cases e
   exact⟨o,I.oH _ o hk,hd⟩
  ·have z:∃ o,s.heap.get? p=some o/\o.ExactDict:=by
    rcases hk with⟨kvs,hk⟩ | ⟨kvs,hk⟩
    ·obtain⟨_,_,_,_,o,_,_,e,ex,_⟩:=I.hok p _ hk
     exact⟨o,e,ex⟩
    ·obtain⟨_,_,_,_,o,_,_,e,ex,_⟩:=I.hok p _ hk
     exact⟨o,e,ex⟩
   obtain⟨o,e,ex⟩:=z
   refine⟨⟨o,e,ex.1⟩,λa e2=>?_⟩
   cases e2
   exact⟨o,e,ex.2.1⟩
  ·obtain⟨o,_,_,_,e,ex,_⟩:=I.hok p _ hk
   refine⟨⟨o,e,ex.1⟩,λa e2=>?_⟩
   cases e2
   exact⟨o,e,ex.2.1⟩
 |_=>exact False.elim ty
def JE (K:PySem.W.Frag)(T:String)(r:V->List V->Hp->VK->Prop)(to:TE):TE:=λσ H Q=>to σ H λx H1=>TF K T x H1/\r x [] H1 Q
def RZ (K:PySem.W.Frag)(T:String)(r:V->List V->Hp->VK->Prop)(to:TE)(t:TA):TE:=λσ H Q=>to σ H λx H1=>TF K T x H1/\t σ H1 λxs H2=>r x xs H2 Q
variable {o e:Expr}{es:List Expr}{to:TE}{t:TA}{name:Str}{apos b7:Pos}{T id:String}{r:V->List V->Hp->VK->Prop}
theorem EZ (pa:PlainAttrs T)(slot:Slot T name id)(UZ:typeOf (.builtin id)=pure (.type "method_descriptor"))(hm:WA X id r)(ho:PE X o to)
  (nG:attributeBase o name X.env (eval o X.env)=eval o X.env:=by rfl) (nH:(apos.endLine == b7.line)=true:=by rfl):PE X (.Call (.Attribute o name apos) [] [] b7) (JE X.K T r to):=by
 intro pins s σ H Q I h
 refine wpAny_Call_method0_late nG nH (bK (ho pins s σ H _ I h) λv s1 ⟨x,H1,I1,r1,ty,q1⟩=>?_)
 obtain⟨h1,h2⟩:=Gz I1 r1 ty
 exact⟨T,id,pa,slot,UZ,h1,h2,Calls.callWith_builtin rfl (PySem.evalArgs_none (hm pins s1 σ H1 x [] v [] Q I1 r1 .nil q1))⟩
theorem EY (pa:PlainAttrs T)(slot:Slot T name id)(UZ:typeOf (.builtin id)=pure (.type "method_descriptor"))(hm:WA X id r)(ho:PE X o to)(ha:PA X (e::es) t)
  (nG:attributeBase o name X.env (eval o X.env)=eval o X.env:=by rfl)
  (Ea:((backTo b7 (starEach (e::es) X.env)).all (λx=>!x.1)&&(backToKw b7 (keywordEach [] X.env)).all (λx=>x.1.isSome)
   &&decide ((e::es).length+([]:List Keyword).length+(if ([]:List Keyword).isEmpty then 0 else 1)<30))=true:=by rfl)
  (nH:(apos.endLine == b7.line)=true:=by rfl) (hs:starEach (e::es) X.env=(false,eval e X.env)::starEach es X.env:=by rfl) (Md:(backTo b7 (starEach es X.env)).any (·.1)=false:=by rfl) :
  PE X (.Call (.Attribute o name apos) (e::es) [] b7) (RZ X.K T r to t):=by
 intro pins s σ H Q I h
 refine wpAny_Call_method_late nG Ea nH rfl (bK (ho pins s σ H _ I h) λv s1 ⟨x,H1,I1,r1,ty,q1⟩=>?_)
 obtain⟨h1,h2⟩:=Gz I1 r1 ty
 refine⟨T,id,pa,slot,UZ,h1,h2,?_⟩
 have hA:=ha b7 pins s1 σ H1 _ I1 q1
 rw[hs]at hA ⊢
 refine Calls.callWith_builtin (by show(false || (backTo b7 (starEach es X.env)).any (·.1))=false;rw[Md]<;>rfl) (Calls.evalArgs_plain ?_)
 exact bK hA λus s2 ⟨vs,H2,I2,r2,q2⟩=>hm pins s2 σ H2 x vs v us Q I2 r1 r2 q2
end
def Pz (X:Cx)(id:String)(r:V->List V->Hp->VK->Prop):Prop:=
 ∀ (pins:List (Addr×Obj)) (s:Shared) (σ:St) (H:Hp) (x:V) (xs:List V) (v:Value) (us:List Value) (Q:VK),Inv X pins σ H s->RelV x v->Vals xs us->r x xs H Q->
  wpAny (model X.prog X.w) X.A (call (.builtin id) (v::us)) (EP X pins σ Q) X.xe s
theorem Vals.one {x:V}{us:List Value}(h:Vals [x] us):∃ u,us=[u]/\RelV x u:=by
 obtain _ | ⟨r,_ | _⟩:=h;exact⟨_,rfl,r⟩
theorem Vals.two {x y:V}{us:List Value}(h:Vals [x,y] us):∃ u v,us=[u,v]/\RelV x u/\RelV y v:=by
 obtain _ | ⟨r,_ | ⟨q,_ | _⟩⟩:=h;exact⟨_,_,rfl,r,q⟩
theorem Vals.zero:∀ {us:List Value},Vals [] us->us=[]
 |_,.nil=>rfl
theorem Vals.dropLast {xs:List V}{us:List Value}(h:Vals xs us):Vals xs.dropLast us.dropLast:=by
 induction h with
 |nil=>exact .nil
 |cons r t ih=>
  cases t with
  |nil=>exact .nil
  |cons q t'=>exact .cons r ih
theorem Vals.reverse {xs:List V}{us:List Value}(h:Vals xs us):Vals xs.reverse us.reverse:=by
 induction h with
 |nil=>exact .nil
 |cons r t ih=>rw[List.reverse_cons,List.reverse_cons];exact Vals.append ih (.cons r .nil)
theorem Vals.rep {xs:List V}{us:List Value}(h:Vals xs us):∀ k:Nat,Vals (List.replicate k xs).flatten (List.replicate k us).flatten
 |0=>.nil
 |k+1=>by
  rw[ach,ach,List.flatten_cons,List.flatten_cons]
  exact Vals.append h (Vals.rep h k)
theorem yw {α:Type}(l:List α):l.eraseIdx (l.length-1)=l.dropLast:=by
 induction l with
 |nil=>rfl
 |cons a r ih=>
  cases r with
  |nil=>rfl
  |cons b r=>
   have e:(a::b::r).length-1=((b::r).length-1)+1:=by
    have h1:(a::b::r).length=r.length+2:=rfl
    have h2:(b::r).length=r.length+1:=rfl
    lia
   rw[e,List.eraseIdx_cons_succ,ih]
   all_goals rfl
theorem foldl_rep (its:List Value):∀ (k:Nat) (acc:List Value),
  List.foldl (λx1 x2=>x1++x2) acc.toArray (List.replicate k its.toArray)=(acc++(List.replicate k its).flatten).toArray
 |0,acc=>by simp
 |k+1,acc=>by
  have e:acc.toArray++its.toArray=(acc++its).toArray:=by simp
  have e2:(acc++its)++(List.replicate k its).flatten=acc++(List.replicate (k+1) its).flatten:=by
   rw[ach,List.flatten_cons,aca]
  rw[<-e2,<-foldl_rep its k (acc++its),<-e,ach,List.foldl_cons]
section
variable {X:Cx}{pins:List (Addr×Obj)}{σ:St}{H:Hp}{s:Shared}{l:Addr}{xs ys:List V}
theorem Inv.EC {its its':List Value}{n:Nat}{f:Array Value->Array Value}{t':Nat}(I:Inv X pins σ H s)(hH:H l=some (.lst xs))
  (e:s.heap.get? l=some {cls:=.type "list",data:=.seq its.toArray n}) (hf:f its.toArray=its'.toArray) (hv:Vals ys its') (hz:ys.length<=sizeLine) :
  Inv X pins σ (upd H l (.lst ys)) {s with heap:=s.heap.update l (Obj.mapSeq f),toks:=t'}:=by
 have q:=PySem.IsL.update e f
 rw[hf]at q
 refine I.write (x:=l) (e:=l) (by rw[hH];exact trivial) (.inl rfl) (λb' u hb hu=>(Heap.get?_update_other s.heap (Obj.mapSeq f) (acd hb)).trans hu) ⟨_,q⟩ ?_
 exact⟨hz,its',_,hv,q⟩
theorem Inv.Ik {its:List Value}{t':Nat}(I:Inv X pins σ H s)(hv:Vals ys its)(hz:ys.length<=sizeLine) :
  Inv X pins σ (upd H s.heap.objs.size (.lst ys)) {s with heap:=s.heap.push {cls:=.type "list",data:=.seq its.toArray},toks:=t'}:=
 I.laid (λ_ _ q=>abp _ q) (abl _) ⟨hz,its,0,hv,abz _ rfl⟩
theorem Inv.fresh (I:Inv X pins σ H s):H s.heap.objs.size=none:=I.hok.fresh (abl _)
theorem Inv.wN (I:Inv X pins σ H s)(hH:H l=some (.lst xs)):xs.length<=sizeLine/\∃ (its:List Value) (n:Nat),Vals xs its/\xs.length=its.length/\s.heap.get? l=some {cls:=.type "list",data:=.seq its.toArray n}:=by
 obtain⟨z,its,n,r,e⟩:=I.hok l _ hH
 exact⟨z,its,n,r,r.length,e⟩
theorem EL {n:Nat}(h:n<=sizeLine):Builtin.List.listTooLong n=false:=by
 unfold Builtin.List.listTooLong
 exact acq (by lia)
end
section
variable {X:Cx}
def vb:V->List V->Hp->VK->Prop:=λx vs H Q=>∃ l xs y,x=.ref l/\vs=[y]/\H l=some (.lst xs)/\xs.length<sizeLine/\Q .aq (upd H l (.lst (xs++[y])))
theorem oO:Pz X "list.append" vb:=by
 intro pins s σ H x vs v us Q I rx rv h
 obtain⟨l,xs,y,rfl,rfl,hH,hz,q⟩:=h
 cases rx
 obtain⟨u,rfl,ru⟩:=rv.one
 obtain⟨z,its,n,r,hl,e⟩:=I.wN hH
 refine call_meets F.slot_list_append ⟨_,e,rfl⟩ F.entry_list_append (F.args_list_append_2 _ _) (PySem.list_append l its.toArray n u (by rw[abv];lia)) ⟨e,?_⟩
 refine⟨.aq,_,I.EC (its':=its++[u]) hH e (by simp) (r.append (.cons ru .nil)) ?_,rfl,q⟩
 rw[aby,List.length_singleton]
 lia
def vc:V->List V->Hp->VK->Prop:=λx vs H Q=>∃ l b xs zs,x=.ref l/\vs=[.ref b]/\H l=some (.lst xs)/\H b=some (.lst zs)/\xs.length+zs.length<=sizeLine/\Q .aq (upd H l (.lst (xs++zs)))
theorem B1:Pz X "list.extend" vc:=by
 intro pins s σ H x vs v us Q I rx rv h
 obtain⟨l,b,xs,zs,rfl,rfl,hH,hB,hz,q⟩:=h
 cases rx
 obtain⟨u,rfl,ru⟩:=rv.one
 cases ru
 obtain⟨z,its,n,r,hl,e⟩:=I.wN hH
 obtain⟨z2,sI,n2,r2,Zp,e2⟩:=I.wN hB
 have hsz:its.toArray.size+sI.toArray.size<=sizeLine:=by rw[abv,abv];lia
 have QA:¬ (!its.toArray.isEmpty&&Builtin.List.listTooLong (its.toArray.size+sI.toArray.size))=true:=by
  rw[EL hsz,Bool.and_false]
  exact abA
 refine call_meets F.slot_list_extend ⟨_,e,rfl⟩ F.entry_list_extend (F.args_list_extend_2 _ _)
  (AutoSeq1.list_extend_list_list_0 l its.toArray n b sI.toArray n2 QA (by rw[abv];lia) (by lia)) ⟨e,e2,?_⟩
 refine⟨.aq,_,I.EC (its':=its++sI) hH e (by simp) (r.append r2) ?_,rfl,q⟩
 rw[aby]
 lia
def NF:V->List V->Hp->VK->Prop:=λx vs H Q=>∃ l xs y,x=.ref l/\vs=[]/\H l=some (.lst xs)/\xs[xs.length-1]?=some y/\Q y (upd H l (.lst xs.dropLast))
theorem MQ:Pz X "list.pop" NF:=by
 intro pins s σ H x vs v us Q I rx rv h
 obtain⟨l,xs,y,rfl,rfl,hH,hy,q⟩:=h
 cases rx
 have QE:=rv.zero
 subst QE
 obtain⟨z,its,n,r,hl,e⟩:=I.wN hH
 obtain⟨u,hu,ru⟩:=r.get hy
 have ZJ:its.toArray[its.toArray.size-1]?=some u:=by
  show its.toArray[its.length-1]?=some u
  rw[<-Array.getElem?_toList,<-hl]
  exact hu
 refine call_meets F.slot_list_pop ⟨_,e,rfl⟩ F.entry_list_pop (F.args_list_pop_1 _) (MeetsSeq.list_pop_last l its.toArray n u ZJ (by rw[abv];lia)) ⟨e,?_⟩
 refine⟨y,_,I.EC (its':=its.dropLast) hH e ?_ r.dropLast ?_,ru,q⟩
 ·show its.toArray.eraseIdxIfInBounds (its.toArray.size-1)=its.dropLast.toArray
  rw[abv,List.eraseIdxIfInBounds_toArray,yw]
 ·rw[List.length_dropLast]
  lia
def rO:V->List V->Hp->VK->Prop:=λx vs H Q=>∃ l xs,x=.ref l/\vs=[]/\H l=some (.lst xs)/\Q .aq (upd H l (.lst xs.reverse))
theorem yZ:Pz X "list.reverse" rO:=by
 intro pins s σ H x vs v us Q I rx rv h
 obtain⟨l,xs,rfl,rfl,hH,q⟩:=h
 cases rx
 have QE:=rv.zero
 subst QE
 obtain⟨z,its,n,r,hl,e⟩:=I.wN hH
 refine call_meets F.slot_list_reverse ⟨_,e,rfl⟩ F.entry_list_reverse (F.args_list_reverse_1 _) (AutoSeq1.list_reverse_list_0 l its.toArray n (by rw[abv];lia)) ⟨e,?_⟩
 refine⟨.aq,_,I.EC (its':=its.reverse) hH e (by simp) r.reverse ?_,rfl,q⟩
 rw[List.length_reverse]
 lia
def Rl:R2:=λx y H Q=>∃ l b xs zs,x=.ref l/\y=.ref b/\H l=some (.lst xs)/\H b=some (.lst zs)/\xs.length+zs.length<=sizeLine/\∀ p,H p=none->Q (.ref p) (upd H p (.lst (xs++zs)))
theorem M0:lV X (binaryOp .Add) Rl:=by
 intro pins s σ H x y v u Q I rx ry h
 obtain⟨l,b,xs,zs,rfl,rfl,hH,hB,hz,q⟩:=h
 cases rx
 cases ry
 obtain⟨z,its,n,r,hl,e⟩:=I.wN hH
 obtain⟨z2,sI,n2,r2,Zp,e2⟩:=I.wN hB
 refine PySem.P.add_list e e2 ?_ (by rw[abv,abv];lia)
 have ea:its.toArray++sI.toArray=(its++sI).toArray:=by simp
 rw[ea]
 exact⟨.ref _,_,I.Ik (t':=s.toks) (r.append r2) (by rw[aby];lia),rfl,q _ I.fresh⟩
theorem len_rep {α:Type}(xs:List α)(k:Nat):(List.replicate k xs).flatten.length=k*xs.length:=by
 induction k with
 |zero=>simp
 |succ k ih=>rw[ach,List.flatten_cons,aby,ih,Nat.succ_mul,Nat.add_comm]
end
end L2
namespace Att
open PySem PySem.W PySem.Calls PyProof.Rows
theorem pZ {P:Params}{h:Heap}:∀ (ns:List Int) (vs:List Value),WellAll P h vs (ns.map WData.int)->IntsAre vs ns:=by
 intro ns
 induction ns with
 |nil=>
  intro vs w
  rw[List.map_nil]at w
  cases w
  exact .nil
 |cons n ns ih=>
  intro vs w
  rw[abH]at w
  cases w with
  |cons a b=>
   cases a
   exact .cons _ _ (ih _ b)
theorem Cp {l:OpenLaw}{n:Nat}(hn:l.most=some n){P:Params}{h:Heap}{args:List WData}{vals:List Value}
  (HW:l.row.toRowW.claim.pre args=true) (U0:WellAll P h vals args) :
  ∃ a vs ns,vals=[Value.ref a]/\args=[WData.list (ns.map WData.int)]/\h.get? a=some {cls:=.type "list",data:=.seq vs.toArray}/\IntsAre vs ns/\ns.length<=n:=by
 have ZF:WShape.hasAll [] args [.list .int]=true:=(pre_splitW HW).1
 have hc:l.pre.holds [] {args:=args}=true:=(pre_splitW HW).2
 obtain⟨d,r,rfl,h1,h2⟩:=hasAllW_cons ZF
 obtain rfl:=hasAllW_nil h2
 obtain⟨xs,rfl,h3⟩:=hasW_list h1
 obtain⟨ns,rfl⟩:=items_int h3
 have hlen:ns.length<=n:=by
  unfold OpenLaw.pre at hc
  have h4:(WTm.not (.lt (.lit (.int (n:Int))) (.len (.arg 0)))).holds [] {args:=[.list (ns.map .int)]}=true:=by
   have h4:=(holds_andW hc).1
   rw[hn]at h4
   exact h4
  have h5:=condW_of h4 (w_not (w_lt w_lit (w_len_list (w_arg rfl))))
  rw[ab1]at h5
  refine Nat.le_of_not_lt λq=>?_
  have q':(n:Int)<((ns.length:Nat):Int):=by lia
  first
   |(rw[decide_eq_true q']at h5;exact absurd h5 (by decide))
   |(simp at h5;lia)
 cases U0 with
 |cons w1 w2=>
  cases w2
  cases w1 with
  |list ho hall=>exact⟨_,_,ns,rfl,rfl,ho,pZ ns _ hall,hlen⟩
theorem Ck (l:OpenLaw)(args:List WData):l.row.toRowW.claim.post args (.bool true) args=true:=
 postW_of (r:=l.row.toRowW) (X:=(true == true))
  (show WShape.has [] (.bool true) .bool=true by first | rfl | decide | simp[WShape.has,WShape.arms,WShape.armsAll])
  (show(WTm.eq .res (.lit (.bool true))).value [] {args:=args,res:=some (.bool true),after:=args}=some (.bool (true == true)) from w_eq_bool (w_res rfl) w_lit) rfl
theorem vL {l:OpenLaw}{n:Nat}{q:Program}{loose:List Str}{XP:(Str->Option Value)->Heap->Prop}{YP:World->Heap->Prop}{d:DefRec}
  (hn:l.most=some n) (Qv:d.params.defaults=[])
  (call:∀ (w:World) (s₀ s₁:Shared) (mg mb:Str->Option Value) (fa:Addr) (o:Obj) (pm cd doc:Value) (a:Addr) (vs:List Value) (ns:List Int),
   Ground q loose [] XP w s₀ mg mb s₁.heap->YP w s₁.heap->
   s₁.heap.get? fa=some o->o.data=.func (docDef d.name d.params d.body d.scope pm cd doc)->s₁.heap.CodeRec cd d.name->mg d.name=some (.ref fa)->
   s₁.heap.get? a=some {cls:=.type "list",data:=.seq vs.toArray}->IntsAre vs ns->ns.length<=n->s₁.gens=#[]->
   codeAny (model l.prog w) callerA (.call (.ref fa) ⟨[.ref a],[]⟩) (λr s'=>r=.ok (.ret (.bool true))/\OldK s₁.heap s'.heap/\s'.os=s₁.os/\AllBare s'.gens) s₁) :
  WalkO q loose XP YP l.row.toRowW d [] (λf vs=>PySem.call f vs):=by
 intro w s₀ s₁ mg mb G Y fa o pm cd doc dV kV ho hd HN hD UP hg args vals as HW Zq hrd U0 hlo
 obtain rfl:dV=.none:=Dflts.none hD Qv
 obtain rfl:kV=.none:=Dflts.noKw hD
 obtain⟨a,vs,ns,rfl,rfl,Mc,hints,hlen⟩:=Cp hn HW U0
 refine enter_call (codeAny_mono (call w s₀ s₁ mg mb fa o pm cd doc a vs ns G Y ho (fd_plain hd) HN UP Mc hints hlen hg) λr s' hq=>?_)
 obtain⟨rfl,h2,h3,h4⟩:=hq
 exact⟨.inl ⟨.bool true,.bool true,[],rfl,λ_=>rfl,.bool true,Ck l _,λ_=>⟨List.Pairwise.nil,λ_ hm=>(nomatch hm)⟩⟩,h2,h3,h4⟩
end Att
namespace L2
open PySem PySem.Spec PyProof.Rows
theorem um:∀ {vs:List Value}{ns:List Int},IntsAre vs ns->Vals (ns.map V.int) vs
 |_,_,.nil=>.nil
 |_,_,.cons n t h=>.cons ⟨t,rfl⟩ (um h)
def G8 (H:Hp):Prop:=∀ b,H b=none\/∃ o xs,H b=some (.dE o (.lst xs))
theorem Eu {P:Program}{w:World}{K:PySem.W.Frag}{mg mb:Str->Option Value}{CX:Bb}{k:Nat}{fa a:Addr}{fd:FuncData}{x:Str}{sp:Sp}{s₁:Shared}{vs:List Value}{ns:List Int}
  (KX:K.In s₁.heap) (O5:s₁.heap.Ns mainGlobals mg) (hb:s₁.heap.Ns builtinsNs mb) (Y6:∀ x:Str,x≠"__name__"->mb x=bootBuiltins x) (UN:s₁.heap.NoLimit) (hg:s₁.gens=#[])
  (ha:s₁.heap.get? a=some {cls:=.type "list",data:=.seq vs.toArray}) (hi:IntsAre vs ns) (hl:ns.length<=sizeLine) (hr:d3 k callerA)
  (F:∀ base:Heap,K.In base->base.Ns mainGlobals mg->dA P w K mg base CX k fa fd [x] sp) (Qu:∀ (s:Shared) (u:Value),BindsTo s fd ⟨[u],[]⟩ [(x,u)])
  (hsp:∀ H:Hp,G8 H->fh K H a (ns.map V.int)->sp [.ref a] H (λv _=>v=.bl true) λ_ _ _=>False)
  (hCX:∀ H e s',CX [] H s₁ (λ_ _ _=>False) e s'->False) :
  codeAny (model P w) callerA (.call (.ref fa) ⟨[.ref a],[]⟩) (λr s'=>r=.ok (.ret (.bool true))/\OldK s₁.heap s'.heap/\s'.os=s₁.os/\AllBare s'.gens) s₁:=by
 have rv:=um hi
 have Vk:=hi.length
 have core:∀ H:Hp,G8 H->fh K H a (ns.map V.int)->jU P w H s₁.heap->(∀ b,H b≠none->b=a)->(H a≠none->K.lookup a=none)->
   codeAny (model P w) callerA (.call (.ref fa) ⟨[.ref a],[]⟩) (λr s'=>r=.ok (.ret (.bool true))/\OldK s₁.heap s'.heap/\s'.os=s₁.os/\AllBare s'.gens) s₁:=by
  intro H hO hS hok hA hK
  have dC:∀ {b:Addr}{o:Obj},s₁.heap.get? b=some o->H b=none->(uO s₁.heap H).get? b=some o:=λe n=>Ec e n
  have noA:∀ {b:Addr}{o:Obj}{es:Array DictEntry}{ep:Nat},s₁.heap.get? b=some o->o.data=.dict es ep->H b=none:=λ{b o es ep} e d=>by
   cases q:H b with
   |none=>rfl
   |some u=>
    have e':b=a:=hA b (by rw[q];simp)
    subst e'
    rw[ha]at e;cases e
    have d':Data.seq vs.toArray _=Data.dict es ep:=d
    cases d'
  have nsK:∀ {b:Addr}{m:Str->Option Value},s₁.heap.Ns b m->(uO s₁.heap H).Ns b m:=λ{b m} ⟨o,es,ep,e,d,r⟩=>⟨o,es,ep,dC e (noA e d),d,r⟩
  have Xd:K.In (uO s₁.heap H):=λb o e=>dC (KX b o e) (by
   cases q:H b with
   |none=>rfl
   |some u=>
    have e':b=a:=hA b (by rw[q];simp)
    subst e'
    rw[hK (by rw[q];simp)]at e;cases e)
  have hM:Mod K mg (uO s₁.heap H):=⟨Xd,nsK O5,⟨mb,nsK hb,Y6⟩,let ⟨mc,h1,h2⟩:=UN;⟨mc,nsK h1,h2⟩⟩
  have e0:xQ P w K mg (uO s₁.heap H) callerA [] s₁ H:=⟨rfl,hM,λb o e=>IF e,Nat.le_of_eq (BH _ _),trivial,λb hb=>absurd (show b∈([]:List Addr) from hb) (by simp),hok,.of_eq hg⟩
  refine codeAny_mono ((F _ Xd (nsK O5)).run callerA [] s₁ H ⟨[.ref a],[]⟩ [.ref a] [.ref a] _ _ hr e0 (Qu s₁ (.ref a)) (.cons rfl .nil) (hsp H hO hS)) λr s' h=>?_
  cases r with
  |error e=>exact(hCX H e s' h).elim
  |ok fl=>
   cases fl with
   |next=>exact False.elim h
   |brk=>exact False.elim h
   |cont=>exact False.elim h
   |ret u=>
    obtain⟨v,H',os,bare,un,US,r',q⟩:=h
    have q':v=.bl true:=q
    subst q'
    obtain rfl:u=Value.bool true:=r'
    refine⟨rfl,OldK.of_keep λb o e=>?_,os,bare⟩
    cases q:H b with
    |none=>exact un.keep b o e q (by intro z;exact absurd (show b∈([]:List Addr) from z) (by simp)) (by simp)
    |some u=>
     rcases hO b with z | ⟨ob,xs,z⟩
     ·rw[q]at z;cases z
     ·have z2:=un.frzs b ob _ z
      obtain⟨e1,_⟩:=hok b _ z
      obtain⟨e2,_⟩:=US b _ z2
      rw[e]at e1;cases e1
      exact e2
 cases hk:K.lookup a with
 |some o=>
  have e:=KX a o hk
  rw[ha]at e
  cases e
  refine core (λ_=>none) (λ_=>.inl rfl) (.inr ⟨_,vs.toArray,_,hk,rfl,rfl,rfl,by rw[abv,Vk];exact hl,by simpa using rv⟩) (λb u z=>by have z':(none:Option HO)=some u:=z;cases z') (λb z=>absurd rfl z) λz=>absurd rfl z
 |none=>
  refine core (λb=>if b=a then some (.dE {cls:=.type "list",data:=.seq vs.toArray} (.lst (ns.map V.int))) else none) (λb=>?_) (.inl (.inr ⟨{cls:=.type "list",data:=.seq vs.toArray},abr rfl⟩)) (λb u z=>?_) (λb z=>?_) λ_=>hk
  ·by_cases hb:b=a
   ·exact .inr ⟨_,_,abr hb⟩
   ·exact .inl (abo hb)
  ·by_cases hb:b=a
   ·have z':=(abr hb).symm.trans z
    cases z'
    subst hb
    exact⟨ha,by rw[ab1];exact hl,vs,_,rv,ha⟩
   ·have z':=(abo hb).symm.trans z
    cases z'
  ·by_cases hb:b=a
   ·exact hb
   ·exact absurd (abo hb) z
theorem JU {l:PySem.W.OpenLaw}{n k:Nat}{q:Program}{loose:List Str}{XP:(Str->Option Value)->Heap->Prop}{YP:World->Heap->Prop}{d:DefRec}{K:Params->PySem.W.Frag}{CX:World->Bb}{sp:World->Sp}{x:Str}
  (hn:l.most=some n) (O4:n<=sizeLine) (Qv:d.params.defaults=[]) (hr:d3 k callerA)
  (hY:∀ (w:World) (h:Heap),YP w h->(K w.params).In h)
  (F:∀ (w:World) (mg:Str->Option Value) (fa:Addr) (h:Heap),(K w.params).In h->h.Ns mainGlobals mg->mg d.name=some (.ref fa)->
   ∃ fd:FuncData,(∀ (s:Shared) (u:Value),BindsTo s fd ⟨[u],[]⟩ [(x,u)])/\
    ∀ base:Heap,(K w.params).In base->base.Ns mainGlobals mg->dA l.prog w (K w.params) mg base (CX w) k fa fd [x] (sp w))
  (hsp:∀ (w:World) (H:Hp) (a:Addr) (ns:List Int),ns.length<=n->G8 H->fh (K w.params) H a (ns.map V.int)->sp w [.ref a] H (λv _=>v=.bl true) λ_ _ _=>False)
  (hCX:∀ (w:World) (H:Hp) (s:Shared) (e:Value) (s':Shared),CX w [] H s (λ_ _ _=>False) e s'->False) :
  PySem.W.WalkO q loose XP YP l.row.toRowW d [] (λf vs=>PySem.call f vs):=by
 refine Att.vL hn Qv λw s₀ s₁ mg mb fa o pm cd doc a vs ns G Y ho hd HN UP Mc hints hlen hg=>?_
 have KX:=hY w _ Y
 obtain⟨fd,hb,hF⟩:=F w mg fa _ KX G.T.g UP
 exact Eu KX G.T.g G.T.b G.T.builtins G.T.nolimit hg Mc hints (abE hlen O4) hr hF hb (λH hO hS=>hsp w H a ns hlen hO hS) λH e s'=>hCX w H s₁ e s'
noncomputable def inClass (s:Stmt)(j:Nat):Stmt:=match s with
 |.ClassDef _ _ _ body _ _ _ _ _ _ _=>body.getD j (.Pass ⟨0,0,0,0⟩)
 |_=>.Pass ⟨0,0,0,0⟩
noncomputable def lM (s:Stmt):Arguments:=match s with
 |.FunctionDef _ a _ _ _ _ _ _ _ _=>a
 |_=>{posonlyargs:=[],args:=[],vararg:=none,kwonlyargs:=[],kw_defaults:=[],kwarg:=none,defaults:=[]}
noncomputable def eN (s:Stmt):List Stmt:=match s with
 |.FunctionDef _ _ b _ _ _ _ _ _ _=>b
 |_=>[]
noncomputable def aC (s:Stmt):Scope:=match s with
 |.FunctionDef _ _ _ _ _ _ sc _ _ _=>sc
 |_=>{kind:=.function,names:=[],isGenerator:=false,isCoroutine:=false}
abbrev sx:Bb:=λ_ _ _ _ _ _=>False
abbrev E0:XK:=λ_ _ _=>False
theorem xj {X:Cx}:Passes sx X E0:=λ_ _ _ _ _ _ _ h=>h.elim
structure CK (K:PySem.W.Frag)(x qual:Str)(st:Stmt)(f:Addr)(fd:FuncData):Prop where
 ex:∃ (oc:Value) (od:Option Addr) (kV doc pm:Value) (an:Option Addr) (kj ct:Value) (CT:Array (Option Value)),
  fd=PySem.W.fnOf x qual (lM st) (eN st) (aC st) .none kV doc pm an kj ct/\K.lookup f=some ⟨oc,od,.func fd,CT⟩/\PySem.W.codeIn K kj qual=true
 kp:PySem.W.keepIn K (.ref f)=true
section
variable {P:Program}{w:World}{K:PySem.W.Frag}{mg:Str->Option Value}{base:Heap}
theorem CK.ok {x qual:Str}{st:Stmt}{f:Addr}{fd:FuncData}{N ps:List Str}{k:Nat}{sp:Sp}(F:CK K x qual st f fd)(S:ja N ps (aC st))(len:∀ vs H Q E,sp vs H Q E->vs.length=ps.length)
  (D8:∀ (kj:Value) (A:Around) (outer:List Env) (s:Shared) (H:Hp) (vs:List V) (Q:VK) (E:XK),d3 k (A.deeper (envOfC qual (aC st) s.heap.objs.size f kj))->sp vs H Q E->
   ∃ t,xT (yq sx P w K mg base N qual (aC st) f kj A outer s H E).Q2 (eN st) t/\t {nx:=λ_ H'=>Q .aq H',rt:=Q} (start N vs) H):dA P w K mg base sx (k+1) f fd ps sp:=by
 obtain⟨oc,od,kV,doc,pm,an,kj,ct,CT,rfl,lk,HN⟩:=F.ex
 refine Qm lk HN S len λA outer s H vs Q E hr hsp=>?_
 obtain⟨t,h,q⟩:=D8 kj A outer s H vs Q E hr hsp
 exact⟨t,h.Q2,q⟩
theorem CK.binds {x qual:Str}{st:Stmt}{f:Addr}{fd:FuncData}{ps:List Str}(F:CK K x qual st f fd)
  (h:∀ (kV doc pm:Value) (an:Option Addr) (kj ct:Value) (us:List Value),us.length=ps.length->bindArgs (PySem.W.fnOf x qual (lM st) (eN st) (aC st) .none kV doc pm an kj ct) ⟨us,[]⟩=pure (ps.zip us)):Binds K fd ps []:=by
 obtain⟨oc,od,kV,doc,pm,an,kj,ct,CT,rfl,lk,HN⟩:=F.ex
 exact .all (h kV doc pm an kj ct)
theorem DU {x qual:Str}{st:Stmt}{f:Addr}{oc:Value}{od an:Option Addr}{CT:Array (Option Value)}{kV doc pm kj ct:Value}(l:K.lookup f=some ⟨oc,od,.func (PySem.W.fnOf x qual (lM st) (eN st) (aC st) .none kV doc pm an kj ct),CT⟩)
  (c:PySem.W.codeIn K kj qual=true) (k:PySem.W.keepIn K (.ref f)=true):CK K x qual st f (PySem.W.fnOf x qual (lM st) (eN st) (aC st) .none kV doc pm an kj ct):=⟨⟨oc,od,kV,doc,pm,an,kj,ct,CT,rfl,l,c⟩,k⟩
end
end L2
namespace S
theorem nk {α:Type}{x:α}{P:Prop}(e:(none:Option α)=some x):P:=nomatch e
open PySem L2
class KF where
 K:PySem.W.Frag
def TU (K:PySem.W.Frag)(a:Addr)(xs:List V):Prop:=∃ (o:Obj) (its:Array Value) (n:Nat),K.lookup a=some o/\o.cls=.type "list"/\o.dict=none/\o.data=.seq its n/\its.size<=sizeLine/\Vals xs its.toList
def ModT (K:PySem.W.Frag)(a:Addr)(xs:List V):Prop:=∃ (o:Obj) (its:Array Value) (n:Nat),K.lookup a=some o/\o.cls=.type "tuple"/\o.data=.seq its n/\its.size<=sizeLine/\Vals xs its.toList
variable [kf:KF]
inductive U where
 |aq | bl (b:Bool) | int (i:Int) | str (x:Str) | tup (xs:List U) | ref (n:Nat)
 |lst (xs:List U) | dK (kvs:List (Key×U)) | dT (kvs:List (NK.KD×U))
 |eA (xs:List U) | iY (xs:List U)
inductive MO where
 |lst (xs:List U)
 |dK (kvs:List (Key×U))
 |dT (kvs:List (NK.KD×U))
 |fT (kvs:List (NK.KD×U))
 |ins (C:Addr) (fs:List (Str×U))
abbrev MH:=List MO
abbrev bG:=List (Option U)
mutual
inductive Rel [kf:KF](ι:List Addr)(H:Hp):U->V->Prop
 |aq:Rel ι H .aq .aq
 |bl {b:Bool}:Rel ι H (.bl b) (.bl b)
 |int {i:Int}:Rel ι H (.int i) (.int i)
 |str {x:Str}:Rel ι H (.str x) (.str x)
 |tup {a:Addr} {us:List U} {vs:List V}:H a=some (.tup vs)->aH ι H us vs->Rel ι H (.tup us) (.ref a)
 |ref {n:Nat} {a:Addr}:ι[n]?=some a->Rel ι H (.ref n) (.ref a)
 |lst {a:Addr} {us:List U} {vs:List V}:a∉ι->H a=some (.lst vs)->aH ι H us vs->Rel ι H (.lst us) (.ref a)
 |dK {a:Addr} {kvs:List (Key×U)} {aF:List (Key×V)}:a∉ι->H a=some (.dK aF)->kvs.map (·.1)=aF.map (·.1)->aH ι H (kvs.map (·.2)) (aF.map (·.2))->Rel ι H (.dK kvs) (.ref a)
 |dT {a:Addr} {kvs:List (NK.KD×U)} {aF:List (NK.KD×V)}:a∉ι->H a=some (.dT aF)->kvs.map (·.1)=aF.map (·.1)->aH ι H (kvs.map (·.2)) (aF.map (·.2))->Rel ι H (.dT kvs) (.ref a)
 |eA {a:Addr} {us:List U} {vs:List V}:(a∉ι/\∃ o,H a=some (.dE o (.lst vs)))\/TU kf.K a vs->aH ι H us vs->Rel ι H (.eA us) (.ref a)
 |iY {a:Addr} {us:List U} {vs:List V}:ModT kf.K a vs->aH ι H us vs->Rel ι H (.iY us) (.ref a)
inductive aH [kf:KF](ι:List Addr)(H:Hp):List U->List V->Prop
 |nil:aH ι H [] []
 |cons {u:U} {v:V} {us:List U} {vs:List V}:Rel ι H u v->aH ι H us vs->aH ι H (u::us) (v::vs)
end
inductive vH [kf:KF](ι:List Addr)(H:Hp):Option U->Option V->Prop
 |any {o:Option V}:vH ι H none o
 |some {u:U} {v:V}:Rel ι H u v->vH ι H (some u) (some v)
inductive cK [kf:KF](ι:List Addr)(H:Hp):bG->St->Prop
 |nil:cK ι H [] []
 |cons {o:Option U} {p:Option V} {r:bG} {q:St}:vH ι H o p->cK ι H r q->cK ι H (o::r) (p::q)
inductive aX [kf:KF]{κ:Type}(ι:List Addr)(H:Hp):List (κ×U)->List (κ×V)->Prop
 |nil:aX ι H [] []
 |cons {k:κ} {u:U} {v:V} {r:List (κ×U)} {q:List (κ×V)}:Rel ι H u v->aX ι H r q->aX ι H ((k,u)::r) ((k,v)::q)
def gP (ι:List Addr)(H:Hp)(a:Addr):MO->Prop
 |.lst us=>∃ vs,H a=some (.lst vs)/\aH ι H us vs
 |.dK kvs=>∃ aF,H a=some (.dK aF)/\aX ι H kvs aF
 |.dT kvs=>∃ aF,H a=some (.dT aF)/\aX ι H kvs aF
 |.fT kvs=>∃ o aF,H a=some (.dE o (.dT aF))/\aX ι H kvs aF
 |.ins C fs=>∃ dx tH,H a=some (.ins C dx tH)/\aX ι H fs tH
structure aE (ι:List Addr)(H:Hp)(h:MH):Prop where
 len:ι.length=h.length
 nd:ι.Nodup
 obj:∀ (n:Nat) (a:Addr) (o:MO),ι[n]?=some a->h[n]?=some o->gP ι H a o
structure Ext (ι:List Addr)(H:Hp)(ι':List Addr)(H':Hp):Prop where
 pre:∃ r,ι'=ι++r
 keep:∀ a o,a∉ι->H a=some o->H' a=some o
 fresh:∀ a,a∈ι'->a∉ι->H a=none
 dE:∀ a o u,H a=some (.dE o u)->H' a=some (.dE o u)
theorem Ext.refl:Ext ι H ι H:=⟨⟨[],by simp⟩,λ_ _ _ h=>h,λa h n=>absurd h n,λ_ _ _ h=>h⟩
theorem Ext.trans (a:Ext ι H ι1 H1)(b:Ext ι1 H1 ι2 H2):Ext ι H ι2 H2:=by
 obtain⟨r,hr⟩:=a.pre
 obtain⟨q,hq⟩:=b.pre
 refine⟨⟨r++q,by rw[hq,hr,aca]⟩,λc o n h=>?_,λc h n=>?_,λc o u h=>b.dE c o u (a.dE c o u h)⟩
 ·by_cases m:c∈ι1
  ·rw[a.fresh c m n]at h;cases h
  ·exact b.keep c o m (a.keep c o n h)
 ·by_cases m:c∈ι1
  ·exact a.fresh c m n
  ·cases e:H c with
   |none=>rfl
   |some o=>have:=b.fresh c h m;rw[a.keep c o n e]at this;cases this
theorem Ext.at {ι ι':List Addr}{H H':Hp}(e:Ext ι H ι' H'){n:Nat}{a:Addr}(h:ι[n]?=some a):ι'[n]?=some a:=by
 obtain⟨r,rfl⟩:=e.pre
 rw[abq (abn.mp h).1];exact h
theorem gP.some (h:gP ι H a o):∃ u,H a=some u/\∀ vs,u≠.tup vs:=by
 cases o with
 |lst us=>obtain⟨vs,e,_⟩:=h;exact⟨_,e,λ_ z=>nomatch z⟩
 |dK kvs=>obtain⟨vs,e,_⟩:=h;exact⟨_,e,λ_ z=>nomatch z⟩
 |dT kvs=>obtain⟨vs,e,_⟩:=h;exact⟨_,e,λ_ z=>nomatch z⟩
 |fT kvs=>obtain⟨o,vs,e,_⟩:=h;exact⟨_,e,λ_ z=>nomatch z⟩
 |ins C fs=>obtain⟨dx,vs,e,_⟩:=h;exact⟨_,e,λ_ z=>nomatch z⟩
theorem aE.has (r:aE ι H h)(m:a∈ι):∃ (n:Nat) (o:MO),ι[n]?=some a/\h[n]?=some o/\gP ι H a o:=by
 obtain⟨n,hn⟩:=List.mem_iff_getElem?.mp m
 have hl:n<h.length:=by rw[<-r.len];exact(abn.mp hn).1
 exact⟨n,h[n],hn,abw hl,r.obj n a _ hn (abw hl)⟩
theorem aE.not (r:aE ι H h)(e:H a=some (.tup vs)):a∉ι:=λm=>by
 obtain⟨n,o,_,_,mo⟩:=r.has m
 obtain⟨u,hu,ht⟩:=mo.some
 rw[e]at hu
 exact ht vs (abD hu).symm
theorem aE.zc (r:aE ι H h)(e:H a=none):a∉ι:=λm=>by
 obtain⟨n,o,_,_,mo⟩:=r.has m
 obtain⟨u,hu,ht⟩:=mo.some
 rw[e]at hu;cases hu
structure Kp (ι:List Addr)(H:Hp)(ι':List Addr)(H':Hp):Prop where
 at':∀ {n:Nat}{a:Addr},ι[n]?=some a->ι'[n]?=some a
 tup:∀ {a:Addr}{vs:List V},H a=some (.tup vs)->H' a=some (.tup vs)
 dat:∀ {a:Addr}{o:HO},a∉ι->H a=some o->H' a=some o/\a∉ι'
theorem Ext.kp {ι ι':List Addr}{H H':Hp}{h:MH}(e:Ext ι H ι' H')(r:aE ι H h):Kp ι H ι' H':=⟨λq=>e.at q,λq=>e.keep _ _ (r.not q) q,λn q=>⟨e.keep _ _ n q,λm=>by have:=e.fresh _ m n;rw[q]at this;cases this⟩⟩
theorem aH.ind {P:List U->List V->Prop}(q:aH ι H u v)(n:P [] [])(c:∀ {a b u v},Rel ι H a b->P u v->P (a::u) (b::v)):P u v:=
 aH.rec (motive_1:=λ_ _ _=>True) (motive_2:=λu v _=>P u v) ⟨⟩ ⟨⟩ ⟨⟩ ⟨⟩ (λ_ _ _=>⟨⟩) (λ_=>⟨⟩) (λ_ _ _ _=>⟨⟩) (λ_ _ _ _ _=>⟨⟩) (λ_ _ _ _ _=>⟨⟩) (λ_ _ _=>⟨⟩) (λ_ _ _=>⟨⟩) n (λh _ _ i=>c h i) q
theorem Rel.mono (k:Kp ι H ι' H')(q:Rel ι H u v):Rel ι' H' u v:=
 Rel.rec (motive_1:=λu v _=>Rel ι' H' u v) (motive_2:=λu v _=>aH ι' H' u v) .aq .bl .int .str (λh _ i=>.tup (k.tup h) i) (λh=>.ref (k.at' h)) (λn h _ i=>.lst (k.dat n h).2 (k.dat n h).1 i) (λn h e _ i=>.dK (k.dat n h).2 (k.dat n h).1 e i) (λn h e _ i=>.dT (k.dat n h).2 (k.dat n h).1 e i) (λz _ i=>.eA (z.imp (λ⟨n,o,h⟩=>⟨(k.dat n h).2,o,(k.dat n h).1⟩) id) i) (λh _ i=>.iY h i) .nil (λ_ _ a b=>.cons a b) q
theorem aH.mono (k:Kp ι H ι' H')(q:aH ι H us vs):aH ι' H' us vs:=
 q.ind .nil λh i=>.cons (h.mono k) i
theorem vH.mono (k:Kp ι H ι' H'):∀ {o}{p},vH ι H o p->vH ι' H' o p
 |_,_,.any=>.any
 |_,_,.some r=>.some (r.mono k)
theorem cK.mono (k:Kp ι H ι' H'):∀ {o}{p},cK ι H o p->cK ι' H' o p
 |_,_,.nil=>.nil
 |_,_,.cons a b=>.cons (a.mono k) (cK.mono k b)
theorem aX.mono {κ:Type}{ι ι':List Addr}{H H':Hp}(k:Kp ι H ι' H'):∀ {o:List (κ×U)}{p:List (κ×V)},aX ι H o p->aX ι' H' o p
 |_,_,.nil=>.nil
 |_,_,.cons a b=>.cons (a.mono k) (aX.mono k b)
theorem gP.mono (k:Kp ι H ι' H')(e:H' a=H a):∀ {o:MO},gP ι H a o->gP ι' H' a o
 |.lst _,⟨vs,q,r⟩=>⟨vs,e.trans q,r.mono k⟩
 |.dK _,⟨vs,q,r⟩=>⟨vs,e.trans q,r.mono k⟩
 |.dT _,⟨vs,q,r⟩=>⟨vs,e.trans q,r.mono k⟩
 |.fT _,⟨o,vs,q,r⟩=>⟨o,vs,e.trans q,r.mono k⟩
 |.ins _ _,⟨dx,vs,q,r⟩=>⟨dx,vs,e.trans q,r.mono k⟩
theorem aX.of {κ:Type}{ι:List Addr}{H:Hp}:∀ {o:List (κ×U)}{p:List (κ×V)},o.map (·.1)=p.map (·.1)->aH ι H (o.map (·.2)) (p.map (·.2))->aX ι H o p
 |[],[],_,_=>.nil
 |(k,u)::r,(j,v)::q,e,h=>by
  rw[abH,abH]at e
  injection e with e1 e2
  have YO:k=j:=e1
  subst YO
  cases h with
  |cons a b=>exact .cons a (aX.of e2 b)
 |[],_::_,e,_=>nomatch e
 |_::_,[],e,_=>nomatch e
theorem aX.keys {κ:Type}{ι:List Addr}{H:Hp}:∀ {o:List (κ×U)}{p:List (κ×V)},aX ι H o p->o.map (·.1)=p.map (·.1)/\aH ι H (o.map (·.2)) (p.map (·.2))
 |_,_,.nil=>⟨rfl,.nil⟩
 |_,_,.cons a b=>by
  obtain⟨h1,h2⟩:=aX.keys b
  exact⟨by rw[abH,abH,h1],.cons a h2⟩
theorem aH.length:∀ {us}{vs},aH ι H us vs->us.length=vs.length
 |_,_,.nil=>rfl
 |_,_,.cons _ hs=>congrArg Nat.succ hs.length
theorem aH.append:∀ {us ws}{vs xs},aH ι H us vs->aH ι H ws xs->aH ι H (us++ws) (vs++xs)
 |_,_,_,_,.nil,h=>h
 |_,_,_,_,.cons a b,h=>.cons a (b.append h)
theorem aH.get:∀ {us:List U}{vs:List V}{n:Nat}{u:U},aH ι H us vs->us[n]?=some u->∃ v,vs[n]?=some v/\Rel ι H u v
 |_,_,0,_,.cons a _,e=>by simp at e;subst e;exact⟨_,rfl,a⟩
 |_,_,n+1,u,.cons _ b,e=>by
  obtain⟨v,h1,h2⟩:=aH.get (n:=n) (u:=u) b (by simpa using e)
  exact⟨v,by simpa using h1,h2⟩
theorem aH.set (r:Rel ι H u v):∀ {us}{vs} (n),aH ι H us vs->aH ι H (us.set n u) (vs.set n v)
 |_,_,_,.nil=>.nil
 |_,_,0,.cons _ b=>.cons r b
 |_,_,n+1,.cons a b=>.cons a (aH.set r n b)
theorem aH.take:∀ {us}{vs} (n),aH ι H us vs->aH ι H (us.take n) (vs.take n)
 |_,_,0,_=>.nil
 |_,_,_+1,.nil=>.nil
 |_,_,n+1,.cons a b=>.cons a (aH.take n b)
theorem aH.drop:∀ {us}{vs} (n),aH ι H us vs->aH ι H (us.drop n) (vs.drop n)
 |_,_,0,r=>r
 |_,_,_+1,.nil=>.nil
 |_,_,n+1,.cons _ b=>aH.drop n b
theorem aH.reverse:∀ {us}{vs},aH ι H us vs->aH ι H us.reverse vs.reverse
 |_,_,.nil=>.nil
 |_,_,.cons a b=>by rw[List.reverse_cons,List.reverse_cons];exact b.reverse.append (.cons a .nil)
theorem cK.get:∀ {us:bG}{vs:St}{n:Nat}{u:U},cK ι H us vs->us[n]?=some (some u)->∃ v,vs[n]?=some (some v)/\Rel ι H u v
 |_,_,0,_,.cons a _,e=>by simp at e;subst e;cases a with | some r=>exact⟨_,rfl,r⟩
 |_,_,n+1,u,.cons _ b,e=>by
  obtain⟨v,h1,h2⟩:=cK.get (n:=n) (u:=u) b (by simpa using e)
  exact⟨v,by simpa using h1,h2⟩
theorem cK.set (r:vH ι H u v):∀ {us}{vs} (n),cK ι H us vs->cK ι H (us.set n u) (vs.set n v)
 |_,_,_,.nil=>.nil
 |_,_,0,.cons _ b=>.cons r b
 |_,_,n+1,.cons a b=>.cons a (cK.set r n b)
section
theorem aE.uZ (r:aE ι H h)(hp:H p=none)(vs):Ext ι H ι (upd H p (.tup vs))/\aE ι (upd H p (.tup vs)) h:=by
 have e:Ext ι H ι (upd H p (.tup vs)):=⟨⟨[],by simp⟩,λa o _ q=>by rw[ax (a0 q hp)];exact q,λa m n=>absurd m n,λa o u q=>by rw[ax (a0 q hp)];exact q⟩
 refine⟨e,r.len,r.nd,λn a o h1 h2=>(r.obj n a o h1 h2).mono (e.kp r) ?_⟩
 rw[ax]
 intro z
 exact r.zc hp (z▸abY h1)
theorem aE.new (r:aE ι H h)(hp:H p=none)(mo:gP (ι++[p]) (upd H p u) p o):Ext ι H (ι++[p]) (upd H p u)/\aE (ι++[p]) (upd H p u) (h++[o]):=by
 have hn:=r.zc hp
 have e:Ext ι H (ι++[p]) (upd H p u):=⟨⟨[p],rfl⟩,λa o _ q=>by rw[ax (a0 q hp)];exact q,λa m n=>by
  rcases abP.mp m with z | z
  ·exact absurd z n
  ·simp at z;subst z;exact hp,λa o u q=>by rw[ax (a0 q hp)];exact q⟩
 refine⟨e,by simp[r.len],?_,λn a q h1 h2=>?_⟩
 ·rw[List.nodup_append]
  exact⟨r.nd,by simp,λa ha b hb z=>by simp at hb;subst hb;subst z;exact hn ha⟩
 ·by_cases hl:n<ι.length
  ·rw[abq hl]at h1
   rw[abq (by rw[<-r.len];exact hl)]at h2
   refine(r.obj n a q h1 h2).mono (e.kp r) ?_
   rw[ax]
   intro z
   exact hn (z▸abY h1)
  ·rw[abt (by lia)]at h1
   rw[abt (by rw[<-r.len];lia)]at h2
   rw[<-r.len]at h2
   cases hk:n-ι.length with
   |zero=>rw[hk]at h1 h2;simp at h1 h2;subst h1;subst h2;exact mo
   |succ k=>rw[hk]at h1;simp at h1
theorem aE.put (r:aE ι H h)(hn:ι[n]?=some p)(hu:∀ vs,H p≠some (.tup vs))(hz:∀ o u,H p≠some (.dE o u))(mo:gP ι (upd H p u) p o):Ext ι H ι (upd H p u)/\aE ι (upd H p u) (h.set n o):=by
 have hp:p∈ι:=abY hn
 have e:Ext ι H ι (upd H p u):=⟨⟨[],by simp⟩,λa o m q=>by rw[ax (show a≠p from λz=>m (by rw[z];exact hp))];exact q,λa m n=>absurd m n,λa o u q=>by rw[ax (λz=>by subst z;exact hz _ _ q)];exact q⟩
 refine⟨e,by simp[r.len],r.nd,λk a q h1 h2=>?_⟩
 by_cases hk:k=n
 ·subst hk
  rw[hn]at h1;cases h1
  rw[abR (by rw[<-r.len];exact(abn.mp hn).1)]at h2
  cases h2
  exact mo
 ·rw[abF (λz=>hk z.symm)]at h2
  refine(r.obj k a q h1 h2).mono (e.kp r) ?_
  rw[ax]
  intro z
  subst z
  exact hk ((List.getElem?_inj (abn.mp h1).1 r.nd).mp (h1.trans hn.symm))
end
inductive Fl where
 |nx (σ:bG) | bk (σ:bG) | ct (σ:bG) | rt (u:U)
abbrev ME:=bG->MH->Option (U×MH)
abbrev MT:=bG->MH->Option (Bool×MH)
abbrev MA:=bG->MH->Option (List U×MH)
abbrev MS:=bG->MH->Option (Fl×MH)
abbrev MG:=U->bG->MH->Option (bG×MH)
abbrev G6:=List U->bG->MH->Option (bG×MH)
abbrev MF:=List U->MH->Option (U×MH)
abbrev M2:=U->U->MH->Option (U×MH)
abbrev M1:=U->MH->Option (U×MH)
class SE [kf:KF](t:TE)(m:outParam ME):Prop where
 go:∀ {σ:St}{H:Hp}{Q:VK}{σu:bG}{ι:List Addr}{h:MH}{u:U}{h':MH},cK ι H σu σ->aE ι H h->m σu h=some (u,h')->
  (∀ ι' H' v,Ext ι H ι' H'->aE ι' H' h'->Rel ι' H' u v->Q v H')->t σ H Q
class ST [kf:KF](t:TT)(m:outParam MT):Prop where
 go:∀ {σ:St}{H:Hp}{Q:Bool->Hp->Prop}{σu:bG}{ι:List Addr}{h:MH}{b:Bool}{h':MH},cK ι H σu σ->aE ι H h->m σu h=some (b,h')->
  (∀ ι' H',Ext ι H ι' H'->aE ι' H' h'->Q b H')->t σ H Q
class SA [kf:KF](t:TA)(m:outParam MA):Prop where
 go:∀ {σ:St}{H:Hp}{Q:List V->Hp->Prop}{σu:bG}{ι:List Addr}{h:MH}{us:List U}{h':MH},cK ι H σu σ->aE ι H h->m σu h=some (us,h')->
  (∀ ι' H' vs,Ext ι H ι' H'->aE ι' H' h'->aH ι' H' us vs->Q vs H')->t σ H Q
def Pr (ι:List Addr)(H:Hp)(D:Ends):Fl->Prop
 |.nx σu=>∀ σ,cK ι H σu σ->D.nx σ H
 |.bk σu=>∀ σ,cK ι H σu σ->D.bk σ H
 |.ct σu=>∀ σ,cK ι H σu σ->D.ct σ H
 |.rt u=>∀ v,Rel ι H u v->D.rt v H
class SS [kf:KF](t:TS)(m:outParam MS):Prop where
 go:∀ {D:Ends}{σ:St}{H:Hp}{σu:bG}{ι:List Addr}{h:MH}{f:Fl}{h':MH},cK ι H σu σ->aE ι H h->m σu h=some (f,h')->
  (∀ ι' H',Ext ι H ι' H'->aE ι' H' h'->Pr ι' H' D f)->t D σ H
class SG [kf:KF](t:TG)(m:outParam MG):Prop where
 go:∀ {v:V}{σ:St}{H:Hp}{Q:St->Hp->Prop}{u:U}{σu:bG}{ι:List Addr}{h:MH}{Lm:bG}{h':MH},cK ι H σu σ->aE ι H h->Rel ι H u v->m u σu h=some (Lm,h')->
  (∀ ι' H' σ',Ext ι H ι' H'->aE ι' H' h'->cK ι' H' Lm σ'->Q σ' H')->t v σ H Q
class PH [kf:KF](t:GL)(m:outParam G6):Prop where
 go:∀ {vs:List V}{σ:St}{H:Hp}{Q:St->Hp->Prop}{us:List U}{σu:bG}{ι:List Addr}{h:MH}{Lm:bG}{h':MH},cK ι H σu σ->aE ι H h->aH ι H us vs->m us σu h=some (Lm,h')->
  (∀ ι' H' σ',Ext ι H ι' H'->aE ι' H' h'->cK ι' H' Lm σ'->Q σ' H')->t vs σ H Q
class SO [kf:KF](r:R2)(g:outParam M2):Prop where
 go:∀ {x y:V}{H:Hp}{Q:VK}{a b:U}{ι:List Addr}{h:MH}{u:U}{h':MH},aE ι H h->Rel ι H a x->Rel ι H b y->g a b h=some (u,h')->
  (∀ ι' H' v,Ext ι H ι' H'->aE ι' H' h'->Rel ι' H' u v->Q v H')->r x y H Q
class SU [kf:KF](r:V->Hp->VK->Prop)(g:outParam M1):Prop where
 go:∀ {x:V}{H:Hp}{Q:VK}{a:U}{ι:List Addr}{h:MH}{u:U}{h':MH},aE ι H h->Rel ι H a x->g a h=some (u,h')->
  (∀ ι' H' v,Ext ι H ι' H'->aE ι' H' h'->Rel ι' H' u v->Q v H')->r x H Q
class SC [kf:KF](r:List V->Hp->VK->Prop)(g:outParam MF):Prop where
 go:∀ {xs:List V}{H:Hp}{Q:VK}{us:List U}{ι:List Addr}{h:MH}{u:U}{h':MH},aE ι H h->aH ι H us xs->g us h=some (u,h')->
  (∀ ι' H' v,Ext ι H ι' H'->aE ι' H' h'->Rel ι' H' u v->Q v H')->r xs H Q
end S
namespace L2
open PySem PySem.Spec PyProof.Rows
theorem mP:∀ (names:List (Str×NameKind)) (acc:List (Str×Addr)),(∀ y∈names,y.2=.free->∃ c,env.cells.lookup y.1=some c)->
  (∀ x c,acc.lookup x=some c->env.cells.lookup x=some c)->
  ∃ cl,(forIn (m:=Sem) names acc λ(x:Str×NameKind) r=>(if x.2 == .free then(do let c←cellOf env x.1;pure (ForInStep.yield ((x.1,c)::r))) else pure (ForInStep.yield r):Sem (ForInStep (List (Str×Addr)))))=pure cl/\
   (∀ x c,cl.lookup x=some c->env.cells.lookup x=some c)/\(∀ y∈names,y.2=.free->∃ c,cl.lookup y.1=some c)/\(∀ x c,acc.lookup x=some c->∃ c',cl.lookup x=some c')
 |[],acc,_,ha=>⟨acc,rfl,ha,(λ_ h=>nomatch h),λx c e=>⟨c,e⟩⟩
 |(n,k)::r,acc,h,ha=>by
  have hr:∀ y∈r,y.2=.free->∃ c,env.cells.lookup y.1=some c:=λy hy=>h y (abS _ hy)
  rw[List.forIn_cons]
  by_cases hk:k=.free
  ·subst hk
   obtain⟨c,hc⟩:=h (n,.free) acn rfl
   have Y3:∀ x d,((n,c)::acc).lookup x=some d->env.cells.lookup x=some d:=λx d e=>by
    rw[abM]at e
    cases hx:x == n with
    |true=>rw[hx]at e;cases e;rw[eq_of_beq hx];exact hc
    |false=>rw[hx]at e;exact ha x d e
   obtain⟨cl,e,h1,h2,h3⟩:=mP r ((n,c)::acc) hr Y3
   refine⟨cl,?_,h1,λy hy hf=>?_,λx d e=>?_⟩
   ·have e1:cellOf env n=pure c:=by unfold cellOf;rw[hc]
    simp only[beq_self_eq_true,if_true,e1,pure_bind]
    exact e
   ·rcases abW.mp hy with z | z
    ·subst z
     exact h3 n c (by rw[abM,beq_self_eq_true])
    ·exact h2 y z hf
   ·by_cases hx:(x == n)=true
    ·exact h3 x c (by rw[abM,hx])
    ·exact h3 x d (by rw[abM,Bool.eq_false_iff.mpr hx];exact e)
  ·obtain⟨cl,e,h1,h2,h3⟩:=mP r acc hr ha
   have hb:(k == NameKind.free)=false:=by simpa using hk
   refine⟨cl,?_,h1,λy hy hf=>?_,h3⟩
   ·simp only[hb,ab2,acb,pure_bind]
    exact e
   ·rcases abW.mp hy with z | z
    ·subst z;exact absurd hf hk
    ·exact h2 y z hf
theorem ym (h:∀ y∈scope.names,y.2=.free->∃ c,env.cells.lookup y.1=some c) :
  ∃ cl,closureFor scope env=pure cl/\(∀ x c,cl.lookup x=some c->env.cells.lookup x=some c)/\(∀ y∈scope.names,y.2=.free->∃ c,cl.lookup y.1=some c):=by
 obtain⟨cl,e,h1,h2,_⟩:=mP (env:=env) scope.names [] h (λx c e=>by simp at e)
 refine⟨cl,?_,h1,h2⟩
 unfold closureFor
 have e':=congrArg (λz:Sem (List (Str×Addr))=>z >>= λcs=>pure cs) e
 simp only[pure_bind]at e'
 exact e'
theorem jF {env:Env}:∀ {names:List (Str×NameKind)}{x:Str}{k:NameKind},(∀ y∈names,y.2≠.cell)->
  (names.map λ(n,k)=>if (k == NameKind.free&&env.scope.kind == .function&&env.kindOf n == some .cell) then(n,NameKind.cell) else(n,k)).lookup x=some k->
  (k=.cell\/k=.free)->names.lookup x=some .free
 |[],_,_,_,h,_=>by simp at h
 |(n,k0)::r,x,k,hc,h,hk=>by
  have ih:=@jF env r x k (λy hy=>hc y (abS _ hy))
  have h0:k0≠.cell:=hc (n,k0) acn
  rw[abH]at h
  rw[abM]
  cases hx:x == n with
  |false=>
   refine ih ?_ hk
   by_cases hq:(k0 == NameKind.free&&env.scope.kind == .function&&env.kindOf n == some .cell)=true
   ·simp only[hq,if_true,abM,hx]at h;exact h
   ·simp only[Bool.eq_false_iff.mpr hq,acb,abM,hx,ab2]at h;exact h
  |true=>
   by_cases hq:(k0 == NameKind.free&&env.scope.kind == .function&&env.kindOf n == some .cell)=true
   ·rw[abL,abL]at hq
    have e:k0=.free:=by simpa using hq.1.1
    rw[e]
   ·simp only[Bool.eq_false_iff.mpr hq,acb,abM,hx,ab2]at h
    cases h
    rcases hk with hk | hk
    ·exact absurd hk h0
    ·rw[hk]
theorem gJ {env:Env}:∀ {names:List (Str×NameKind)}{x:Str},names.lookup x=some .free->
  (names.map λ(n,k)=>if (k == NameKind.free&&env.scope.kind == .function&&env.kindOf n == some .cell) then(n,NameKind.cell) else(n,k)).lookup x=some .cell\/
  (names.map λ(n,k)=>if (k == NameKind.free&&env.scope.kind == .function&&env.kindOf n == some .cell) then(n,NameKind.cell) else(n,k)).lookup x=some .free
 |[],_,h=>by simp at h
 |(n,k0)::r,x,h=>by
  have ih:=@gJ env r x
  rw[abH]
  rw[abM]at h
  cases hx:x == n with
  |false=>
   rw[hx]at h
   by_cases hq:(k0 == NameKind.free&&env.scope.kind == .function&&env.kindOf n == some .cell)=true
   ·simp only[hq,if_true,abM,hx];exact ih h
   ·simp only[Bool.eq_false_iff.mpr hq,acb,abM,hx,ab2];exact ih h
  |true=>
   rw[hx]at h
   cases h
   by_cases hq:(NameKind.free == NameKind.free&&env.scope.kind == .function&&env.kindOf n == some .cell)=true
   ·simp only[hq,if_true,abM,hx];first | exact .inl rfl | exact .inl trivial
   ·simp only[Bool.eq_false_iff.mpr hq,acb,abM,hx,ab2];first | exact .inr rfl | exact .inr trivial
noncomputable def pull (σ:St)(o:Option Nat):Option V:=o.bind λj=>(σ[j]?).join
noncomputable def QK (N N':List Str)(scope:Scope)(ix:List (Option Nat)):Bool:=
 (List.range N'.length).all λi=>match ix[i]?,N'[i]? with
  |some (some j),some x=>(match N[j]? with | some y=>y == x | none=>false)&&(match scope.names.lookup x with | some .free=>true | _=>false)
  |_,_=>true
structure iI (N:List Str)(sc:Scope)(N':List Str)(scope:Scope)(ix:List (Option Nat)):Prop where
 kind:scope.kind=.function
 nocell:∀ y∈scope.names,y.2≠.cell
 names:∀ y∈scope.names,y.2=.local->scope.names.lookup y.1=some .local
 frees:∀ y∈scope.names,y.2=.free->sc.names.lookup y.1=some .cell\/sc.names.lookup y.1=some .free
 len:ix.length=N'.length
 nd:N'.Nodup
 ixs:QK N N' scope ix=true
theorem iI.at {N N':List Str}{sc scope:Scope}{ix:List (Option Nat)}(S:iI N sc N' scope ix){i j:Nat}{x:Str}(h1:ix[i]?=some (some j))(h2:N'[i]?=some x):N[j]?=some x/\scope.names.lookup x=some .free:=by
 have hi:i<N'.length:=(abn.mp h2).1
 have h:=List.all_eq_true.mp S.ixs i (abQ.mpr hi)
 rw[h1,h2]at h
 simp only[abL]at h
 obtain⟨ha,hb⟩:=h
 constructor
 ·cases e:N[j]? with
  |none=>rw[e]at ha;cases ha
  |some y=>rw[e]at ha;rw[eq_of_beq ha]
 ·cases e:scope.names.lookup x with
  |none=>rw[e]at hb;cases hb
  |some k=>rw[e]at hb;cases k<;>first | rfl | cases hb
theorem Cn {σ:St}{ix:List (Option Nat)}{i:Nat}{v:V}(h:(ix.map (pull σ))[i]?=some (some v)):∃ j,ix[i]?=some (some j)/\σ[j]?=some (some v):=by
 rw[abG]at h
 cases e:ix[i]? with
 |none=>rw[e]at h;cases h
 |some o=>
  rw[e]at h
  cases o with
  |none=>cases h
  |some j=>
   refine⟨j,rfl,?_⟩
   have h':(σ[j]?).join=some v:=abD h
   cases q:σ[j]? with
   |none=>rw[q]at h';cases h'
   |some z=>rw[q]at h';rw[show z=some v from h']
noncomputable def bx (X:Cx)(N':List Str)(scope:Scope)(cl:List (Str×Addr))(C:Addr)(s:Shared)(H:Hp)(ex:List Addr):Cx where
 prog:=X.prog
 w:=X.w
 K:=X.K
 mg:=X.mg
 base:=X.base
 A:=X.A
 N:=N'
 s₀:=s
 H₀:=H
 env:=compEnvC scope cl C X.env
 outer:=X.stack
 stack:=X.stack
 ex:=ex
 calm:=X.calm
 fn:=λ_=>false
 pn:=[]
 xe:=λ_ _=>False
section
theorem qQ (I:Inv X pins σ H s)(f:jb X pins H b):b∉CO X.stack:=λz=>by
 rcases abW.mp (I.zx b z) with e | e
 ·exact f.2.1 e
 ·exact f.2.2.1 e
theorem wD {h₁:Heap}(S:iI X.N X.env.scope N' scope ix)(I:Inv X pins σ H s)(yG:∀ x c,cl.lookup x=some c->X.env.cells.lookup x=some c)(hcf:∀ y∈scope.names,y.2=.free->∃ c,cl.lookup y.1=some c)
  (hf:∀ b∈fp,jb X pins H b) (ho:∀ b∈fp,∃ o,s.heap.get? b=some o) (hn:h₁.Ns s.heap.objs.size (λ_=>none)) (hk:∀ b o,s.heap.get? b=some o->h₁.get? b=some o) {t':Nat} :
  Inv (bx X N' scope cl s.heap.objs.size s H fp) [] (ix.map (pull σ)) H {s with heap:=h₁,toks:=t'}:=by
 have Kx:∀ x,scope.names.lookup x=some .free->∃ c,cl.lookup x=some c:=λx e=>hcf (x,.free) (ab_ e) rfl
 have below:∀ b∈fp,b<s.heap.objs.size:=λb hb=>let ⟨o,e⟩:=ho b hb;abx e
 have OY:∀ x c,cl.lookup x=some c->c<s.heap.objs.size:=λx c e=>let ⟨v,q⟩:=I.cell x c (yG x c e);q.lt
 refine⟨⟨I.ok.mod,S.kind,I.ok.glob,I.ok.blt,abl _,λx y c h1 h2=>I.ok.inj x y c (yG x c h1) (yG y c h2),λx hx=>?_,λx c Ze _=>(nomatch (show false=true from Ze)),I.ok.hd,I.ok.frames,.inl rfl,
  λb hb=>⟨abI (below b hb),λx c e=>(hf b hb).2.2.2.2.1 x c (yG x c e)⟩,I.bs,abE I.ok.bsz I.sz,λb o e hb=>?_,λb hb=>qQ I (hf b hb),I.stack,I.AU⟩,
  rfl,I.bare,Un.kept hk,⟨_,hn,λi x v h1 h2 h3=>?_⟩,λx c e=>?_,I.hok.fresh (abl _),λx c e=>I.freeC x c (yG x c e),λp hp=>absurd (show p∈([]:List (Addr×Obj)) from hp) (by simp),I.hok.kept hk,?_⟩
 ·have hx':(relabel scope X.env).names.lookup x=some .cell\/(relabel scope X.env).names.lookup x=some .free:=hx
  refine Kx x ?_
  rcases hx' with e | e
  ·exact jF S.nocell e (.inl rfl)
  ·exact jF S.nocell e (.inr rfl)
 ·rcases(hf b hb).2.2.2.1 with z | z
  ·exact I.ok.noex b o e z
  ·exact absurd (abK (abx e) (abE I.ok.bsz z)) (Nat.lt_irrefl _)
 ·obtain⟨j,hj,hv⟩:=Cn h2
  obtain⟨YZ,UK⟩:=S.at hj h1
  obtain⟨c,hc⟩:=Kx x UK
  have vis:X.env.scope.names.lookup x=some .cell\/X.env.scope.names.lookup x=some .free:=S.frees (x,.free) (ab_ UK) rfl
  obtain⟨m,HR,hl⟩:=I.loc
  obtain⟨u,r,l⟩:=hl j x v YZ hv (vis.elim (λe=>.inr (.inl e)) λe=>.inr (.inr e))
  refine⟨u,r,.inr ⟨gJ UK,c,hc,?_⟩⟩
  rcases l with⟨k,_⟩ | ⟨_,c',e',z⟩
  ·have k':X.env.scope.names.lookup x=some .local:=k
   rcases vis with e | e
   ·rw[e]at k';cases k'
   ·rw[e]at k';cases k'
  ·rw[yG x c hc]at e'
   cases e'
   obtain⟨o,e1,e2⟩:=z
   exact⟨o,hk _ _ e1,e2⟩
 ·obtain⟨v,o,e1,e2⟩:=I.cell x c (yG x c e)
  exact⟨v,o,hk _ _ e1,e2⟩
 ·show _=N'.length
  rw[ab1,S.len]
end
theorem uC {R:Result->Shared->Prop}(I:Nat->Shared->Prop)
  (turn:∀ n s,I n s->wpAny (model prog w) A (pyNext it) (λr s₁=>match r with
   |none=>R (.ok .next) s₁
   |some v=>wpAny (model prog w) A (letOwnedTupleGo target it v) (λ_ s₂=>wpAny (model prog w) A (assign target env v) (λ_ s₃=>wpAny (model prog w) A (eval elt env) (λx s₄=>
     wpAny (model prog w) A (call (.builtin "list.append") [acc,x]) (λ_ s₅=>∃ m,m<n/\I m s₅) (λ_ _=>False) s₄) (λ_ _=>False) s₃) (λ_ _=>False) s₂) (λ_ _=>False) s₁) (λ_ _=>False) s)
  (n) (h:I n s):codeAny (model prog w) A (.compLoop (.ListComp elt [⟨target,iter,[],0⟩] scope pos) 0 it acc env) R s:=by
 refine codeAny_loop rfl I (λn s hI=>?_) n h
 show wpAny _ _ (Sem.onRaise (compTurn (.ListComp elt [⟨target,iter,[],0⟩] scope pos) 0 it acc env) (λx=>do noteFrame x env;theTreesLotGoes x)) _ _ s
 refine wpAny_noted ?_
 rw[compTurn_list1]
 refine abk (wpAny_standAt (abk (ab9 (turn n s hI) (λr s₁ h₁=>?_) λ_ _ z=>False.elim z)))
 cases r with
 |none=>exact abm h₁
 |some v=>
  refine abk (ab9 h₁ (λ_ s₂ h₂=>abk (ab9 h₂ (λ_ s₃ h₃=>?_) λ_ _ z=>False.elim z)) λ_ _ z=>False.elim z)
  refine abk (abk (ab9 h₃ (λx s₄ h₄=>abk (ab9 h₄ (λ_ s₅ h₅=>?_) λ_ _ z=>False.elim z)) λ_ _ z=>False.elim z))
  exact abm (abm ⟨rfl,h₅⟩)
def sQ (J:It)(g:TG)(te:TE)(Q:VK)(D:Addr)(W:Nat->Nat->St->Hp->Prop):Prop:=
 ∀ i m σ H,W i m σ H->(J.stop i H/\Q (.ref D) H)\/(J.go i H/\∃ N:St->Hp->Prop,(∀ σ' H',N σ' H'->∃ m',m' < m/\W (i+1) m' σ' H')/\
  ∀ x H',J.yld i H x H'->g x σ H' λσ2 H2=>te σ2 H2 λy H3=>∃ ys,H3 D=some (.lst ys)/\ys.length<sizeLine/\N σ2 (upd H3 D (.lst (ys++[y]))))
def xG (ix:List (Option Nat))(wi:TI)(g:TG)(te:TE):TE:=λσ H Q=>wi σ H λJ H1=>∀ D,H1 D=none->
 ∃ W:Nat->Nat->St->Hp->Prop,(∃ m,W 0 m (ix.map (pull σ)) (upd H1 D (.lst [])))/\sQ J g te Q D W
section
theorem tw {tn:Nat->Heap->Prop}{W:Nat->Nat->St->Hp->Prop}{RR:Addr->Result->Shared->Prop}{E:Value->Shared->Prop}
  (hc:X.calm=true) (S:iI X.N X.env.scope N' scope ix) (yG:∀ x c,cl.lookup x=some c->X.env.cells.lookup x=some c) (hcf:∀ y∈scope.names,y.2=.free->∃ c,cl.lookup y.1=some c)
  (hg:∀ cl C s H ex,PG (bx X N' scope cl C s H ex) tg g) (hb:∀ cl C s H ex,PE (bx X N' scope cl C s H ex) elt te)
  (I:Inv X pins σ H3 s3) (T:Turn X.prog X.w X.K tg J fp it tn) (st:tn 0 s3.heap) (f:∀ b∈fp,jb X pins H3 b) (w0:W 0 m0 (ix.map (pull σ)) H3) (turn:sQ J g te Q D W)
  (fin:∀ C s' H' m,s3.heap.objs.size=C->Inv X pins σ H' s'->s'.heap.Ns C m->jb X pins H' C->Q (.ref D) H'->RR C (.ok .next) s') :
  wpAny (model X.prog X.w) X.A (newFunctionEnv scope X.env.globals cl [] X.env.qual none .none (some X.env)) (λDA s₄=>
   codeAny (model X.prog X.w) X.A (.compStart (.ListComp elt [⟨tg,iter,[],0⟩] scope pos) 0 (.ref it) (.ref D) {DA with scope:=relabel scope X.env}) (RR DA.locals) s₄) E s3:=by
 refine wpAny_newFunctionEnv S.nocell (by intro y hy;simp at hy) (λh₁ O5 UW=>?_) S.kind
 have hk:∀ b o,s3.heap.get? b=some o->h₁.get? b=some o:=λb o e=>(UW.2 b (abI (abx e))).trans (abp _ e)
 have I1:Inv (bx X N' scope cl s3.heap.objs.size s3 H3 fp) [] (ix.map (pull σ)) H3 {s3 with heap:=h₁,toks:=s3.toks+([]:List (Str×Value)).length}:=
  wD S I yG hcf f (λb hb=>let ⟨o,e,_⟩:=T.obj _ _ st b hb;⟨o,e⟩) (by simpa using O5) hk
 have RX:tn 0 h₁:=T.keep _ _ _ st λb _ o e=>hk b o e
 have fY:∀ {H':Hp}{pl:List (Addr×Obj)},(∀ b∈fp,H' b=none)->(∀ p∈pl,p.1∉fp)->∀ b∈fp,jb (bx X N' scope cl s3.heap.objs.size s3 H3 fp) pl H' b:=λ{H' pl} hn hp b hb=>by
  obtain⟨o,e,_⟩:=T.obj _ _ st b hb
  exact⟨hn b hb,abI (abx e),qQ I (f b hb),.inl hb,λx c e=>(f b hb).2.2.2.2.1 x c (yG x c e),λp UT z=>hp p (by simpa [bx]using UT) (by rw[z];exact hb)⟩
 have loop:codeAny (model X.prog X.w) X.A (.compLoop (.ListComp elt [⟨tg,iter,[],0⟩] scope pos) 0 (.ref it) (.ref D) (compEnvC scope cl s3.heap.objs.size X.env)) (RR s3.heap.objs.size)
   {s3 with heap:=h₁,toks:=s3.toks+([]:List (Str×Value)).length}:=by
  refine uC (λn s'=>∃ i σ' H',Inv (bx X N' scope cl s3.heap.objs.size s3 H3 fp) [] σ' H' s'/\tn i s'.heap/\(∀ b∈fp,H' b=none)/\W i n σ' H') ?_ m0 ⟨0,_,H3,I1,RX,λb hb=>(f b hb).1,w0⟩
  rintro n s4 ⟨i,σ4,H4,I4,RY,Qo,w4⟩
  have rC:∀ p∈([]:List (Addr×Obj)),p.1∉fp:=λ_ z=>nomatch z
  rcases turn i n σ4 H4 w4 with⟨stop,qn⟩ | ⟨go,N,hN,step⟩
  ·refine bK (T.done (bx X N' scope cl s3.heap.objs.size s3 H3 fp) rfl rfl rfl hc i [] s4 σ4 H4 _ I4 (fY Qo rC) RY stop) λr s5 ⟨hr,I5⟩=>?_
   subst hr
   obtain⟨m5,n5,_⟩:=I5.loc
   have IX:Inv X pins σ H4 s5:=I.Ka (ch:=fp) I5.os I5.base I5.hok I5.bare λb hb=>⟨(f b hb).2.2.2.1,(f b hb).2.1,(f b hb).2.2.2.2.1,(f b hb).2.2.2.2.2⟩
   exact fin _ s5 H4 m5 rfl IX n5 (I.qO (abl _) I5.free) qn
  ·refine bK (T.item (bx X N' scope cl s3.heap.objs.size s3 H3 fp) rfl rfl rfl hc i [] s4 σ4 H4 _ I4 (fY Qo rC) RY go) λr s5 ⟨u,hr,h5⟩=>?_
   subst hr
   refine bK h5 λ_ s6 ⟨x,H6,I6,r6,y6,Om,Ur⟩=>?_
   have TM:=I6.pinned (fY Ur rC) (T.obj _ _ Om)
   refine bK (hg cl s3.heap.objs.size s3 H3 fp _ s6 σ4 H6 x u _ TM r6 (step x H6 y6)) λ_ s7 ⟨σ7,H7,I7,q7⟩=>?_
   refine bK (hb cl s3.heap.objs.size s3 H3 fp _ s7 σ7 H7 _ I7 q7) λv8 s8 ⟨y8,H8,I8,r8,ys,hD,hz,q8⟩=>?_
   refine bK (oO _ s8 σ7 H8 (.ref D) [y8] (.ref D) [v8] (λ_ H'=>N σ7 H') I8 rfl (.cons r8 .nil) ⟨D,ys,y8,rfl,rfl,hD,hz,q8⟩) λ_ s9 ⟨_,H9,I9,_,q9⟩=>?_
   obtain⟨m',hm,w9⟩:=hN _ _ q9
   refine⟨m',hm,i+1,σ7,H9,I9.lJ,T.keep _ _ _ Om λb hb o e=>(I9.pin (b,o) (abU _ (abU _ (fE hb e)))).1,λb hb=>?_,w9⟩
   obtain⟨o,e,d⟩:=T.obj _ _ Om b hb
   exact(I9.pin (b,o) (abU _ (abU _ (fE hb e)))).2.1
 exact codeAny_compStart_list loop (T.self X.A 0 _ _ _ RX loop)
theorem Inv.zu (I:Inv X pins σ H s)(f:jb X pins H C)(hs:Heap.SameBut C s.heap h'):Inv X pins σ H {s with heap:=h'}:=
 I.turned (t':=s.toks) (λb o hb e=>(hs.2 b hb).trans e) f.1 f.2.1 f.2.2.2.1 f.2.2.2.2.1 f.2.2.2.2.2
theorem uB (S:iI X.N X.env.scope N' scope ix)(I:Inv X pins σ H s) :
  ∃ cl,closureFor scope X.env=pure cl/\(∀ x c,cl.lookup x=some c->X.env.cells.lookup x=some c)/\(∀ y∈scope.names,y.2=.free->∃ c,cl.lookup y.1=some c):=
 ym λy hy e=>I.ok.has y.1 (S.frees y hy e)
theorem AD (hc:X.calm=true)(S:iI X.N X.env.scope N' scope ix)(hi:PI X tg iter wi)(hg:∀ cl C s H ex,PG (bx X N' scope cl C s H ex) tg g)(hb:∀ cl C s H ex,PE (bx X N' scope cl C s H ex) elt te)
  (hs:∀ x,foldedSetIterable iter X.env x=pure x:=by intro _;rfl):PE X (.ListComp elt [⟨tg,iter,[],0⟩] scope pos) (xG ix wi g te):=by
 intro pins s σ H Q I h
 obtain⟨cl,wz,h1,h2⟩:=uB S I
 rw[eval_ListComp]
 refine wpAny_comprehension_free (use:=none) rfl hs wz S.kind S.names (bK (hi pins s σ H _ I h) λxv s1 k1=>bK k1 λQJ s2 k2=>?_)
 obtain⟨it,fp,tn,J,H2,e,I2,T,CU,f2,k2⟩:=k2
 subst e
 have hD:H2 s2.heap.objs.size=none:=I2.hok.fresh (abl _)
 obtain⟨W,⟨m0,w0⟩,turn⟩:=k2 _ hD
 have ne:∀ b∈fp,b≠s2.heap.objs.size:=λb hb=>let ⟨o,e,_⟩:=T.obj _ _ CU b hb;abI (abx e)
 have I3:Inv X pins σ (upd H2 s2.heap.objs.size (.lst [])) {s2 with heap:=s2.heap.push {cls:=.type "list",dict:=none,data:=.seq ([]:List Value).toArray}}:=
  I2.Ik (its:=[]) (ys:=[]) (t':=s2.toks) .nil (abO _)
 refine abX ?_
 refine tw (J:=J) (D:=s2.heap.objs.size) (W:=W) (m0:=m0) (Q:=Q) (fp:=fp) (tn:=tn) hc S h1 h2 hg hb I3 T (T.keep _ _ _ CU λb _ o e=>abp _ e) (λb hb=>?_) w0 turn (λC s' H' m hC I' n' fC q'=>?_)
 ·obtain⟨g0,g1⟩:=f2 b hb
  exact⟨by rw[ax (ne b hb)];exact g0,g1⟩
 ·exact⟨m,n',λh' sb=>⟨.ref s2.heap.objs.size,H',I'.zu fC sb,rfl,q'⟩⟩
theorem zi (hc:X.calm=true)(hN:X.N.Nodup)(Zn:X.N[i]?=some x)(hx:X.env.scope.names.lookup x=some .local)(S:iI X.N X.env.scope N' scope ix)(hi:PI X tg iter wi)
  (hg:∀ cl C s H ex,PG (bx X N' scope cl C s H ex) tg g) (hb:∀ cl C s H ex,PE (bx X N' scope cl C s H ex) elt te) (ZG:swapsWith (.ListComp elt [⟨tg,iter,[],0⟩] scope Ri) (some (.Name x pos')) pos.line X.env=pure true:=by rfl)
  (hs:∀ x,foldedSetIterable iter X.env x=pure x:=by intro _;rfl):PS X (.Assign [.Name x pos'] (.ListComp elt [⟨tg,iter,[],0⟩] scope Ri) pos) (xF (xG ix wi g te) (nu i)):=by
 intro pins s σ H Dd I h
 obtain⟨cl,wz,h1,h2⟩:=uB S I
 rw[exec_Assign_Name_used _ _ _ _ ZG]
 refine abk (wpAny_standAt (abk ?_))
 show wpAny _ X.A (do let _←comprehension (.ListComp elt [⟨tg,iter,[],0⟩] scope Ri) scope X.env _ (newList []) false (eval iter X.env) (some (assign (.Name x pos') X.env))) _ _ s
 refine abk (ab9 (wpAny_comprehension_free (use:=some (assign (.Name x pos') X.env)) (Q:=λ_ s'=>∃ H' σ',Inv X pins σ' H' s'/\Dd.nx σ' H') rfl hs wz S.kind S.names
  (bK (hi pins s σ H _ I h) λxv s1 k1=>bK k1 λQJ s2 k2=>?_)) (λ_ s' hq=>abm (abm (let ⟨H',σ',I',q⟩:=hq;⟨σ',H',I',q⟩))) λ_ _ e=>e)
 obtain⟨it,fp,tn,J,H2,e,I2,T,CU,f2,k2⟩:=k2
 subst e
 have hD:H2 s2.heap.objs.size=none:=I2.hok.fresh (abl _)
 obtain⟨W,⟨m0,w0⟩,turn⟩:=k2 _ hD
 have ne:∀ b∈fp,b≠s2.heap.objs.size:=λb hb=>let ⟨o,e,_⟩:=T.obj _ _ CU b hb;abI (abx e)
 have I3:Inv X pins σ (upd H2 s2.heap.objs.size (.lst [])) {s2 with heap:=s2.heap.push {cls:=.type "list",dict:=none,data:=.seq ([]:List Value).toArray}}:=
  I2.Ik (its:=[]) (ys:=[]) (t':=s2.toks) .nil (abO _)
 refine abX ?_
 refine tw (J:=J) (D:=s2.heap.objs.size) (W:=W) (m0:=m0) (Q:=λv H'=>Dd.nx (σ.set i (some v)) H') (fp:=fp) (tn:=tn) hc S h1 h2 hg hb I3 T (T.keep _ _ _ CU λb _ o e=>abp _ e) (λb hb=>?_) w0 turn
  (λC s' H' m hC I' n' fC q'=>?_)
 ·obtain⟨g0,g1⟩:=f2 b hb
  exact⟨by rw[ax (ne b hb)];exact g0,g1⟩
 ·show wpAny _ X.A (assign (.Name x pos') X.env (.ref s2.heap.objs.size)) _ _ _
  refine wpAny_assign_Name (uc (v:=.ref s2.heap.objs.size) I' hN Zn (.inl hx) rfl (λs4 I4 ch=>?_) (.inr hx))
  obtain⟨a,sb,ha⟩:=ch
  have YY:C≠a:=by
   rcases ha with z | z
   ·rw[z];exact fC.2.1
   ·exact λw=>fC.2.2.2.2.1 x a z w.symm
  refine⟨m,n'.sameBut sb YY,λh' sb'=>⟨H',_,I4.zu ⟨fC.1,fC.2⟩ sb',q'⟩⟩
end
def Kn (P:Program)(w:World)(K:PySem.W.Frag)(mg:Str->Option Value)(base:Heap)(k:Nat)(x:Str)(ps:List Str)(sp:Sp):Prop:=
 ∃ (f:Addr) (fd:FuncData),dA P w K mg base sx k f fd ps sp/\Binds K fd ps []/\PySem.W.keepIn K (.ref f)=true/\mg x=some (.ref f)
section
variable {X:Cx}{k:Nat}{x:Str}{ps:List Str}{sp:Sp}{p pos:Pos}{e:Expr}{es:List Expr}{t:TA}
theorem Rc (G:Kn X.prog X.w X.K X.mg X.base k x ps sp)(hr:d3 k X.A)(ha:PA X (e::es) t)(hg:Gl X x:=by rfl)(BG:(x == ("__debug__":Str))=false:=by decide)
  (he:starEach (e::es) X.env=(false,eval e X.env)::starEach es X.env:=by rfl) (wA:(backTo pos (starEach es X.env)).any (·.1)=false:=by rfl):PE X (.Call (.Name x p) (e::es) [] pos) (AW sp [] E0 t):=by
 obtain⟨f,fd,F,hb,hk,hm⟩:=G
 exact IS F hr hg hm hk hb .nil xj ha BG he wA
end
noncomputable def TR (lo c:Int)(n:Nat):It:=⟨λi _=>i<n,λi H x H'=>H'=H/\x=.int (lo+i*c),λi _=>n<=i⟩
theorem xM {P}{w}{K:PySem.W.Frag}{tg}(it:Addr)(lo c:Int)(n:Nat):Turn P w K tg (TR lo c n) [it] it (λi h=>IsRangeIter h it (lo+(i:Nat)*c) ((n:Int)-(i:Nat)) c) where
 mem:=by simp
 obj:=λi h st b hb=>by
  have e:b=it:=by simpa using hb
  subst e
  exact⟨_,st,λv z=>by
   have z':Data.fields _=Data.cell v:=z
   cases z'⟩
 keep:=λi h h' st k=>k it (by simp) _ st
 item:=by
  intro X hP hw hK hc i pins s σ H E I hf st hg
  subst hP hw hK
  obtain⟨f0,f1,f2,f3,f4,f5⟩:=hf it (by simp)
  have W:=Walks.range (prog:=X.prog) (w:=X.w) (I.ok.hd hc) it lo c n
  refine W.item i s _ _ hg st λv h' tk hv F6 kk=>?_
  obtain⟨t,rfl⟩:=hv
  have I1:Inv X pins σ H {s with heap:=h',toks:=tk}:=I.turned (λb o hb e=>kk b o (by simpa using hb) e) f0 f1 f3 f4 f5
  exact⟨_,rfl,wx (s:={s with heap:=h',toks:=tk}) (n:="range_iterator") F6 rfl rfl (by decide) ⟨.int (lo+i*c),H,I1,⟨t,rfl⟩,⟨rfl,rfl⟩,F6,λb hb=>(hf b hb).1⟩⟩
 done:=by
  intro X hP hw hK hc i pins s σ H E I hf st hg
  subst hP hw hK
  obtain⟨f0,f1,f2,f3,f4,f5⟩:=hf it (by simp)
  exact wpAny_pyNext_range_end (I.ok.hd hc) st (by have:n<=i:=hg;lia) λh' eb=>⟨rfl,I.turned (t':=s.toks) (λb o hb e=>eb b o hb e) f0 f1 f3 f4 f5⟩
 self:=λ_ _ _ _ _ st h=>wpAny_pyIter_rangeiter st h
def PJ (X:Cx)(r:V->Option Int->Option Int->Option Int->Hp->VK->Prop):Prop:=
 ∀ (pins:List (Addr×Obj)) (s:Shared) (σ:St) (H:Hp) (x:V) (v vl vu vs:Value) (lo hi st:Option Int) (sl:Addr) (Q:VK),Inv X pins σ H s->RelV x v->s.heap.IsSliceOf sl vl vu vs->IsPart vl lo->IsPart vu hi->IsPart vs st->r x lo hi st H Q->
  ∃ T id,typeLookup (.type T) "__getitem__" = pure (some (.builtin id))/\s.TypeIs v T/\wpAny (model X.prog X.w) X.A (getItem v (.ref sl)) (EP X pins σ Q) X.xe s
def OB (r:V->Option Int->Option Int->Option Int->Hp->VK->Prop)(te:TE)(tl th ts:TO):TE:=λσ H Q=>te σ H λx H1=>tl σ H1 λl H2=>th σ H2 λu H3=>ts σ H3 λc H4=>r x l u c H4 Q
section
variable {X:Cx}{e st:Expr}{te:TE}{lo hi:Option Expr}{tl th ts:TO}{pos p2:Pos}
theorem Cc {r:V->Option Int->Option Int->Option Int->Hp->VK->Prop}(hr:PJ X r)(he:PE X e te)(hl:PO X lo tl)(hu:PO X hi th)(hs:PO X (some st) ts):PE X (.Subscript e (.Slice lo hi (some st) p2) pos) (OB r te tl th ts):=by
 intro pins s σ H Q I h
 refine Subscript_ (bK (he pins s σ H _ I h) λv s1 ⟨x,H1,I1,r1,q1⟩=>?_)
 refine wpAny_Slice (bK (hl pins s1 σ H1 _ I1 q1) λvl s2 ⟨l,H2,I2,pl,q2⟩=>bK (hu pins s2 σ H2 _ I2 q2) λvu s3 ⟨u,H3,I3,pu,q3⟩=>bK (hs pins s3 σ H3 _ I3 q3) λvs s4 ⟨c,H4,I4,pc,q4⟩=>?_)
 have I5:Inv X pins σ H4 {s4 with heap:=s4.heap.push {cls:=.type "slice",data:=.fields #[vl,vu,vs]}}:=I4.kept (t':=s4.toks) λb ob q=>abp _ q
 obtain⟨T,id,hT,ht,hg⟩:=hr pins {s4 with heap:=s4.heap.push {cls:=.type "slice",data:=.fields #[vl,vu,vs]}} σ H4 x v vl vu vs l u c s4.heap.objs.size Q I5 r1 (Heap.IsSliceOf.new ..) pl pu pc q4
 show wpAny (model X.prog X.w) X.A (subscriptTail e (.Slice lo hi (some st) p2) v (.ref s4.heap.objs.size)) (EP X pins σ Q) X.xe {s4 with heap:=s4.heap.push {cls:=.type "slice",data:=.fields #[vl,vu,vs]}}
 exact tail_any (ops:=[v,.ref s4.heap.objs.size]) ht hT hg (by with_unfolding_all rfl)
end
noncomputable def turned {α:Type}(xs:List α)(c:Int):List α:=if c=1 then xs else xs.reverse
theorem mD {α:Type}(xs:List α)(c:Int):(turned xs c).length=xs.length:=by
 unfold turned;split<;>simp
theorem Vals.turned (r:Vals xs us)(c):Vals (L2.turned xs c) (L2.turned us c):=by
 unfold L2.turned;split
 ·exact r
 ·exact r.reverse
theorem mO {α β:Type}{f g:α->Option β}:∀ {l:List α},(∀ x∈l,f x=g x)->l.filterMap f=l.filterMap g
 |[],_=>rfl
 |a::r,h=>by
  rw[List.filterMap_cons,List.filterMap_cons,h a acn,mO λx hx=>h x (abS _ hx)]
theorem Bh {α:Type}(xs:List α):(List.range xs.length).filterMap (λ(k:Nat)=>xs[xs.length-1-k]?)=xs.reverse:=by
 have e:∀ k∈List.range xs.length,xs[xs.length-1-k]?=xs.reverse[k]?:=λk hk=>by
  have O3:=abQ.mp hk
  rw[List.getElem?_reverse O3]
 have h1:(List.range xs.length).filterMap (λ(k:Nat)=>xs[xs.length-1-k]?)=(List.range xs.reverse.length).filterMap (λ(k:Nat)=>xs.reverse[k]?):=by
  rw[List.length_reverse]
  exact mO e
 rw[h1]
 have h2:∀ ys:List α,(List.range ys.length).filterMap (λ(k:Nat)=>ys[k]?)=ys:=λys=>by
  induction ys with
  |nil=>rfl
  |cons y r ih=>
   rw[abC,List.range_succ_eq_map,List.filterMap_cons]
   simp only[abV,List.filterMap_map]
   have:((λ(k:Nat)=>(y::r)[k]?)∘Nat.succ)=λk=>r[k]?:=by funext k;simp
   rw[this,ih]
 exact h2 _
theorem p6 (n:Nat):sliceRange ((n:Int)-1) (-1) (-1)=(List.range n).map λ(k:Nat)=>((n:Int)-1 + -1*(k:Int)).toNat:=by
 unfold sliceRange
 have h:(if (-1:Int)>0 then(if (n:Int)-1 < -1 then(-1-((n:Int)-1) + -1-1) / -1 else 0) else(if (n:Int)-1 > -1 then((n:Int)-1 - -1 - -1-1)/(- -1) else 0)).toNat=n:=by
  rw[abo (by decide)]
  split
  ·have e1:(n:Int)-1 - -1 - -1-1=n:=by lia
   have e2:(- -1:Int)=1:=by decide
   rw[e1,e2,Int.ediv_one];simp
  ·lia
 simp only[h]
theorem oY (its:List Value)(c)(hc:c=1\/c=-1):slicePick its.toArray none none (some c)=(turned its c).toArray:=by
 unfold slicePick
 rcases hc with e | e
 ·subst e
  have:=mz its none none
  unfold slicePick at this
  rw[show sliceBounds none none (some 1) its.toArray.size=sliceBounds none none none its.toArray.size from rfl,this]
  unfold turned
  rw[abr rfl]
  simp[HT.eB]
 ·subst e
  unfold turned
  rw[abo (by decide)]
  congr 1
  rw[<-Bh its]
  have hb:sliceBounds none none (some (-1)) its.toArray.size=((its.length:Int)-1,-1,-1):=by
   simp[sliceBounds]
  rw[hb]
  show List.filterMap _ (sliceRange ((its.length:Int)-1) (-1) (-1))=_
  rw[p6]
  rw[List.filterMap_map]
  refine mO λk hk=>?_
  have O3:=abQ.mp hk
  show its.toArray[((its.length:Int)-1 + -1*(k:Int)).toNat]?=its[its.length-1-k]?
  have e3:((its.length:Int)-1 + -1*(k:Int)).toNat=its.length-1-k:=by lia
  rw[e3]
  simp
def zk (K:PySem.W.Frag):V->Option Int->Option Int->Option Int->Hp->VK->Prop:=λx lo hi st H Q=>∃ a xs c,x=.ref a/\lo=none/\hi=none/\st=some c/\(c=1\/c=-1)/\fh K H a xs/\∀ p,H p=none->Q (.ref p) (upd H p (.lst (turned xs c)))
section
variable {X:Cx}
theorem F0:PJ X (zk X.K):=by
 intro pins s σ H x v vl vu vs lo hi st sl Q I rx hs pl pu pc h
 obtain⟨a,xs,c,rfl,rfl,rfl,rfl,hc,hx,q⟩:=h
 cases rx
 obtain⟨its,r,ht,hz⟩:=I.list hx
 have hlen:=r.length
 refine⟨"list",_,slot_list_getitem.lookup,ht.isList.typeIs,?_⟩
 refine wpAny_getItem_list_slice ht.isList hs pl pu pc (by intro z;cases z;rcases hc with z | z<;>cases z) ?_ (by rw[abv]<;>lia)
 rw[oY its c hc]
 refine⟨.ref s.heap.objs.size,_,I.laid (t':=s.toks) (o:=.lst (turned xs c)) (λb ob q=>abp _ q) (abl _) ?_,rfl,q _ (I.hok.fresh (abl _))⟩
 exact⟨by rw[mD];exact hz,_,0,r.turned c,abz _ rfl⟩
end
section
variable {X:Cx}
def Rv:V->Option Int->Option Int->Hp->VK->Prop:=λx lo hi H Q=>∃ z,x=.str z/\z.length<=sizeLine/\Q (.str (Txt.slice z lo hi)) H
theorem Oa:Ha X Rv:=by
 intro pins s σ H x v vl vu lo hi sl Q I rx hs pl pu h
 obtain⟨z,rfl,hz,q⟩:=h
 obtain⟨t,rfl⟩:=rx
 refine⟨"str",_,PySem.F.slot_str_getitem.lookup,typeIs_str _ _ _,?_⟩
 have fin:∀ (t':Tok) (k:Nat),EP X pins σ Q (.str (Txt.slice z lo hi) t') {s with toks:=k}:=λt' k=>⟨.str (Txt.slice z lo hi),H,I.tok k,⟨_,rfl⟩,q⟩
 obtain⟨o,e1,e2,e3⟩:=hs
 cases pl with
 |none=>
  cases pu with
  |none=>exact wpAny_getItem_str_slice (l:=none) (u:=none) (st:=none) ⟨o,e1,e2,e3⟩ rfl (post_val_or_str ⟨abE (Txt.slice_le z _ _) hz,fin⟩)
  |int j uj=>exact wpAny_getItem_str_slice (l:=none) (u:=some (j,uj)) (st:=none) ⟨o,e1,e2,e3⟩ rfl (post_val_or_str ⟨abE (Txt.slice_le z _ _) hz,fin⟩)
 |int i ui=>
  cases pu with
  |none=>exact wpAny_getItem_str_slice (l:=some (i,ui)) (u:=none) (st:=none) ⟨o,e1,e2,e3⟩ rfl (post_val_or_str ⟨abE (Txt.slice_le z _ _) hz,fin⟩)
  |int j uj=>exact wpAny_getItem_str_slice (l:=some (i,ui)) (u:=some (j,uj)) (st:=none) ⟨o,e1,e2,e3⟩ rfl (post_val_or_str ⟨abE (Txt.slice_le z _ _) hz,fin⟩)
theorem qD (hc:X.calm=true):eC X (.builtin "all") (λxs H Q=>∃ p,∃ bs:List Bool,xs=[.ref p]/\fh X.K H p (bs.map V.bl)/\Q (.bl (bs.all id)) H):=by
 intro pins s σ H xs us Q I r h
 obtain⟨p,bs,rfl,hq,q⟩:=h
 obtain⟨u,rfl,rx⟩:=vals1 r
 cases rx
 obtain⟨its,rv,pl,hz⟩:=I.list hq
 have hl:=rv.length
 refine call_all_walk (wpAny_pyIter_list pl.isList ?_)
 have HS:p≠s.heap.objs.size:=by
  obtain⟨o,e,_⟩:=pl.isList
  exact abI (abx e)
 refine⟨s.heap.objs.size,_,_,its.toArray.size,_,_,λi=>bs.getD i false,rfl,Walks.list (show X.A.in1.handled=none from I.ok.hd hc) s.heap.objs.size p HS its.toArray,⟨⟨_,abz _ rfl,rfl,rfl⟩,?_⟩,?_,?_⟩
 ·obtain⟨o,e,z⟩:=pl.isList
  exact⟨o,abp _ e,z⟩
 ·intro i v s' Q' E' hv hQ
  have SV:its[i]?=some v:=by simpa using hv
  have hi:i<its.length:=(abn.mp SV).1
  have SH:i<bs.length:=by rw[ab1]at hl;lia
  obtain⟨w,hw,xq⟩:=rv.get (i:=i) (x:=V.bl bs[i]) (by rw[abG,abw SH];rfl)
  rw[SV]at hw
  cases hw
  cases xq
  refine wpAny_truthy_bool ?_
  have Xe:Q' (bs.getD i false) s':=hQ
  rw[show bs.getD i false=bs[i] by rw[List.getD_eq_getElem?_getD,abw SH];rfl]at Xe
  exact Xe
 ·intro h' tk k
  refine⟨.bl (bs.all id),H,?_,?_,q⟩
  ·refine(I.kept (t':=s.toks) (h':=s.heap.push _) λb o e=>abp _ e).turned (it:=s.heap.objs.size) (h':=h') (t':=tk) (λb o hb e=>k b o (by simpa using hb) e) (I.hok.fresh (abl _)) ?_ ?_ ?_ ?_
   all_goals have f:=I.qO (H':=H) (abl s.heap.objs.size) (I.hok.fresh (abl _))
   ·exact f.2.1
   ·exact f.2.2.2.1
   ·exact f.2.2.2.2.1
   ·exact f.2.2.2.2.2
  ·show Value.bool _=Value.bool _
   congr 1
   have e:its.toArray.size=bs.length:=by rw[abv,<-hl,ab1]
   rw[e]
   have:∀ cs:List Bool,((List.range cs.length).all λi=>cs.getD i false)=cs.all id:=λcs=>by
    induction cs with
    |nil=>rfl
    |cons c r ih=>
     rw[abC,List.range_succ_eq_map,ab7,List.all_map,ab7,<-ih]
     rfl
   exact this bs
end
section
variable {X:Cx}
def Ov (b:Bool)(T:String)(te:TE)(K:PySem.W.Frag):TE:=λσ H Q=>te σ H λx H1=>V.ty T=.ty T/\(∃ t,mJ K H1 x t/\PySem.W.kitOne K t (.type T)=some b)/\Q (.bl b) H1
theorem E8 {b:Bool}{T:String}{e:Expr}{te:TE}{c:Str}{p p2 pos:Pos}(he:PE X e te)(Zt:X.mg "isinstance" = none)(QB:X.mg c=none)(ZI:bootBuiltins c=some (.type T))(Zh:Gl X "isinstance":=by rfl)(Zi:Gl X c:=by rfl)
  (O4:c≠"__name__":=by decide) (hd2:(c == ("__debug__":Str))=false:=by decide) (hs:starEach [e,.Name c p2] X.env=(false,eval e X.env)::starEach [.Name c p2] X.env:=by rfl) :
  PE X (.Call (.Name "isinstance" p) [e,.Name c p2] [] pos) (Ov b T te X.K):=by
 intro pins s σ H Q I h
 refine wpAny_Call_Name_kw (mR I Zh Zt boot_isinstance ?_ (by decide) (by decide))
 have ha:PA X [e,.Name c p2] (nY (λσ H Q=>te σ H Q) (nY (tC (.ty T)) rX)):=jD he (jD (IQ (v:=.ty T) Zi QB ZI rfl O4 hd2) rH) hs
 refine PyProof.Rows.callWith_builtin1 (bK (ha pos pins s σ H (λvs H1=>match vs with | [x,y]=>y=.ty T/\(∃ t,mJ X.K H1 x t/\PySem.W.kitOne X.K t (.type T)=some b)/\Q (.bl b) H1 | _=>False) I ?_) λus s1 ⟨vs,H1,I1,r1,q1⟩=>?_) hs rfl
 ·exact h
 ·match vs,r1,q1 with
  |[x,y],r1,q1=>
   obtain⟨ey,⟨t,ty,kt⟩,q1⟩:=q1
   subst ey
   obtain⟨u,w',rfl,r2,r3⟩:=vals2 r1
   cases r3
   exact BM I1 r2 ty kt λtk=>⟨.bl b,H1,I1.tok tk,rfl,q1⟩
  |[],_,q1=>exact q1.elim
  |[_],_,q1=>exact q1.elim
  |_::_::_::_,_,q1=>exact q1.elim
end
theorem vT {R:Result->Shared->Prop}(I:Nat->Shared->Prop)
  (turn:∀ n s,I n s->wpAny (model prog w) A (pyNext it) (λr s₁=>match r with
   |none=>R (.ok .next) s₁
   |some v=>wpAny (model prog w) A (letOwnedTupleGo target it v) (λ_ s₂=>wpAny (model prog w) A (assign target env v) (λ_ s₃=>wpAny (model prog w) A (isTrue c env (eval c env)) (λb s₄=>
     if b=true then wpAny (model prog w) A (eval elt env) (λx s₅=>wpAny (model prog w) A (call (.builtin "list.append") [acc,x]) (λ_ s₆=>∃ m,m<n/\I m s₆) (λ_ _=>False) s₅) (λ_ _=>False) s₄
     else ∃ m,m<n/\I m s₄) (λ_ _=>False) s₃) (λ_ _=>False) s₂) (λ_ _=>False) s₁) (λ_ _=>False) s)
  (n) (h:I n s):codeAny (model prog w) A (.compLoop (.ListComp elt [⟨target,iter,[c],0⟩] scope pos) 0 it acc env) R s:=by
 refine codeAny_loop rfl I (λn s hI=>?_) n h
 show wpAny _ _ (Sem.onRaise (compTurn (.ListComp elt [⟨target,iter,[c],0⟩] scope pos) 0 it acc env) (λx=>do noteFrame x env;theTreesLotGoes x)) _ _ s
 refine wpAny_noted ?_
 rw[compTurn_list]
 refine abk (wpAny_standAt (abk (ab9 (turn n s hI) (λr s₁ h₁=>?_) λ_ _ z=>False.elim z)))
 cases r with
 |none=>exact abm h₁
 |some v=>
  refine abk (ab9 h₁ (λ_ s₂ h₂=>abk (ab9 h₂ (λ_ s₃ h₃=>?_) λ_ _ z=>False.elim z)) λ_ _ z=>False.elim z)
  show wpAny _ _ (forIn [c] true _ >>= _) _ _ _
  rw[List.forIn_cons]
  refine abk (abk ?_)
  rw[abr rfl]
  refine abk (ab9 h₃ (λb s₄ h₄=>?_) λ_ _ z=>False.elim z)
  refine abm ?_
  show wpAny _ _ (forIn [] b _) _ _ _
  rw[List.forIn_nil]
  refine abm ?_
  cases b with
  |true=>
   rw[abr rfl]at h₄
   show wpAny _ _ (if true=true then _ else _) _ _ _
   rw[abr rfl]
   refine abk (abk (ab9 h₄ (λx s₅ h₅=>abk (ab9 h₅ (λ_ s₆ h₆=>?_) λ_ _ z=>False.elim z)) λ_ _ z=>False.elim z))
   exact abm (abm ⟨rfl,h₆⟩)
  |false=>
   rw[abo abA]at h₄
   show wpAny _ _ (if false=true then _ else _) _ _ _
   rw[abo abA]
   exact abm ⟨rfl,h₄⟩
def qv (J:It)(g:TG)(tc:TT)(te:TE)(Q:VK)(D:Addr)(W:Nat->Nat->St->Hp->Prop):Prop:=
 ∀ i m σ H,W i m σ H->(J.stop i H/\Q (.ref D) H)\/(J.go i H/\∃ N:St->Hp->Prop,(∀ σ' H',N σ' H'->∃ m',m' < m/\W (i+1) m' σ' H')/\
  ∀ x H',J.yld i H x H'->g x σ H' λσ2 H2=>tc σ2 H2 λb H3=>if b=true then te σ2 H3 λy H4=>∃ ys,H4 D=some (.lst ys)/\ys.length<sizeLine/\N σ2 (upd H4 D (.lst (ys++[y]))) else N σ2 H3)
def zA (ix:List (Option Nat))(wi:TI)(g:TG)(tc:TT)(te:TE):TE:=λσ H Q=>wi σ H λJ H1=>∀ D,H1 D=none->
 ∃ W:Nat->Nat->St->Hp->Prop,(∃ m,W 0 m (ix.map (pull σ)) (upd H1 D (.lst [])))/\qv J g tc te Q D W
section
theorem yp {tn:Nat->Heap->Prop}{W:Nat->Nat->St->Hp->Prop}{RR:Addr->Result->Shared->Prop}{E:Value->Shared->Prop}
  (hc:X.calm=true) (S:iI X.N X.env.scope N' scope ix) (yG:∀ x c,cl.lookup x=some c->X.env.cells.lookup x=some c) (hcf:∀ y∈scope.names,y.2=.free->∃ c,cl.lookup y.1=some c)
  (hg:∀ cl C s H ex,PG (bx X N' scope cl C s H ex) tg g) (O1:∀ cl C s H ex,PT (bx X N' scope cl C s H ex) c tc) (hb:∀ cl C s H ex,PE (bx X N' scope cl C s H ex) elt te)
  (I:Inv X pins σ H3 s3) (T:Turn X.prog X.w X.K tg J fp it tn) (st:tn 0 s3.heap) (f:∀ b∈fp,jb X pins H3 b) (w0:W 0 m0 (ix.map (pull σ)) H3) (turn:qv J g tc te Q D W)
  (fin:∀ C s' H' m,s3.heap.objs.size=C->Inv X pins σ H' s'->s'.heap.Ns C m->jb X pins H' C->Q (.ref D) H'->RR C (.ok .next) s') :
  wpAny (model X.prog X.w) X.A (newFunctionEnv scope X.env.globals cl [] X.env.qual none .none (some X.env)) (λDA s₄=>
   codeAny (model X.prog X.w) X.A (.compStart (.ListComp elt [⟨tg,iter,[c],0⟩] scope pos) 0 (.ref it) (.ref D) {DA with scope:=relabel scope X.env}) (RR DA.locals) s₄) E s3:=by
 refine wpAny_newFunctionEnv S.nocell (by intro y hy;simp at hy) (λh₁ O5 UW=>?_) S.kind
 have hk:∀ b o,s3.heap.get? b=some o->h₁.get? b=some o:=λb o e=>(UW.2 b (abI (abx e))).trans (abp _ e)
 have I1:Inv (bx X N' scope cl s3.heap.objs.size s3 H3 fp) [] (ix.map (pull σ)) H3 {s3 with heap:=h₁,toks:=s3.toks+([]:List (Str×Value)).length}:=
  wD S I yG hcf f (λb hb=>let ⟨o,e,_⟩:=T.obj _ _ st b hb;⟨o,e⟩) (by simpa using O5) hk
 have RX:tn 0 h₁:=T.keep _ _ _ st λb _ o e=>hk b o e
 have fY:∀ {H':Hp}{pl:List (Addr×Obj)},(∀ b∈fp,H' b=none)->(∀ p∈pl,p.1∉fp)->∀ b∈fp,jb (bx X N' scope cl s3.heap.objs.size s3 H3 fp) pl H' b:=λ{H' pl} hn hp b hb=>by
  obtain⟨o,e,_⟩:=T.obj _ _ st b hb
  exact⟨hn b hb,abI (abx e),qQ I (f b hb),.inl hb,λx c e=>(f b hb).2.2.2.2.1 x c (yG x c e),λp UT z=>hp p (by simpa [bx]using UT) (by rw[z];exact hb)⟩
 have loop:codeAny (model X.prog X.w) X.A (.compLoop (.ListComp elt [⟨tg,iter,[c],0⟩] scope pos) 0 (.ref it) (.ref D) (compEnvC scope cl s3.heap.objs.size X.env)) (RR s3.heap.objs.size)
   {s3 with heap:=h₁,toks:=s3.toks+([]:List (Str×Value)).length}:=by
  refine vT (λn s'=>∃ i σ' H',Inv (bx X N' scope cl s3.heap.objs.size s3 H3 fp) [] σ' H' s'/\tn i s'.heap/\(∀ b∈fp,H' b=none)/\W i n σ' H') ?_ m0 ⟨0,_,H3,I1,RX,λb hb=>(f b hb).1,w0⟩
  rintro n s4 ⟨i,σ4,H4,I4,RY,Qo,w4⟩
  have rC:∀ p∈([]:List (Addr×Obj)),p.1∉fp:=λ_ z=>nomatch z
  rcases turn i n σ4 H4 w4 with⟨stop,qn⟩ | ⟨go,N,hN,step⟩
  ·refine bK (T.done (bx X N' scope cl s3.heap.objs.size s3 H3 fp) rfl rfl rfl hc i [] s4 σ4 H4 _ I4 (fY Qo rC) RY stop) λr s5 ⟨hr,I5⟩=>?_
   subst hr
   obtain⟨m5,n5,_⟩:=I5.loc
   have IX:Inv X pins σ H4 s5:=I.Ka (ch:=fp) I5.os I5.base I5.hok I5.bare λb hb=>⟨(f b hb).2.2.2.1,(f b hb).2.1,(f b hb).2.2.2.2.1,(f b hb).2.2.2.2.2⟩
   exact fin _ s5 H4 m5 rfl IX n5 (I.qO (abl _) I5.free) qn
  ·refine bK (T.item (bx X N' scope cl s3.heap.objs.size s3 H3 fp) rfl rfl rfl hc i [] s4 σ4 H4 _ I4 (fY Qo rC) RY go) λr s5 ⟨u,hr,h5⟩=>?_
   subst hr
   refine bK h5 λ_ s6 ⟨x,H6,I6,r6,y6,Om,Ur⟩=>?_
   have TM:=I6.pinned (fY Ur rC) (T.obj _ _ Om)
   refine bK (hg cl s3.heap.objs.size s3 H3 fp _ s6 σ4 H6 x u _ TM r6 (step x H6 y6)) λ_ s7 ⟨σ7,H7,I7,q7⟩=>?_
   refine bK (O1 cl s3.heap.objs.size s3 H3 fp _ s7 σ7 H7 _ I7 q7) λb sb ⟨Hb,Ib,qb⟩=>?_
   have again:∀ {s9:Shared}{H9:Hp},Inv (bx X N' scope cl s3.heap.objs.size s3 H3 fp) ([]++rK fp s6.heap) σ7 H9 s9->N σ7 H9->
     ∃ m,m<n/\∃ i σ' H',Inv (bx X N' scope cl s3.heap.objs.size s3 H3 fp) [] σ' H' s9/\tn i s9.heap/\(∀ b∈fp,H' b=none)/\W i m σ' H':=λ{s9 H9} I9 q9=>by
    obtain⟨m',hm,w9⟩:=hN _ _ q9
    refine⟨m',hm,i+1,σ7,H9,I9.lJ,T.keep _ _ _ Om λb hb o e=>(I9.pin (b,o) (abU _ (abU _ (fE hb e)))).1,λb hb=>?_,w9⟩
    obtain⟨o,e,d⟩:=T.obj _ _ Om b hb
    exact(I9.pin (b,o) (abU _ (abU _ (fE hb e)))).2.1
   cases b with
   |true=>
    rw[abr rfl]at qb ⊢
    refine bK (hb cl s3.heap.objs.size s3 H3 fp _ sb σ7 Hb _ Ib qb) λv8 s8 ⟨y8,H8,I8,r8,ys,hD,hz,q8⟩=>?_
    refine bK (oO _ s8 σ7 H8 (.ref D) [y8] (.ref D) [v8] (λ_ H'=>N σ7 H') I8 rfl (.cons r8 .nil) ⟨D,ys,y8,rfl,rfl,hD,hz,q8⟩) λ_ s9 ⟨_,H9,I9,_,q9⟩=>?_
    exact again I9 q9
   |false=>
    rw[abo abA]at qb ⊢
    exact again Ib qb
 exact codeAny_compStart_list loop (T.self X.A 0 _ _ _ RX loop)
theorem E4 (hc:X.calm=true)(S:iI X.N X.env.scope N' scope ix)(hi:PI X tg iter wi)(hg:∀ cl C s H ex,PG (bx X N' scope cl C s H ex) tg g)(O1:∀ cl C s H ex,PT (bx X N' scope cl C s H ex) c tc)(hb:∀ cl C s H ex,PE (bx X N' scope cl C s H ex) elt te)
  (hs:∀ x,foldedSetIterable iter X.env x=pure x:=by intro _;rfl):PE X (.ListComp elt [⟨tg,iter,[c],0⟩] scope pos) (zA ix wi g tc te):=by
 intro pins s σ H Q I h
 obtain⟨cl,wz,h1,h2⟩:=uB S I
 rw[eval_ListComp]
 refine wpAny_comprehension_free (use:=none) rfl hs wz S.kind S.names (bK (hi pins s σ H _ I h) λxv s1 k1=>bK k1 λQJ s2 k2=>?_)
 obtain⟨it,fp,tn,J,H2,e,I2,T,CU,f2,k2⟩:=k2
 subst e
 have hD:H2 s2.heap.objs.size=none:=I2.hok.fresh (abl _)
 obtain⟨W,⟨m0,w0⟩,turn⟩:=k2 _ hD
 have ne:∀ b∈fp,b≠s2.heap.objs.size:=λb hb=>let ⟨o,e,_⟩:=T.obj _ _ CU b hb;abI (abx e)
 have I3:Inv X pins σ (upd H2 s2.heap.objs.size (.lst [])) {s2 with heap:=s2.heap.push {cls:=.type "list",dict:=none,data:=.seq ([]:List Value).toArray}}:=
  I2.Ik (its:=[]) (ys:=[]) (t':=s2.toks) .nil (abO _)
 refine abX ?_
 refine yp (J:=J) (D:=s2.heap.objs.size) (W:=W) (m0:=m0) (Q:=Q) (fp:=fp) (tn:=tn) hc S h1 h2 hg O1 hb I3 T (T.keep _ _ _ CU λb _ o e=>abp _ e) (λb hb=>?_) w0 turn (λC s' H' m hC I' n' fC q'=>?_)
 ·obtain⟨g0,g1⟩:=f2 b hb
  exact⟨by rw[ax (ne b hb)];exact g0,g1⟩
 ·exact⟨m,n',λh' sb=>⟨.ref s2.heap.objs.size,H',I'.zu fC sb,rfl,q'⟩⟩
end
section
variable {κ:Type}[DecidableEq κ]
noncomputable def lZ (kvs:List (κ×V))(k:κ):Option V:=(kvs.find? λkv=>decide (kv.1=k)).map (·.2)
noncomputable def putK (kvs:List (κ×V))(k:κ)(v:V):List (κ×V):=
 if (kvs.any λkv=>decide (kv.1=k))=true then kvs.map (λkv=>if kv.1=k then(kv.1,v) else kv) else kvs++[(k,v)]
noncomputable def iV (kvs:List (κ×V))(k:κ):List (κ×V):=kvs.filter λkv=>decide (kv.1≠k)
theorem n8 {p:κ×V}{r:List (κ×V)}{k:κ}(e:p.1=k):lZ (p::r) k=some p.2:=by simp[lZ,acr,e]
theorem n6 {p:κ×V}{r:List (κ×V)}{k:κ}(e:¬ p.1=k):lZ (p::r) k=lZ r k:=by simp[lZ,acr,e]
theorem xN (k:κ):∀ kvs:List (κ×V),(kvs.any λkv=>decide (kv.1=k))=(lZ kvs k).isSome
 |[]=>rfl
 |p::r=>by
  rw[List.any_cons]
  by_cases e:p.1=k
  ·simp only[n8 e,decide_eq_true e,Bool.true_or,Option.isSome_some]
  ·rw[n6 e,acq e,Bool.false_or];exact xN k r
theorem pI (kvs:List (κ×V))(k:κ)(v):(putK kvs k v).length<=kvs.length+1:=by
 unfold putK
 split
 ·rw[ab1];lia
 ·rw[aby,abC,List.length_nil];lia
theorem j5.gO (r:j5 o u):o.isSome=u.isSome:=by
 cases o with
 |none=>cases u with
  |none=>rfl
  |some _=>exact(show False from r).elim
 |some _=>cases u with
  |none=>exact(show False from r).elim
  |some _=>rfl
theorem KV.val {kvs:List (κ×V)}{vs:List (κ×Value)}(r:KV kvs vs)(k:κ):j5 (lZ kvs k) (valueAt vs k):=by
 unfold KV at r
 induction r with
 |nil=>exact True.intro
 |@cons p q ps qs h t ih=>
  obtain⟨h1,h2⟩:=h
  by_cases e:p.1=k
  ·have e':q.1=k:=h1.symm.trans e
   have b:valueAt (q::qs) k=some q.2:=by simp[valueAt,acr,e']
   rw[n8 e,b];exact h2
  ·have e':¬ q.1=k:=λz=>e (h1.trans z)
   have b:valueAt (q::qs) k=valueAt qs k:=by simp[valueAt,acr,e']
   rw[n6 e,b];exact ih
theorem KV.any (r:KV kvs vs)(k:κ):(kvs.any λkv=>decide (kv.1=k))=vs.any λkv=>decide (kv.1=k):=by
 unfold KV at r
 induction r with
 |nil=>rfl
 |cons h t ih=>rw[List.any_cons,List.any_cons,ih,h.1]
theorem KV.zl (r:KV kvs vs)(k:κ)(ry:RelV y u) :
  KV (kvs.map λkv=>if kv.1=k then(kv.1,y) else kv) (vs.map λkv=>if kv.1=k then(kv.1,u) else kv):=by
 unfold KV at r ⊢
 induction r with
 |nil=>exact .nil
 |@cons p q ps qs h t ih=>
  rw[abH,abH]
  refine .cons ?_ ih
  obtain⟨h1,h2⟩:=h
  by_cases e:p.1=k
  ·rw[abr e,abr (h1.symm.trans e)];exact⟨h1,ry⟩
  ·rw[abo e,abo (λz=>e (h1.trans z))];exact⟨h1,h2⟩
theorem KV.put (r:KV kvs vs)(k:κ)(ry:RelV y u):KV (putK kvs k y) (stored vs k u):=by
 unfold putK stored
 rw[r.any k]
 by_cases e:(vs.any λkv=>decide (kv.1=k))=true
 ·rw[abr e,abr e];exact r.zl k ry
 ·rw[abo e,abo e];exact Paired.snoc r ⟨rfl,ry⟩
theorem KV.drop (r:KV kvs vs)(k:κ):KV (iV kvs k) (without vs k):=by
 unfold KV at r ⊢
 unfold iV without
 induction r with
 |nil=>exact .nil
 |@cons p q ps qs h t ih=>
  obtain⟨h1,h2⟩:=h
  rw[List.filter_cons,List.filter_cons]
  by_cases e:p.1=k
  ·have a:¬ decide (p.1≠k)=true:=by simp[e]
   have b:¬ decide (q.1≠k)=true:=by simp[h1.symm.trans e]
   rw[abo a,abo b];exact ih
  ·have e':¬ q.1=k:=λz=>e (h1.trans z)
   have a:decide (p.1≠k)=true:=by simp[e]
   have b:decide (q.1≠k)=true:=by simp[e']
   rw[abr a,abr b];exact .cons ⟨h1,h2⟩ ih
theorem KV.length (r:KV kvs vs):kvs.length=vs.length:=Paired.length r
theorem v7 (kvs:List (κ×V))(k:κ):(iV kvs k).length<=kvs.length:=List.length_filter_le _ _
end
theorem pG (r:RelV (kV k) u):(bB P w).is k u=true:=by
 cases k with
 |inl i=>obtain⟨t,e⟩:=(show ∃ t,u=Value.int i t from r);subst e;exact wV P w i t
 |inr x=>obtain⟨t,e⟩:=(show ∃ t,u=Value.str x t from r);subst e;exact lE P w x t
abbrev KT (H:Hp):List (NK.KD×V)->List (NK.KD×Addr×Value)->Prop:=Paired λp q=>p.1=q.1/\C3 H q.2.1 p.1/\RelV p.2 q.2.2
theorem KT.val {H}{kvs}{xs:List (NK.KD×Addr×Value)}(r:KT H kvs xs)(k:NK.KD):j5 (lZ kvs k) ((atKey xs k).map (·.2)):=by
 induction r with
 |nil=>exact True.intro
 |@cons p q ps qs h t ih=>
  obtain⟨h1,_,h2⟩:=h
  by_cases e:p.1=k
  ·have e':q.1=k:=h1.symm.trans e
   have b:atKey (q::qs) k=some q.2:=by simp[atKey,acr,e']
   rw[n8 e,b];exact h2
  ·have e':¬ q.1=k:=λz=>e (h1.trans z)
   have b:atKey (q::qs) k=atKey qs k:=by simp[atKey,acr,e']
   rw[n6 e,b];exact ih
theorem KT.zl (r:KT H kvs xs)(k)(ry:RelV y u) :
  KT H (kvs.map λkv=>if kv.1=k then(kv.1,y) else kv) (xs.map (putAt k u)):=by
 induction r with
 |nil=>exact .nil
 |@cons p q ps qs h t ih=>
  rw[abH,abH]
  refine .cons ?_ ih
  obtain⟨h1,h2,h3⟩:=h
  unfold putAt
  by_cases e:p.1=k
  ·rw[abr e,abr (h1.symm.trans e)];exact⟨h1,h2,ry⟩
  ·rw[abo e,abo (λz=>e (h1.trans z))];exact⟨h1,h2,h3⟩
theorem KT.put (r:KT H kvs xs)(k)(hb:C3 H b k)(ry:RelV y u) :
  KT H (putK kvs k y) (storedH xs k b u):=by
 have e:(kvs.any λkv=>decide (kv.1=k))=(atKey xs k).isSome:=by
  rw[xN,(r.val k).gO,Option.isSome_map]
 unfold putK storedH
 rw[e]
 by_cases q:(atKey xs k).isSome=true
 ·rw[abr q,abr q];exact r.zl k ry
 ·rw[abo q,abo q];exact Paired.snoc r ⟨rfl,hb,ry⟩
theorem KT.keeps (r:KT H kvs xs)(ht:∀ b ys,H b=some (.tup ys)->H' b=some (.tup ys)):KT H' kvs xs:=
 Paired.MN r λ_ _ z=>⟨z.1,z.2.1.mono ht,z.2.2⟩
section
theorem K7 (ok:jU P w H h)(e:Rd H a u):bD P w H h a u:=e.ok ok
theorem qH (ok:jU P w H h)(e:Rd H a (.dK kvs)):kvs.length<=sizeLine/\(a == sysModules)=false/\∃ vs,KV kvs vs/\h.DictOf (bB P w) a vs:=
 show bD P w H h a (.dK kvs) from K7 ok e
theorem DJ (ok:jU P w H h)(e:H a=some (.dK kvs)):kvs.length<=sizeLine/\(a == sysModules)=false/\∃ vs,KV kvs vs/\h.DictOf (bB P w) a vs:=qH ok (.inl e)
mutual
theorem uv.QI (ok:jU P w H h):∀ {v}{k}{u},uv H v k->RelV v u->NK.ur h u k
 |_,_,_,.aq,r=>by cases r;exact .aq
 |_,_,_,.int,r=>by obtain⟨t,rfl⟩:=r;exact .int
 |_,_,_,.str,r=>by obtain⟨t,rfl⟩:=r;exact .str
 |_,_,_,.tup e q,r=>by
  cases r
  obtain⟨_,its,rv,z⟩:=ok _ _ e
  exact .tup z.tup (by simpa using mE.QI ok q rv)
theorem mE.QI (ok:jU P w H h):∀ {vs}{ks}{us:List Value},mE H vs ks->Vals vs us->NK.gA h us ks
 |_,_,_,.nil,r=>by cases r;exact .nil
 |_,_,_,.cons a q,r=>by cases r with | cons r1 r2=>exact .cons (uv.QI ok a r1) (mE.QI ok q r2)
end
theorem rh (ok:jU P w H h)(e:C3 H a ks):(NK.hU P w).is h ks a:=⟨e.2,uv.QI ok e.1 rfl⟩
theorem qI (ok:jU P w H h)(e:Rd H a (.dT kvs)):kvs.length<=sizeLine/\(a == sysModules)=false/\
  ∃ xs,KT H kvs xs/\h.DictOfH (NK.hU P w) a xs:=by
 obtain⟨z,y,xs,r,o,es,ep,h1,h2,h3,h4,h5⟩:=(show bD P w H h a (.dT kvs) from K7 ok e)
 refine⟨z,y,xs,r,o,es,ep,h1,h2,h3,h4,λx hx=>?_,h5⟩
 have all:∀ {l:List (NK.KD×V)}{m:List (NK.KD×Addr×Value)},KT H l m->∀ x∈m,(NK.hU P w).is h x.1 x.2.1:=by
  intro l m q
  induction q with
  |nil=>intro x hx;exact nomatch hx
  |@cons p q ps qs hq t ih=>
   intro x hx
   rcases abW.mp hx with e | hx
   ·subst e
    exact rh ok (by rw[<-hq.1];exact hq.2.1)
   ·exact ih x hx
 exact all r x hx
theorem Qe (ok:jU P w H h)(e:H a=some (.dT kvs)):kvs.length<=sizeLine/\(a == sysModules)=false/\
  ∃ xs,KT H kvs xs/\h.DictOfH (NK.hU P w) a xs:=qI ok (.inl e)
end
theorem lT {P:Program}{w:World}{A:Around}(hu:A.units+64<cLine):(NK.hU P w).room A.in1:=show A.units+1+8<cLine by lia
def vF (H:Hp)(a:Addr)(y:V)(r:Option V):Prop:=
 (∃ kvs k,Rd H a (.dK kvs)/\y=kV k/\r=lZ kvs k)\/∃ kvs k b,Rd H a (.dT kvs)/\y=.ref b/\C3 H b k/\r=lZ kvs k
def Ln (H:Hp)(a:Addr)(y v:V)(H':Hp):Prop:=
 (∃ kvs k,H a=some (.dK kvs)/\y=kV k/\kvs.length<sizeLine/\H'=upd H a (.dK (putK kvs k v)))\/
 ∃ kvs k b,H a=some (.dT kvs)/\y=.ref b/\C3 H b k/\kvs.length<sizeLine/\H'=upd H a (.dT (putK kvs k v))
section
variable {E:Value->Shared->Prop}
theorem Inv.big (I:Inv X pins σ H s):sysModules<s.heap.objs.size:=by
 have h:mainGlobals<s.heap.objs.size:=(I.mod.glob.keeps I.bk).lt
 exact Nat.lt_trans (by decide) h
theorem Bx {Q:Value->Shared->Prop}(hu:A.units+64<cLine)(I:Inv X pins σ H s)(g:vF H a y (some v))(ry:RelV y u)(h:∀ w' s',Inv X pins σ H s'->RelV v w'->Q w' s') :
  wpAny (model X.prog X.w) A (getItem (.ref a) u) Q E s:=by
 rcases g with⟨kvs,k,e,ey,l⟩ | ⟨kvs,k,b,e,ey,eb,l⟩
 ·subst ey
  obtain⟨z,hd,vs,rel,dd⟩:=qH I.hok e
  obtain⟨w',hw,xq⟩:=j5.some_of (v:=v) (o:=valueAt vs k) (by rw[l];exact rel.val k)
  exact wpAny_getItem_of (pG ry) dd.mapOf hw (h w' _ (I.tok _) xq)
 ·subst ey
  cases(show u=Value.ref b from ry)
  obtain⟨z,hd,xs,rel,dd⟩:=qI I.hok e
  obtain⟨w',hw,xq⟩:=j5.some_of (v:=v) (o:=(atKey xs k).map (·.2)) (by rw[l];exact rel.val k)
  obtain⟨p,hp,Zz⟩:=ab6.mp hw
  refine wpAny_getItem_heap (lT hu) (rh I.hok eb) dd hp ?_
  rw[Zz]
  exact h w' _ (I.tok _) xq
theorem Ue {Q:Value->Shared->Prop}(hu:A.units+64<cLine)(I:Inv X pins σ H s)(g:vF H a y o)(ry:RelV y u)(h:∀ s',Inv X pins σ H s'->Q (.bool o.isSome) s') :
  wpAny (model X.prog X.w) A (compareOp .In u (.ref a)) Q E s:=by
 rcases g with⟨kvs,k,e,ey,l⟩ | ⟨kvs,k,b,e,ey,eb,l⟩
 ·subst ey
  obtain⟨z,hd,vs,rel,dd⟩:=qH I.hok e
  refine wpAny_in_of (pG ry) hd dd.mapOf ?_
  rw[<-(rel.val k).gO,<-l]
  exact h _ (I.tok _)
 ·subst ey
  cases(show u=Value.ref b from ry)
  obtain⟨z,hd,xs,rel,dd⟩:=qI I.hok e
  refine wpAny_in_heap (lT hu) (rh I.hok eb) hd dd ?_
  have q:=(rel.val k).gO
  rw[Option.isSome_map]at q
  rw[<-q,<-l]
  exact h _ (I.tok _)
theorem Hy {Q:Value->Shared->Prop}(hu:A.units+64<cLine)(I:Inv X pins σ H s)(g:vF H a y o)(ry:RelV y u)(h:∀ s',Inv X pins σ H s'->Q (.bool (!o.isSome)) s') :
  wpAny (model X.prog X.w) A (compareOp .NotIn u (.ref a)) Q E s:=by
 rcases g with⟨kvs,k,e,ey,l⟩ | ⟨kvs,k,b,e,ey,eb,l⟩
 ·subst ey
  obtain⟨z,hd,vs,rel,dd⟩:=qH I.hok e
  refine wpAny_notIn_of (pG ry) hd dd.mapOf ?_
  rw[<-(rel.val k).gO,<-l]
  exact h _ (I.tok _)
 ·subst ey
  cases(show u=Value.ref b from ry)
  obtain⟨z,hd,xs,rel,dd⟩:=qI I.hok e
  refine wpAny_notIn_heap (lT hu) (rh I.hok eb) hd dd ?_
  have q:=(rel.val k).gO
  rw[Option.isSome_map]at q
  rw[<-q,<-l]
  exact h _ (I.tok _)
theorem qc {t'}(I:Inv X pins σ H s)(mu:OT (H a))(hs:Heap.SameBut a s.heap h')(he:∃ q,h'.get? a=some q)(new:bD X.prog X.w (upd H a ob) h' a ob) :
  Inv X pins σ (upd H a ob) {s with heap:=h',toks:=t'}:=
 I.write (x:=a) (e:=a) mu (.inl rfl) (λb q hb z=>(hs.2 b hb).trans z) he new
theorem yr (z:kvs.length<=sizeLine)(hd:(a == sysModules)=false)(rel:KV kvs vs)(dd:h'.DictOf (bB P w) a vs) :
  bD P w H' h' a (.dK kvs):=⟨z,hd,vs,rel,dd⟩
theorem By {Q:Unit->Shared->Prop}(hu:A.units+64<cLine)(I:Inv X pins σ H s)(g:Ln H a y v H')(ry:RelV y u)(rv:RelV v r)(h:∀ s',Inv X pins σ H' s'->Q () s') :
  wpAny (model X.prog X.w) A (setItem (.ref a) u r) Q E s:=by
 rcases g with⟨kvs,k,e,ey,l,eH⟩ | ⟨kvs,k,b,e,ey,eb,l,eH⟩
 ·subst ey eH
  obtain⟨z,hd,vs,rel,dd⟩:=DJ I.hok e
  have hz:vs.length<=sizeLine:=by rw[<-rel.length];exact z
  have hl:(putK kvs k v).length<=sizeLine:=by have:=pI kvs k v;lia
  refine wpAny_setItem_pairs (hsz:=hz) (pG ry) dd λh' GN hs=>h _ ?_
  have he:∃ q,h'.get? a=some q:=let ⟨q,_,_,hq,_⟩:=GN;⟨q,hq⟩
  exact qc I (by rw[e];exact True.intro) hs he (yr hl hd (rel.put k rv) GN)
 ·subst ey eH
  cases(show u=Value.ref b from ry)
  obtain⟨z,hd,xs,rel,dd⟩:=Qe I.hok e
  have hz:xs.length<=sizeLine:=by rw[<-Paired.length rel];exact z
  have hl:(putK kvs k v).length<=sizeLine:=by have:=pI kvs k v;lia
  refine wpAny_setItem_heap (hsz:=hz) (lT hu) (rh I.hok eb) dd λh' GN hs=>h _ ?_
  obtain⟨q,es,ep,hq,h2,h3,h4,_,h5⟩:=GN
  refine qc I (by rw[e];exact True.intro) hs ⟨q,hq⟩ ⟨hl,hd,_,(rel.put k eb rv).keeps λc ys ec=>?_,q,es,ep,hq,h2,h3,h4,h5⟩
  rw[ax (Q1 ec e (λz=>nomatch z))]
  exact ec
end
section
variable {E:Value->Shared->Prop}
theorem OZ {Q:Unit->Shared->Prop}(I:Inv X pins σ H s)(e:H a=some (.dK kvs))(ry:RelV (kV k) u)(l:(lZ kvs k).isSome=true)(h:∀ s',Inv X pins σ (upd H a (.dK (iV kvs k))) s'->Q () s') :
  wpAny (model X.prog X.w) A (delItem (.ref a) u) Q E s:=by
 obtain⟨z,hd,vs,rel,dd⟩:=DJ I.hok e
 refine wpAny_delItem_slot dd.typeIs (by decide) PySem.F.slot_dict_delitem
  (call_meetsIn PySem.F.slot_dict_delitem dd.typeIs PySem.F.entry_dict_delitem (PySem.F.args_dict_delitem_2 _ _) (meets_dict_delitem_pairs (bB X.prog X.w) a (pG ry)) ⟨vs,dd,by rw[<-rel.length];exact z,by rw[<-(rel.val k).gO];exact l,λh' GN hs=>h _ ?_⟩)
 have he:∃ q,h'.get? a=some q:=let ⟨q,_,_,hq,_⟩:=GN;⟨q,hq⟩
 exact qc I (by rw[e];exact True.intro) hs he (yr (abE (v7 kvs k) z) hd (rel.drop k) GN)
theorem Qa {Q:Value->Shared->Prop}(I:Inv X pins σ H s)(e:H a=some (.dK kvs))(ry:RelV (kV k) u)(l:lZ kvs k=some v)(hm:more=[]\/∃ x,more=[x])
  (h:∀ w' s',Inv X pins σ (upd H a (.dK (iV kvs k))) s'->RelV v w'->Q w' s'):wpAny (model X.prog X.w) A (call (.builtin "dict.pop") (.ref a::u::more)) Q E s:=by
 obtain⟨z,hd,vs,rel,dd⟩:=DJ I.hok e
 obtain⟨w',hw,xq⟩:=j5.some_of (v:=v) (o:=valueAt vs k) (by rw[<-l];exact rel.val k)
 have hp:(keyPart u).isSome=true:=by
  cases k with
  |inl i=>obtain⟨t,q⟩:=(show ∃ t,u=Value.int i t from ry);subst q;rfl
  |inr x=>obtain⟨t,q⟩:=(show ∃ t,u=Value.str x t from ry);subst q;rfl
 have ha:argsOk "dict.pop" ⟨.ref a::u::more,[]⟩:=by
  rcases hm with q | ⟨x,q⟩
  ·subst q;exact PySem.F.args_dict_pop_2 _ _
  ·subst q;exact PySem.F.args_dict_pop_3 _ _ _
 refine call_meetsIn PySem.F.slot_dict_pop dd.typeIs PySem.F.entry_dict_pop ha (meets_dict_pop_there (bB X.prog X.w) a (pG ry) more hm hp)
  ⟨vs,w',dd,by rw[<-rel.length];exact z,hw,λh' GN hs=>h w' _ ?_ xq⟩
 have he:∃ q,h'.get? a=some q:=let ⟨q,_,_,hq,_⟩:=GN;⟨q,hq⟩
 exact qc I (by rw[e];exact True.intro) hs he (yr (abE (v7 kvs k) z) hd (rel.drop k) GN)
theorem P9 {Q:Value->Shared->Prop}(I:Inv X pins σ H s)(e:Rd H a (.dK kvs))(h:∀ t s',Inv X pins σ H s'->Q (.int kvs.length t) s'):wpAny (model X.prog X.w) A (call (.builtin "len") [.ref a]) Q E s:=by
 obtain⟨z,hd,vs,rel,dd⟩:=qH I.hok e
 refine call_len_dict hd dd (by rw[<-rel.length];rw[ab0]at z;lia) ?_
 rw[<-rel.length]
 exact h _ _ (I.tok _)
end
def Ls (i:Expr):Prop:=∀ ov iv,subscripted i false ov iv=operate [ov,iv] (getItem ov iv)
theorem AV {prog}{w}{A}{E:Value->Shared->Prop}{s}{env}{value slice}{pos}{T id:String}{Q:Value->Shared->Prop}
  (hl:typeLookup (.type T) "__getitem__" = pure (some (.builtin id))) (hs:Ls slice)
  (h:wpAny (model prog w) A (eval value env) (λo s₁=>wpAny (model prog w) A (eval slice env) (λi s₂=>s₂.TypeIs o T/\wpAny (model prog w) A (getItem o i) Q E s₂) E s₁) E s) :
  wpAny (model prog w) A (eval (.Subscript value slice pos) env) Q E s:=by
 refine Subscript_ (ab9 h (λo s₁ h₁=>ab9 h₁ (λi s₂ h₂=>?_) λ_ _ x=>x) λ_ _ x=>x)
 obtain⟨hT,h₂⟩:=h₂
 unfold subscriptTail
 refine abk ?_
 rw[getitemInPython_of_ne hT.not_modules]
 refine abk (wpAny_specialOf hT hl ?_)
 have fin:wpAny (model prog w) A (subscripted slice false o i) (λr s₃=>wpAny (model prog w) A (letTemporaryGo value o r >>= λ_=>pure r) Q E s₃) E s₂:=by
  rw[hs o i]
  exact wpAny_operating (ab9 h₂ (λr s₃ h₃=>abk (wpAny_letTemporaryGo (abm h₃))) λ_ _ x=>x)
 first
  |exact abm (abk fin)
  |exact abk (abm (abk fin))
  |exact abk fin
theorem vZ (I:Inv X pins σ H s)(g:vF H a y o):s.TypeIs (.ref a) "dict":=by
 rcases g with⟨kvs,k,e,_,_⟩ | ⟨kvs,k,b,e,_,_,_⟩
 ·obtain⟨_,_,vs,_,dd⟩:=qH I.hok e
  exact dd.typeIs
 ·obtain⟨_,_,xs,_,dd⟩:=qI I.hok e
  exact dd.typeIs
def Gg (td ty:TE):TE:=λσ H Q=>td σ H λx H1=>ty σ H1 λy H2=>∃ a v,x=.ref a/\vF H2 a y (some v)/\Q v H2
def Ot (ty td:TE):TE:=λσ H Q=>ty σ H λy H1=>td σ H1 λx H2=>∃ a o,x=.ref a/\vF H2 a y o/\Q (.bl o.isSome) H2
def vk (ty td:TE):TE:=λσ H Q=>ty σ H λy H1=>td σ H1 λx H2=>∃ a o,x=.ref a/\vF H2 a y o/\Q (.bl (!o.isSome)) H2
def FN (td ty tv:TE):TS:=λD σ H=>tv σ H λv H1=>td σ H1 λx H2=>ty σ H2 λy H3=>∃ a H4,x=.ref a/\Ln H3 a y v H4/\D.nx σ H4
section
theorem IT (hu:X.A.units+64<cLine)(ho:PE X o td)(hi:PE X i ty)(hs:Ls i):PE X (.Subscript o i pos) (Gg td ty):=by
 intro pins s σ H Q I h
 refine AV PySem.F.slot_dict_getitem.lookup hs (bK (ho pins s σ H _ I h) λu s1 ⟨x,H1,I1,rx,q1⟩=>bK (hi pins s1 σ H1 _ I1 q1) λiv s2 ⟨y,H2,I2,ry,a,v,ex,g,q2⟩=>?_)
 subst ex
 obtain rfl:u=Value.ref a:=rx
 exact⟨vZ I2 g,Bx hu I2 g ry λw' s3 I3 xq=>⟨v,H2,I3,xq,q2⟩⟩
theorem EW (hu:X.A.units+64<cLine)(hi:PE X i ty)(ho:PE X o td):PC X .In i o (Ot ty td):=by
 intro pins s σ H Q I h
 refine bK (hi pins s σ H _ I h) λiv s1 ⟨y,H1,I1,ry,q1⟩=>bK (ho pins s1 σ H1 _ I1 q1) λu s2 ⟨x,H2,I2,rx,a,ov,ex,g,q2⟩=>?_
 subst ex
 obtain rfl:u=Value.ref a:=rx
 exact Ue hu I2 g ry λs3 I3=>⟨.bl ov.isSome,H2,I3,rfl,q2⟩
theorem tZ (hu:X.A.units+64<cLine)(hi:PE X i ty)(ho:PE X o td):PC X .NotIn i o (vk ty td):=by
 intro pins s σ H Q I h
 refine bK (hi pins s σ H _ I h) λiv s1 ⟨y,H1,I1,ry,q1⟩=>bK (ho pins s1 σ H1 _ I1 q1) λu s2 ⟨x,H2,I2,rx,a,ov,ex,g,q2⟩=>?_
 subst ex
 obtain rfl:u=Value.ref a:=rx
 exact Hy hu I2 g ry λs3 I3=>⟨.bl (!ov.isSome),H2,I3,rfl,q2⟩
theorem Jb (hu:X.A.units+64<cLine)(ho:PE X o td)(hi:PE X i ty)(hv:PE X value tv)(hs:swapsWith value (some (.Subscript o i pos')) pos.line X.env=pure false) :
  PS X (.Assign [.Subscript o i pos'] value pos) (FN td ty tv):=by
 intro pins s σ H D I h
 refine wpAny_Assign_Subscript (bK (hv pins s σ H _ I h) λr s1 ⟨v,H1,I1,rv,q1⟩=>bK (ho pins s1 σ H1 _ I1 q1) λu s2 ⟨x,H2,I2,rx,q2⟩=>bK (hi pins s2 σ H2 _ I2 q2) λiv s3 ⟨y,H3,I3,ry,a,H4,ex,g,q3⟩=>?_) hs
 subst ex
 obtain rfl:u=Value.ref a:=rx
 exact By hu I3 g ry rv λs4 I4=>⟨σ,H4,I4,q3⟩
end
theorem DH (h:Heap)(hb:sysModules<h.objs.size):bD P w H (h.push {cls:=.type "dict",data:=.dict #[]}) h.objs.size (.dK []):=
 ⟨abO _,acg.mpr (acd (abI hb)),[],.nil,Heap.DictOf.new h⟩
theorem DL (h:Heap)(hb:sysModules<h.objs.size):bD P w H (h.push {cls:=.type "dict",data:=.dict #[]}) h.objs.size (.dT []):=
 ⟨abO _,acg.mpr (acd (abI hb)),[],.nil,_,#[],0,abz _ rfl,⟨rfl,rfl,rfl⟩,rfl,rfl,List.nodup_nil⟩
def zB:TE:=λ_ H Q=>∀ p,H p=none->Q (.ref p) (upd H p (.dK []))
def vj:TE:=λ_ H Q=>∀ p,H p=none->Q (.ref p) (upd H p (.dT []))
section
theorem E5:PE X (.Dict [] [] pos) zB:=λpins s σ H Q I h=>
 wpAny_Dict_empty ⟨.ref s.heap.objs.size,_,I.laid (a:=s.heap.objs.size) (o:=.dK []) (t':=s.toks) (λ_ _ q=>abp _ q) (abl _) (DH s.heap I.big),rfl,h _ (I.hok.fresh (abl _))⟩
theorem xl:PE X (.Dict [] [] pos) vj:=λpins s σ H Q I h=>
 wpAny_Dict_empty ⟨.ref s.heap.objs.size,_,I.laid (a:=s.heap.objs.size) (o:=.dT []) (t':=s.toks) (λ_ _ q=>abp _ q) (abl _) (DL s.heap I.big),rfl,h _ (I.hok.fresh (abl _))⟩
end
def jz (kvs more:List (Key×V)):List (Key×V):=more.foldl (λacc kv=>putK acc kv.1 kv.2) kvs
structure M1 (X:Cx)(o:Expr)(m:Str)(apos:Pos)(e:Expr)(b7:Pos):Prop where
 base:attributeBase o m X.env (eval o X.env)=eval o X.env
 GO:((backTo b7 (starEach [e] X.env)).all (λx=>!x.1)&&(backToKw b7 (keywordEach [] X.env)).all (λx=>x.1.isSome)
  &&decide (([e]:List Expr).length+([]:List Keyword).length+(if ([]:List Keyword).isEmpty then 0 else 1)<30))=true
 line:(apos.endLine == b7.line)=true
 trees:backTo b7 (starEach [e] X.env)=[(false,eval e X.env)]
def Si (H:Hp)(a:Addr):Prop:=(∃ kvs,Rd H a (.dK kvs))\/∃ kvs,Rd H a (.dT kvs)
theorem Mh (I:Inv X pins σ H s)(d:Si H a) :
  s.TypeIs (.ref a) "dict"/\(∀ b,Value.ref a=.ref b->∃ ob,s.heap.get? b=some ob/\ob.dict=none)/\(a == sysModules)=false:=by
 rcases d with⟨kvs,e⟩ | ⟨kvs,e⟩
 ·obtain⟨_,hd,vs,_,dd⟩:=qH I.hok e
  refine⟨dd.typeIs,λb q=>?_,hd⟩
  cases q
  obtain⟨ob,_,_,h1,h2,_⟩:=dd
  exact⟨ob,h1,h2.2.1⟩
 ·obtain⟨_,hd,xs,_,dd⟩:=qI I.hok e
  refine⟨dd.typeIs,λb q=>?_,hd⟩
  cases q
  obtain⟨ob,_,_,h1,h2,_⟩:=dd
  exact⟨ob,h1,h2.2.1⟩
def zC (td ty:TE):TE:=λσ H Q=>td σ H λx H1=>∃ a,x=.ref a/\Si H1 a/\ty σ H1 λy H2=>∃ kvs k v,H2 a=some (.dK kvs)/\y=kV k/\lZ kvs k=some v/\Q v (upd H2 a (.dK (iV kvs k)))
section
theorem E6 (ho:PE X o td)(he:PE X e ty)(m:M1 X o "pop" apos e b7):PE X (.Call (.Attribute o "pop" apos) [e] [] b7) (zC td ty):=by
 intro pins s σ H Q I h
 refine wpAny_Call_method m.base m.GO m.line PySem.F.plainAttrs_dict PySem.F.slot_dict_pop PySem.F.type_dict_pop (bK (ho pins s σ H _ I h) λu s1 ⟨x,H1,I1,rx,a,ex,d,q1⟩=>?_)
 subst ex
 obtain rfl:u=Value.ref a:=rx
 obtain⟨t1,t2,_⟩:=Mh I1 d
 refine⟨t1,t2,?_⟩
 rw[m.trees]
 refine Calls.callWith_builtin rfl (Calls.evalArgs_plain (Calls.spliced_cons (bK (he pins s1 σ H1 _ I1 q1) λiv s2 ⟨y,H2,I2,ry,kvs,k,v,ea,ey,l,q2⟩=>Calls.spliced_nil ?_)))
 subst ey
 exact Qa I2 ea ry l (.inl rfl) λw' s3 I3 xq=>⟨v,_,I3,xq,q2⟩
end
section
theorem Br:eC X (.builtin "len") (λxs H Q=>∃ a kvs,xs=[V.ref a]/\H a=some (.dK kvs)/\Q (.int kvs.length) H):=by
 intro pins s σ H xs us Q I r h
 obtain⟨a,kvs,rfl,ha,q⟩:=h
 obtain⟨u,rfl,ru⟩:=vals1 r
 cases ru
 exact P9 I (.inl ha) λt s' I'=>⟨.int kvs.length,H,I',⟨t,rfl⟩,q⟩
end
end L2
namespace S
open PySem L2
variable [kf:KF]
noncomputable def aa (i:Nat):ME:=λσ h=>(σ[i]?).bind λo=>o.bind λu=>some (u,h)
noncomputable def mC (u:U):ME:=λ_ h=>some (u,h)
instance Wc {i:Nat}:SE (OD i) (aa i):=⟨λ{σ H Q σu ι h u h'} hs hr e q=>by
 unfold aa at e
 cases e1:σu[i]? with
 |none=>rw[e1]at e;cases e
 |some o=>
  rw[e1]at e
  cases o with
  |none=>cases e
  |some x=>
   cases e
   obtain⟨v,hv,r⟩:=hs.get e1
   exact⟨v,hv,q ι H v .refl hr r⟩⟩
instance N7:SE (tC .aq) (mC .aq):=⟨λhs hr e q=>by cases e;exact q _ _ _ .refl hr .aq⟩
instance RH {b:Bool}:SE (tC (.bl b)) (mC (.bl b)):=⟨λhs hr e q=>by cases e;exact q _ _ _ .refl hr .bl⟩
instance N3 {i:Int}:SE (tC (.int i)) (mC (.int i)):=⟨λhs hr e q=>by cases e;exact q _ _ _ .refl hr .int⟩
instance N8 {x:Str}:SE (tC (.str x)) (mC (.str x)):=⟨λhs hr e q=>by cases e;exact q _ _ _ .refl hr .str⟩
noncomputable def ay (g:M2)(a b:ME):ME:=λσ h=>(a σ h).bind λp=>(b σ p.2).bind λq=>g p.1 q.1 q.2
noncomputable def ba (g:M1)(a:ME):ME:=λσ h=>(a σ h).bind λp=>g p.1 p.2
theorem bind_some {α β:Type}{o:Option α}{f:α->Option β}{b:β}(h:o.bind f=some b):∃ a,o=some a/\f a=some b:=by
 cases o with
 |none=>cases h
 |some a=>exact⟨a,rfl,h⟩
instance AO {r:R2}{g:M2}{ta tb:TE}{ma mb:ME}[G:SO r g][A:SE ta ma][B:SE tb mb]:SE (CY r ta tb) (ay g ma mb):=⟨λ{σ H Q σu ι h u h'} hs hr e q=>by
 obtain⟨⟨x,h1⟩,e1,e⟩:=bind_some e
 obtain⟨⟨y,h2⟩,e2,e⟩:=bind_some e
 refine A.go hs hr e1 λι1 H1 v1 x1 r1 k1=>?_
 refine B.go (hs.mono (x1.kp hr)) r1 e2 λι2 H2 v2 x2 r2 k2=>?_
 exact G.go r2 (k1.mono (x2.kp r1)) k2 e λι3 H3 v3 x3 r3 k3=>q ι3 H3 v3 ((x1.trans x2).trans x3) r3 k3⟩
instance RK {r:V->Hp->VK->Prop}{g:M1}{ta:TE}{ma:ME}[G:SU r g][A:SE ta ma]:SE (Wx r ta) (ba g ma):=⟨λ{σ H Q σu ι h u h'} hs hr e q=>by
 obtain⟨⟨x,h1⟩,e1,e⟩:=bind_some e
 refine A.go hs hr e1 λι1 H1 v1 x1 r1 k1=>?_
 exact G.go r1 k1 e λι3 H3 v3 x3 r3 k3=>q ι3 H3 v3 (x1.trans x3) r3 k3⟩
noncomputable def d7 (g g':M2):M2:=λa b h=>match g a b h with | some r=>some r | none=>g' a b h
instance RP {r r':R2}{g g':M2}[A:SO r g][B:SO r' g']:SO (λx y H Q=>r x y H Q\/r' x y H Q) (d7 g g'):=⟨λ{x y H Q a b ι h u h'} hr ka kb e q=>by
 unfold d7 at e
 cases e1:g a b h with
 |some z=>rw[e1]at e;cases e;exact .inl (A.go hr ka kb e1 q)
 |none=>rw[e1]at e;exact .inr (B.go hr ka kb e q)⟩
noncomputable def pK (a b:ME):ME:=λσ h=>(a σ h).bind λp=>match p.1 with | .bl true=>b σ p.2 | .bl false=>some (.bl false,p.2) | _=>none
noncomputable def Aw (a:ME):ME:=λσ h=>(a σ h).bind λp=>match p.1 with | .bl c=>some (.bl (!c),p.2) | _=>none
instance Tg {ta tb:TE}{ma mb:ME}[A:SE ta ma][B:SE tb mb]:SE (Gf ta tb) (pK ma mb):=⟨λ{σ H Q σu ι h u h'} hs hr e q=>by
 obtain⟨⟨x,h1⟩,e1,e⟩:=bind_some e
 refine A.go hs hr e1 λι1 H1 v1 x1 r1 k1=>?_
 cases k1 with
 |@bl c=>
  refine⟨c,rfl,?_⟩
  cases c with
  |true=>exact B.go (hs.mono (x1.kp hr)) r1 e λι2 H2 v2 x2 r2 k2=>q ι2 H2 v2 (x1.trans x2) r2 k2
  |false=>cases e;exact q _ _ _ x1 r1 .bl
 |_=>exact nk e⟩
instance Tp {ta:TE}{ma:ME}[A:SE ta ma]:SE (Gm ta) (Aw ma):=⟨λ{σ H Q σu ι h u h'} hs hr e q=>by
 obtain⟨⟨x,h1⟩,e1,e⟩:=bind_some e
 refine A.go hs hr e1 λι1 H1 v1 x1 r1 k1=>?_
 cases k1 with
 |@bl c=>cases e;exact⟨c,rfl,q _ _ _ x1 r1 .bl⟩
 |_=>exact nk e⟩
noncomputable def mB (a:ME):MT:=λσ h=>(a σ h).bind λp=>match p.1 with | .bl c=>some (c,p.2) | _=>none
instance Wq {ta:TE}{ma:ME}[A:SE ta ma]:ST (tB ta) (mB ma):=⟨λ{σ H Q σu ι h u h'} hs hr e q=>by
 obtain⟨⟨x,h1⟩,e1,e⟩:=bind_some e
 refine A.go hs hr e1 λι1 H1 v1 x1 r1 k1=>?_
 cases k1 with
 |bl=>cases e;exact⟨_,rfl,q _ _ x1 r1⟩
 |_=>exact nk e⟩
instance JA {ta:TE}{ma:ME}[A:SE ta ma]:ST (Gn ta) (mB ma):=⟨λ{σ H Q σu ι h u h'} hs hr e q=>(Wq (ta:=ta) (ma:=ma)).go hs hr e q⟩
noncomputable def wO (a b:MT):MT:=λσ h=>(a σ h).bind λp=>if p.1=true then b σ p.2 else some (false,p.2)
noncomputable def uV (a b:MT):MT:=λσ h=>(a σ h).bind λp=>if p.1=true then some (true,p.2) else b σ p.2
noncomputable def sM (a:MT):MT:=λσ h=>(a σ h).bind λp=>some (!p.1,p.2)
instance Wr {t u:TT}{a b:MT}[A:ST t a][B:ST u b]:ST (Oq t u) (wO a b):=⟨λ{σ H Q σu ι h c h'} hs hr e q=>by
 obtain⟨⟨x,h1⟩,e1,e⟩:=bind_some e
 refine A.go hs hr e1 λι1 H1 x1 r1=>?_
 dsimp only at e ⊢
 cases x with
 |true=>exact B.go (hs.mono (x1.kp hr)) r1 e λι2 H2 x2 r2=>q ι2 H2 (x1.trans x2) r2
 |false=>cases e;exact q _ _ x1 r1⟩
instance Yn {t u:TT}{a b:MT}[A:ST t a][B:ST u b]:ST (Wv t u) (uV a b):=⟨λ{σ H Q σu ι h c h'} hs hr e q=>by
 obtain⟨⟨x,h1⟩,e1,e⟩:=bind_some e
 refine A.go hs hr e1 λι1 H1 x1 r1=>?_
 dsimp only at e ⊢
 cases x with
 |false=>exact B.go (hs.mono (x1.kp hr)) r1 e λι2 H2 x2 r2=>q ι2 H2 (x1.trans x2) r2
 |true=>cases e;exact q _ _ x1 r1⟩
instance Ws {t:TT}{a:MT}[A:ST t a]:ST (Oy t) (sM a):=⟨λ{σ H Q σu ι h c h'} hs hr e q=>by
 obtain⟨⟨x,h1⟩,e1,e⟩:=bind_some e
 cases e
 exact A.go hs hr e1 λι1 H1 x1 r1=>q _ _ x1 r1⟩
noncomputable def S3 (c:MT)(a b:ME):ME:=λσ h=>(c σ h).bind λp=>if p.1=true then a σ p.2 else b σ p.2
instance Yg {t:TT}{ta tb:TE}{c:MT}{ma mb:ME}[C:ST t c][A:SE ta ma][B:SE tb mb]:SE (Wu t ta tb) (S3 c ma mb):=⟨λ{σ H Q σu ι h u h'} hs hr e q=>by
 obtain⟨⟨x,h1⟩,e1,e⟩:=bind_some e
 refine C.go hs hr e1 λι1 H1 x1 r1=>?_
 dsimp only at e ⊢
 cases x with
 |true=>exact A.go (hs.mono (x1.kp hr)) r1 e λι2 H2 v2 x2 r2 k2=>q ι2 H2 v2 (x1.trans x2) r2 k2
 |false=>exact B.go (hs.mono (x1.kp hr)) r1 e λι2 H2 v2 x2 r2 k2=>q ι2 H2 v2 (x1.trans x2) r2 k2⟩
noncomputable def mY (u:U)(h:MH):Option Bool:=match u with
 |.aq=>some false
 |.bl b=>some b
 |.int i=>some (i != 0)
 |.str y=>if y.length<=sizeLine then some ((y.length:Int) != 0) else none
 |.tup xs=>some (!xs.isEmpty)
 |.lst xs=>some (!xs.isEmpty)
 |.dK kvs=>some (!kvs.isEmpty)
 |.dT _=>none
 |.eA _=>none
 |.iY _=>none
 |.ref n=>match h[n]? with
  |some (.lst xs)=>some (!xs.isEmpty)
  |some (.dK kvs)=>some (!kvs.isEmpty)
  |_=>none
def R6 (K:PySem.W.Frag)(ta:TE):TT:=λσ H Q=>ta σ H λx H'=>∃ k,Hd K x H' k/\Q k H'
noncomputable def ij (a:ME):MT:=λσ h=>(a σ h).bind λp=>(mY p.1 p.2).bind λb=>some (b,p.2)
theorem aH.isEmpty (r:aH ι H us vs):(!us.isEmpty) = !vs.isEmpty:=by cases r<;>rfl
theorem aX.isEmpty {κ:Type}{ι:List Addr}{H:Hp}{us:List (κ×U)}{vs:List (κ×V)}(r:aX ι H us vs):(!us.isEmpty) = !vs.isEmpty:=by cases r<;>rfl
theorem aE.ref {ι:List Addr}{H:Hp}{h:MH}(r:aE ι H h){n:Nat}{a:Addr}(e:ι[n]?=some a){o:MO}(eo:h[n]?=some o):gP ι H a o:=r.obj n a o e eo
theorem OJ (hr:aE ι H h)(k:Rel ι H u v)(e:mY u h=some b):Hd kf.K v H b:=by
 cases k with
 |aq=>cases e;rfl
 |bl=>cases e;rfl
 |int=>cases e;rfl
 |str=>
  unfold mY at e
  dsimp only at e
  split at e
  ·rename_i hl;cases e;exact⟨hl,rfl⟩
  ·cases e
 |tup ha hs=>cases e;exact .inr (.inl ⟨_,i8.of ha,hs.isEmpty⟩)
 |lst na ha hs=>cases e;exact .inl ⟨_,fh.of ha,hs.isEmpty⟩
 |dK na ha ek hs=>cases e;exact .inr (.inr ⟨_,ha,(aX.of ek hs).isEmpty⟩)
 |dT na ha ek hs=>cases e
 |eA _ _=>cases e
 |iY _ _=>cases e
 |@ref n a hn=>
  unfold mY at e
  dsimp only at e
  cases eo:h[n]? with
  |none=>rw[eo]at e;cases e
  |some o=>
   rw[eo]at e
   have mo:=hr.ref hn eo
   cases o with
   |lst us=>cases e;obtain⟨vs,q,r⟩:=mo;exact .inl ⟨vs,fh.of q,r.isEmpty⟩
   |dK kvs=>cases e;obtain⟨vs,q,r⟩:=mo;exact .inr (.inr ⟨vs,q,r.isEmpty⟩)
   |dT kvs=>cases e
   |fT kvs=>cases e
   |ins C fs=>cases e
instance Wt {ta:TE}{ma:ME}[A:SE ta ma]:ST (R6 kf.K ta) (ij ma):=⟨λ{σ H Q σu ι h u h'} hs hr e q=>by
 obtain⟨⟨x,h1⟩,e1,e⟩:=bind_some e
 obtain⟨b,e2,e⟩:=bind_some e
 cases e
 refine A.go hs hr e1 λι1 H1 v1 x1 r1 k1=>?_
 exact⟨_,OJ r1 k1 e2,q _ _ x1 r1⟩⟩
noncomputable def af:MA:=λ_ h=>some ([],h)
noncomputable def ab (a:ME)(r:MA):MA:=λσ h=>(a σ h).bind λp=>(r σ p.2).bind λq=>some (p.1::q.1,q.2)
instance V8:SA rX af:=⟨λhs hr e q=>by cases e;exact q _ _ _ .refl hr .nil⟩
instance Te {ta:TE}{tr:TA}{ma:ME}{mr:MA}[A:SE ta ma][B:SA tr mr]:SA (nY ta tr) (ab ma mr):=⟨λ{σ H Q σu ι h u h'} hs hr e q=>by
 obtain⟨⟨x,h1⟩,e1,e⟩:=bind_some e
 obtain⟨⟨y,h2⟩,e2,e⟩:=bind_some e
 cases e
 refine A.go hs hr e1 λι1 H1 v1 x1 r1 k1=>?_
 refine B.go (hs.mono (x1.kp hr)) r1 e2 λι2 H2 v2 x2 r2 k2=>?_
 exact q ι2 H2 _ (x1.trans x2) r2 (.cons (k1.mono (x2.kp r1)) k2)⟩
noncomputable def av (a:MA):ME:=λσ h=>(a σ h).bind λp=>if p.1.length<=sizeLine then some (.tup p.1,p.2) else none
noncomputable def bZ (a:MA):ME:=λσ h=>(a σ h).bind λp=>if p.1.length<=sizeLine then some (.ref p.2.length,p.2++[.lst p.1]) else none
theorem ao {α:Type}{c:Prop}[Decidable c]{o:Option α}{b:α}(h:(if c then o else none)=some b):c/\o=some b:=by
 split at h
 ·exact⟨‹_›,h⟩
 ·cases h
theorem eY (hr:aE ι H h)(hp:H p=none)(r:aH ι H us vs) :
  Ext ι H (ι++[p]) (upd H p (.lst vs))/\aE (ι++[p]) (upd H p (.lst vs)) (h++[.lst us])/\Rel (ι++[p]) (upd H p (.lst vs)) (.ref h.length) (.ref p):=by
 have e:Ext ι H (ι++[p]) (upd H p (.lst vs)):=⟨⟨[p],rfl⟩,λa o _ q=>by rw[ax (a0 q hp)];exact q,λa m n=>by
  rcases abP.mp m with z | z
  ·exact absurd z n
  ·simp at z;subst z;exact hp,λa o u q=>by rw[ax (a0 q hp)];exact q⟩
 obtain⟨x,y⟩:=hr.new hp (u:=.lst vs) (o:=.lst us) ⟨vs,bF,r.mono (e.kp hr)⟩
 refine⟨x,y,.ref ?_⟩
 rw[<-hr.len];simp
theorem jB (hr:aE ι H h)(hp:H p=none)(r:aH ι H us vs) :
  Ext ι H ι (upd H p (.tup vs))/\aE ι (upd H p (.tup vs)) h/\Rel ι (upd H p (.tup vs)) (.tup us) (.ref p):=by
 obtain⟨x,y⟩:=hr.uZ hp vs
 exact⟨x,y,.tup bF (r.mono (x.kp hr))⟩
instance Wb {t:TA}{m:MA}[A:SA t m]:SE (OC t) (av m):=⟨λ{σ H Q σu ι h u h'} hs hr e q=>by
 obtain⟨⟨x,h1⟩,e1,e⟩:=bind_some e
 obtain⟨hl,e⟩:=ao e
 cases e
 refine A.go hs hr e1 λι1 H1 v1 x1 r1 k1=>⟨by rw[<-k1.length];exact hl,λp hp=>?_⟩
 obtain⟨a,b,c⟩:=jB r1 hp k1
 exact q _ _ _ (x1.trans a) b c⟩
instance Wa {t:TA}{m:MA}[A:SA t m]:SE (Ox t) (bZ m):=⟨λ{σ H Q σu ι h u h'} hs hr e q=>by
 obtain⟨⟨x,h1⟩,e1,e⟩:=bind_some e
 obtain⟨hl,e⟩:=ao e
 cases e
 refine A.go hs hr e1 λι1 H1 v1 x1 r1 k1=>⟨by rw[<-k1.length];exact hl,λp hp=>?_⟩
 obtain⟨a,b,c⟩:=eY r1 hp k1
 exact q _ _ _ (x1.trans a) b c⟩
def oh (n:Nat)(f:MF):Sp:=λvs H Q _=>vs.length=n/\∃ ι us h u h',aE ι H h/\aH ι H us vs/\f us h=some (u,h')/\∀ ι' H' v,Ext ι H ι' H'->aE ι' H' h'->Rel ι' H' u v->Q v H'
noncomputable def au (n:Nat)(f:MF)(a:MA):ME:=λσ h=>(a σ h).bind λp=>if p.1.length=n then f p.1 p.2 else none
instance Ti {n:Nat}{f:MF}{E:XK}{t:TA}{m:MA}[A:SA t m]:SE (AW (oh n f) [] E t) (au n f m):=⟨λ{σ H Q σu ι h u h'} hs hr e q=>by
 obtain⟨⟨x,h1⟩,e1,e⟩:=bind_some e
 obtain⟨hl,e⟩:=ao e
 refine A.go hs hr e1 λι1 H1 v1 x1 r1 k1=>?_
 show oh n f (v1++[]) H1 Q E
 rw[acj]
 exact⟨by rw[<-k1.length];exact hl,ι1,x,h1,u,h',r1,k1,e,λι2 H2 v2 x2 r2 k2=>q _ _ _ (x1.trans x2) r2 k2⟩⟩
noncomputable def fZ (N:Nat)(m:MS):MF:=λus h=>(m (us.map some++List.replicate (N-us.length) none) h).bind λp=>match p.1 with
 |.nx _=>some (.aq,p.2)
 |.rt u=>some (u,p.2)
 |_=>none
theorem cK.start (k):∀ {us}{vs},aH ι H us vs->cK ι H (us.map some++List.replicate k none) (vs.map some++List.replicate k none)
 |_,_,.nil=>by
  induction k with
  |zero=>exact .nil
  |succ k ih=>exact .cons .any ih
 |_,_,.cons a b=>.cons (.some a) (cK.start k b)
theorem DR [A:SS t m](h:oh n (fZ N.length m) vs H Q E):t {nx:=λ_ H'=>Q .aq H',rt:=Q} (L2.start N vs) H:=by
 obtain⟨hl,ι,us,h,u,h',hr,r,e,q⟩:=h
 obtain⟨⟨f,h2⟩,e1,e⟩:=bind_some e
 have Zs:us.length=vs.length:=r.length
 unfold L2.start
 rw[<-Zs]
 refine A.go (cK.start _ r) hr e1 λι1 H1 x1 r1=>?_
 cases f with
 |nx σ=>cases e;exact λσ' _=>q _ _ _ x1 r1 .aq
 |rt u=>cases e;exact λv k=>q _ _ _ x1 r1 k
 |bk σ=>cases e
 |ct σ=>cases e
noncomputable def aT:MS:=λσ h=>some (.nx σ,h)
noncomputable def ag (a b:MS):MS:=λσ h=>(a σ h).bind λp=>match p.1 with | .nx σ'=>b σ' p.2 | f=>some (f,p.2)
noncomputable def aK (a:ME):MS:=λσ h=>(a σ h).bind λp=>some (.nx σ,p.2)
noncomputable def bh (a:ME):MS:=λσ h=>(a σ h).bind λp=>some (.rt p.1,p.2)
noncomputable def bg (c:MT)(a b:MS):MS:=λσ h=>(c σ h).bind λp=>if p.1=true then a σ p.2 else b σ p.2
instance Tw:SS Gk aT:=⟨λhs hr e q=>by cases e;exact q _ _ .refl hr _ hs⟩
instance Wn {t u:TS}{a b:MS}[A:SS t a][B:SS u b]:SS (OA t u) (ag a b):=⟨λ{D σ H σu ι h f h'} hs hr e q=>by
 obtain⟨⟨f1,h1⟩,e1,e⟩:=bind_some e
 refine A.go (D:={D with nx:=u D}) hs hr e1 λι1 H1 x1 r1=>?_
 cases f1 with
 |nx σ1=>exact λσ' hs'=>B.go hs' r1 e λι2 H2 x2 r2=>q _ _ (x1.trans x2) r2
 |bk σ1=>cases e;exact q _ _ x1 r1
 |ct σ1=>cases e;exact q _ _ x1 r1
 |rt u1=>cases e;exact q _ _ x1 r1⟩
instance Tv {t:TE}{a:ME}[A:SE t a]:SS (Gh t) (aK a):=⟨λ{D σ H σu ι h f h'} hs hr e q=>by
 obtain⟨⟨x,h1⟩,e1,e⟩:=bind_some e
 cases e
 exact A.go hs hr e1 λι1 H1 v1 x1 r1 k1=>q _ _ x1 r1 _ (hs.mono (x1.kp hr))⟩
instance Wm {t:TE}{a:ME}[A:SE t a]:SS (Oz t) (bh a):=⟨λ{D σ H σu ι h f h'} hs hr e q=>by
 obtain⟨⟨x,h1⟩,e1,e⟩:=bind_some e
 cases e
 exact A.go hs hr e1 λι1 H1 v1 x1 r1 k1=>q _ _ x1 r1 _ k1⟩
instance Yl {c:TT}{t u:TS}{mc:MT}{a b:MS}[C:ST c mc][A:SS t a][B:SS u b]:SS (Ou c t u) (bg mc a b):=⟨λ{D σ H σu ι h f h'} hs hr e q=>by
 obtain⟨⟨x,h1⟩,e1,e⟩:=bind_some e
 refine C.go hs hr e1 λι1 H1 x1 r1=>?_
 dsimp only at e ⊢
 cases x with
 |true=>exact A.go (hs.mono (x1.kp hr)) r1 e λι2 H2 x2 r2=>q _ _ (x1.trans x2) r2
 |false=>exact B.go (hs.mono (x1.kp hr)) r1 e λι2 H2 x2 r2=>q _ _ (x1.trans x2) r2⟩
noncomputable def nName (i:Nat):MG:=λu σ h=>some (σ.set i (some u),h)
noncomputable def fV:G6:=λus σ h=>match us with | []=>some (σ,h) | _=>none
noncomputable def aM (g:MG)(r:G6):G6:=λus σ h=>match us with | u::us=>(g u σ h).bind λp=>r us p.1 p.2 | []=>none
noncomputable def fW (n:Nat)(r:G6):MG:=λu σ h=>match u with | .tup us=>if us.length=n then r us σ h else none | _=>none
instance Tr {i:Nat}:SG (nu i) (nName i):=⟨λhs hr k e q=>by cases e;exact q _ _ _ .refl hr (hs.set (.some k) _)⟩
instance Ts:PH L1 fV:=⟨λ{vs σ H Q us σu ι h Lm h'} hs hr k e q=>by
 cases k with
 |nil=>cases e;exact⟨rfl,q _ _ _ .refl hr hs⟩
 |cons _ _=>cases e⟩
instance RM {t:TG}{u:GL}{g:MG}{r:G6}[A:SG t g][B:PH u r]:PH (DW t u) (aM g r):=⟨λ{vs σ H Q us σu ι h Lm h'} hs hr k e q=>by
 cases k with
 |nil=>cases e
 |cons k1 k2=>
  obtain⟨⟨σ1,h1⟩,e1,e⟩:=bind_some e
  refine⟨_,_,rfl,A.go hs hr k1 e1 λι1 H1 σ' x1 r1 s1=>?_⟩
  exact B.go s1 r1 (k2.mono (x1.kp hr)) e λι2 H2 σ2 x2 r2 s2=>q _ _ _ (x1.trans x2) r2 s2⟩
instance Wf {n:Nat}{t:GL}{r:G6}[A:PH t r]:SG (L3 kf.K n t) (fW n r):=⟨λ{v σ H Q u σu ι h Lm h'} hs hr k e q=>by
 cases k with
 |tup ha ks=>
  obtain⟨hl,e⟩:=ao (show(if _=n then r _ σu h else none)=some _ from e)
  exact⟨_,_,rfl,i8.of ha,by rw[<-ks.length];exact hl,A.go hs hr ks e q⟩
 |_=>exact nk e⟩
noncomputable def ak (a:ME)(g:MG):MS:=λσ h=>(a σ h).bind λp=>(g p.1 σ p.2).bind λq=>some (.nx q.1,q.2)
instance Wk {t:TE}{g:TG}{a:ME}{n:MG}[A:SE t a][G:SG g n]:SS (xF t g) (ak a n):=⟨λ{D σ H σu ι h f h'} hs hr e q=>by
 obtain⟨⟨x,h1⟩,e1,e⟩:=bind_some e
 obtain⟨⟨σ1,h2⟩,e2,e⟩:=bind_some e
 cases e
 refine A.go hs hr e1 λι1 H1 v1 x1 r1 k1=>?_
 exact G.go (hs.mono (x1.kp hr)) r1 k1 e2 λι2 H2 σ2 x2 r2 s2=>q _ _ (x1.trans x2) r2 _ s2⟩
class SSet [kf:KF](t:Hc)(g:outParam (U->U->U->MH->Option MH)):Prop where
 go:∀ {x y z:V}{H:Hp}{Q:Hp->Prop}{a b c:U}{ι:List Addr}{h h':MH},aE ι H h->Rel ι H a x->Rel ι H b y->Rel ι H c z->g a b c h=some h'->(∀ ι' H',Ext ι H ι' H'->aE ι' H' h'->Q H')->t x y z H Q
abbrev mZ:=Nat->MH->Option (Option U)
abbrev MI:=bG->MH->Option (mZ×MH)
theorem Kg:∃ n:Nat,n=1000000000:=⟨_,rfl⟩
noncomputable def FU:Nat:=Classical.choose Kg
theorem jS (h:n<1000000000):n<FU:=by unfold FU;rw[Classical.choose_spec Kg];exact h
def sy (ι:List Addr)(H:Hp)(J:It)(it:mZ):Prop:=∀ ι' H' h i,Ext ι H ι' H'->aE ι' H' h->
 (it i h=some none->J.stop i H')/\∀ x,it i h=some (some x)->J.go i H'/\∀ v H2,J.yld i H' v H2->Ext ι' H' ι' H2/\aE ι' H2 h/\Rel ι' H2 x v
class SI [kf:KF](wi:TI)(mi:outParam MI):Prop where
 go:∀ {σ:St}{H:Hp}{R:It->Hp->Prop}{σu:bG}{ι:List Addr}{h:MH}{it:mZ}{h':MH},cK ι H σu σ->aE ι H h->mi σu h=some (it,h')->
  (∀ ι' H' J,Ext ι H ι' H'->aE ι' H' h'->sy ι' H' J it->R J H')->wi σ H R
noncomputable def lz (it:mZ)(g:MG)(b:MS):Nat->Nat->bG->MH->Option (Fl×MH)
 |0,_,_,_=>none
 |n+1,i,σ,h=>(it i h).bind λo=>match o with
  |none=>some (.nx σ,h)
  |some x=>(g x σ h).bind λp=>(b p.1 p.2).bind λq=>match q.1 with
   |.nx σ2=>lz it g b n (i+1) σ2 q.2
   |.ct σ2=>lz it g b n (i+1) σ2 q.2
   |.bk σ2=>some (.nx σ2,q.2)
   |.rt u=>some (.rt u,q.2)
def df (mi:MI)(g:MG)(b:MS):MS:=λσ h=>(mi σ h).bind λp=>lz p.1 g b FU 0 σ p.2
instance Wl {wi:TI}{g:TG}{tb:TS}{mi:MI}{n:MG}{b:MS}[I:SI wi mi][G:SG g n][B:SS tb b]:SS (Gi wi g tb) (df mi n b):=⟨λ{D σ H σu ι h f h'} hs hr e q=>by
 obtain⟨⟨it,h1⟩,e1,e⟩:=bind_some e
 refine I.go hs hr e1 λι1 H1 J x1 r1 jr=>?_
 refine⟨λi m σ2 H2=>∃ ι2 vE h2,Ext ι1 H1 ι2 H2/\aE ι2 H2 h2/\cK ι2 H2 vE σ2/\lz it n b m i vE h2=some (f,h'),⟨FU,ι1,σu,h1,.refl,r1,hs.mono (x1.kp hr),e⟩,?_⟩
 rintro i m σ2 H2 ⟨ι2,vE,h2,x2,r2,s2,e2⟩
 cases m with
 |zero=>cases e2
 |succ m=>
  obtain⟨o,e3,e4⟩:=bind_some e2
  obtain⟨j1,j2⟩:=jr ι2 H2 h2 i x2 r2
  cases o with
  |none=>
   cases e4
   exact .inl ⟨j1 e3,q _ _ (x1.trans x2) r2 _ s2⟩
  |some x=>
   obtain⟨go,yl⟩:=j2 x e3
   obtain⟨⟨σ5,h5⟩,e5,e6⟩:=bind_some e4
   obtain⟨⟨f7,h7⟩,e7,e8⟩:=bind_some e6
   refine .inr ⟨go,λσ3 H3=>∃ ι2 vE h2,Ext ι1 H1 ι2 H3/\aE ι2 H3 h2/\cK ι2 H3 vE σ3/\lz it n b m (i+1) vE h2=some (f,h'),λσ3 H3 w=>⟨m,Nat.lt_succ_self m,w⟩,λv H3 y=>?_⟩
   obtain⟨x3,r3,k3⟩:=yl v H3 y
   refine G.go (s2.mono (x3.kp r2)) r3 k3 e5 λι4 H4 σ4 x4 r4 s4=>?_
   refine B.go s4 r4 e7 λι5 H5 x5 r5=>?_
   have xx:=((x2.trans x3).trans x4).trans x5
   cases f7 with
   |nx σ8=>exact λσ9 s9=>⟨ι5,σ8,h7,xx,r5,s9,e8⟩
   |ct σ8=>exact λσ9 s9=>⟨ι5,σ8,h7,xx,r5,s9,e8⟩
   |bk σ8=>cases e8;exact λσ9 s9=>q _ _ (x1.trans xx) r5 _ s9
   |rt u8=>cases e8;exact λv9 k9=>q _ _ (x1.trans xx) r5 _ k9⟩
noncomputable def nM (c:MT)(b:MS):Nat->bG->MH->Option (Fl×MH)
 |0,_,_=>none
 |n+1,σ,h=>(c σ h).bind λp=>if p.1=true then(b σ p.2).bind λq=>match q.1 with
   |.nx σ2=>nM c b n σ2 q.2
   |.ct σ2=>nM c b n σ2 q.2
   |.bk σ2=>some (.nx σ2,q.2)
   |.rt u=>some (.rt u,q.2)
  else some (.nx σ,p.2)
def c4 (c:MT)(b:MS):MS:=λσ h=>nM c b FU σ h
instance RW {c:TT}{tb:TS}{mc:MT}{b:MS}[C:ST c mc][B:SS tb b]:SS (zE c tb) (c4 mc b):=⟨λ{D σ H σu ι h f h'} hs hr e q=>by
 refine⟨λm σ2 H2=>∃ ι2 vE h2,Ext ι H ι2 H2/\aE ι2 H2 h2/\cK ι2 H2 vE σ2/\nM mc b m vE h2=some (f,h'),⟨FU,ι,σu,h,.refl,hr,hs,e⟩,?_⟩
 rintro m σ2 H2 ⟨ι2,vE,h2,x2,r2,s2,e2⟩
 cases m with
 |zero=>cases e2
 |succ m=>
  obtain⟨⟨k,h3⟩,e3,e4⟩:=bind_some e2
  refine C.go s2 r2 e3 λι3 H3 x3 r3=>?_
  dsimp only at e4 ⊢
  have xx:=x2.trans x3
  have s3:=s2.mono (x3.kp r2)
  cases k with
  |false=>cases e4;exact q _ _ xx r3 _ s3
  |true=>
   rw[abr rfl]at e4 ⊢
   obtain⟨⟨f7,h7⟩,e7,e8⟩:=bind_some e4
   refine⟨λσ4 H4=>∃ ι2 vE h2,Ext ι H ι2 H4/\aE ι2 H4 h2/\cK ι2 H4 vE σ4/\nM mc b m vE h2=some (f,h'),λσ3 H3 w=>⟨m,Nat.lt_succ_self m,w⟩,?_⟩
   refine B.go s3 r3 e7 λι5 H5 x5 r5=>?_
   have xy:=xx.trans x5
   cases f7 with
   |nx σ8=>exact λσ9 s9=>⟨ι5,σ8,h7,xy,r5,s9,e8⟩
   |ct σ8=>exact λσ9 s9=>⟨ι5,σ8,h7,xy,r5,s9,e8⟩
   |bk σ8=>cases e8;exact λσ9 s9=>q _ _ xy r5 _ s9
   |rt u8=>cases e8;exact λv9 k9=>q _ _ xy r5 _ k9⟩
noncomputable def cf (σ:bG)(o:Option Nat):Option U:=o.bind λj=>(σ[j]?).join
theorem cK.pull (hs:cK ι H σu σ):∀ (ix:List (Option Nat)),cK ι H (ix.map (cf σu)) (ix.map (pull σ))
 |[]=>.nil
 |o::r=>by
  refine .cons ?_ (hs.pull r)
  cases o with
  |none=>exact .any
  |some j=>
   show vH ι H ((σu[j]?).join) ((σ[j]?).join)
   cases e:σu[j]? with
   |none=>exact .any
   |some o=>
    cases o with
    |none=>exact .any
    |some u=>
     obtain⟨v,hv,k⟩:=hs.get e
     rw[hv];exact .some k
noncomputable def jJ (it:mZ)(g:MG)(c:MT)(a:ME)(n:Nat):Nat->Nat->bG->MH->Option MH
 |0,_,_,_=>none
 |m+1,i,σ,h=>(it i h).bind λo=>match o with
  |none=>some h
  |some x=>(g x σ h).bind λp=>(c p.1 p.2).bind λk=>if k.1=true
    then(a p.1 k.2).bind λq=>match q.2[n]? with
     |some (.lst acc)=>if acc.length<sizeLine then jJ it g c a n m (i+1) p.1 (q.2.set n (.lst (acc++[q.1]))) else none
     |_=>none
    else jJ it g c a n m (i+1) p.1 k.2
noncomputable def bS:MT:=λ_ h=>some (true,h)
def bY (ix:List (Option Nat))(mi:MI)(g:MG)(c:MT)(a:ME):ME:=λσ h=>(mi σ h).bind λp=>(jJ p.1 g c a p.2.length FU 0 (ix.map (cf σ)) (p.2++[.lst []])).bind λh'=>some (.ref p.2.length,h')
theorem hV (hr:aE ι H h)(hn:ι[n]?=some p)(e:H p=some (.lst vs))(k:aH ι H vp Po) :
  Ext ι H ι (upd H p (.lst Po))/\aE ι (upd H p (.lst Po)) (h.set n (.lst vp)):=by
 have hp:p∈ι:=abY hn
 have x:Ext ι H ι (upd H p (.lst Po)):=⟨⟨[],by simp⟩,λa o m q=>by rw[ax (show a≠p from λz=>m (by rw[z];exact hp))];exact q,λa m n=>absurd m n,λa o u q=>by rw[ax (λz=>by subst z;rw[e]at q;cases q)];exact q⟩
 exact hr.put hn (λws z=>by rw[e]at z;cases z) (λ_ _ z=>by rw[e]at z;cases z) ⟨Po,bF,k.mono (x.kp hr)⟩
def CW (it:mZ)(n:MG)(c:MT)(a:ME)(k:Nat)(ι1:List Addr)(H1:Hp)(fin:MH)(i m:Nat)(σ2:St)(H2:Hp):Prop:=
 ∃ ι2 vE h2,Ext ι1 H1 ι2 H2/\aE ι2 H2 h2/\cK ι2 H2 vE σ2/\jJ it n c a k m i vE h2=some fin
theorem vU {it:mZ}{n:MG}{c:MT}{a:ME}{k:Nat}{ι1 ι5:List Addr}{H1 H5:Hp}{D:Addr}{fin:MH}{i m:Nat}{Wz:bG}{σ4:St}{y:U}{v:V}{h5:MH}
  (x:Ext ι1 H1 ι5 H5) (hk:ι1[k]?=some D) (r5:aE ι5 H5 h5) (ky:Rel ι5 H5 y v) (s4:cK ι5 H5 Wz σ4)
  (e:(match h5[k]? with | some (.lst acc)=>if acc.length<sizeLine then jJ it n c a k m (i+1) Wz (h5.set k (.lst (acc++[y]))) else none | _=>none)=some fin) :
  ∃ vs,H5 D=some (.lst vs)/\vs.length<sizeLine/\CW it n c a k ι1 H1 fin (i+1) m σ4 (upd H5 D (.lst (vs++[v]))):=by
 have Xp:=x.at hk
 cases eo:h5[k]? with
 |none=>rw[eo]at e;cases e
 |some o=>
  rw[eo]at e
  have mo:=r5.obj k D o Xp eo
  cases o with
  |lst acc=>
   dsimp only at e
   obtain⟨hz,e⟩:=ao e
   obtain⟨vs,q,r⟩:=mo
   obtain⟨z1,z2⟩:=hV r5 Xp q (r.append (.cons ky .nil))
   exact⟨vs,q,by rw[<-r.length];exact hz,ι5,Wz,_,x.trans z1,z2,s4.mono (z1.kp r5),e⟩
  |_=>exact nk e
instance Tj {ix:List (Option Nat)}{wi:TI}{g:TG}{te:TE}{mi:MI}{n:MG}{a:ME}[I:SI wi mi][G:SG g n][A:SE te a]:SE (xG ix wi g te) (bY ix mi n bS a):=⟨λ{σ H Q σu ι h u h'} hs hr e q=>by
 obtain⟨⟨it,h1⟩,e1,e⟩:=bind_some e
 obtain⟨h2,e2,e⟩:=bind_some e
 cases e
 refine I.go hs hr e1 λι1 H1 J x1 r1 jr D hD=>?_
 obtain⟨y1,y2,y3⟩:=eY r1 hD .nil
 have hk:(ι1++[D])[h1.length]?=some D:=by rw[<-r1.len];simp
 refine⟨CW it n bS a h1.length (ι1++[D]) (upd H1 D (.lst [])) h',⟨FU,_,_,_,.refl,y2,(hs.mono ((x1.trans y1).kp hr)).pull ix,e2⟩,?_⟩
 rintro i m σ2 H2 ⟨ι2,vE,h3,x2,r2,s2,ec⟩
 cases m with
 |zero=>cases ec
 |succ m=>
  obtain⟨o,e3,e4⟩:=bind_some ec
  obtain⟨j1,j2⟩:=jr ι2 H2 h3 i (y1.trans x2) r2
  cases o with
  |none=>
   cases e4
   exact .inl ⟨j1 e3,q _ _ _ (x1.trans (y1.trans x2)) r2 (.ref (x2.at hk))⟩
  |some x=>
   obtain⟨go,yl⟩:=j2 x e3
   obtain⟨⟨σ5,h5⟩,e5,e6⟩:=bind_some e4
   obtain⟨⟨k6,h6⟩,e7,e8⟩:=bind_some e6
   cases e7
   obtain⟨⟨y,h9⟩,e9,e8⟩:=bind_some (show(a σ5 h5).bind _=some _ from e8)
   refine .inr ⟨go,CW it n bS a h1.length (ι1++[D]) (upd H1 D (.lst [])) h' (i+1) m,λσ3 H3 w=>⟨m,Nat.lt_succ_self m,w⟩,λv H3 yy=>?_⟩
   obtain⟨x3,r3,k3⟩:=yl v H3 yy
   refine G.go (s2.mono (x3.kp r2)) r3 k3 e5 λι4 H4 σ4 x4 r4 s4=>?_
   refine A.go s4 r4 e9 λι5 H5 v5 x5 r5 k5=>?_
   exact vU (((x2.trans x3).trans x4).trans x5) hk r5 k5 (s4.mono (x5.kp r4)) e8⟩
end S
namespace L2
open PySem PySem.Spec PyProof.Rows PySem.SeqAt
mutual
inductive RD (h:Heap):Value->PyData->Prop
 |aq:RD h .none .none
 |bl (b:Bool):RD h (.bool b) (.bool b)
 |int (i:Int) (t:Tok):RD h (.int i t) (.int i)
 |str (x:Str) (t:Tok):RD h (.str x t) (.str x)
 |lst {a:Addr} {vs:Array Value} {xs:List PyData}:h.IsList a vs->p9 h vs.toList xs->RD h (.ref a) (.list xs)
 |tup {a:Addr} {vs:Array Value} {xs:List PyData}:h.IsTuple a vs->p9 h vs.toList xs->RD h (.ref a) (.tuple xs)
inductive p9 (h:Heap):List Value->List PyData->Prop
 |nil:p9 h [] []
 |cons {v:Value} {d:PyData} {vs:List Value} {ds:List PyData}:RD h v d->p9 h vs ds->p9 h (v::vs) (d::ds)
end
theorem p9.length:∀ {vs:List Value}{ds:List PyData},p9 h vs ds->vs.length=ds.length
 |_,_,.nil=>rfl
 |_,_,.cons _ r=>congrArg Nat.succ r.length
theorem An {h:Heap}{a:Addr}{vs ws:Array Value}:h.IsList a vs->h.IsList a ws->vs=ws:=λ⟨o,e,_,n,d⟩ ⟨o',e',_,n',d'⟩=>by
 rw[e]at e';cases e'
 rw[d]at d';cases d';rfl
theorem Ap {h:Heap}{a:Addr}{vs ws:Array Value}:h.IsTuple a vs->h.IsTuple a ws->vs=ws:=λ⟨o,e,_,n,d⟩ ⟨o',e',_,n',d'⟩=>by
 rw[e]at e';cases e'
 rw[d]at d';cases d';rfl
theorem Ao {h:Heap}{a:Addr}{vs ws:Array Value}:h.IsList a vs->h.IsTuple a ws->False:=λ⟨o,e,c,_⟩ ⟨o',e',c',_⟩=>by
 rw[e]at e';cases e'
 rw[c]at c'
 exact absurd c' (by simp)
theorem p9.one {h:Heap}{v:List Value}{k j:List PyData}(a:p9 h v k)(b:p9 h v j):k=j:=
 p9.rec (motive_1:=λv k _=>∀ j,RD h v j->k=j) (motive_2:=λv k _=>∀ j,p9 h v j->k=j) (λ_ q=>by cases q;rfl) (λ_ _ q=>by cases q;rfl) (λ_ _ _ q=>by cases q;rfl) (λ_ _ _ q=>by cases q;rfl)
  (λp _ i _ q=>by
   cases q with
   |lst q s=>cases An p q;rw[i _ s]
   |tup q _=>exact(Ao p q).elim)
  (λp _ i _ q=>by
   cases q with
   |tup q s=>cases Ap p q;rw[i _ s]
   |lst q _=>exact(Ao q p).elim) (λ_ q=>by cases q;rfl) (λ_ _ i l _ q=>by cases q with | cons b s=>rw[i _ b,l _ s]) a j b
theorem RD.one (a:RD h v k)(b:RD h v j):k=j:=(List.cons.inj (p9.one (.cons a .nil) (.cons b .nil))).1
mutual
theorem RD.refl:∀ {v}{d:PyData},RD h v d->PyData.eqv d d=true
 |_,_,.aq=>rfl
 |_,_,.bl _=>by simp[PyData.eqv]
 |_,_,.int _ _=>by simp[PyData.eqv]
 |_,_,.str _ _=>by simp[PyData.eqv]
 |_,_,.lst _ r=>by rw[PyData.eqv];exact p9.refl r
 |_,_,.tup _ r=>by rw[PyData.eqv];exact p9.refl r
theorem p9.refl:∀ {vs:List Value}{ds:List PyData},p9 h vs ds->PyData.eqvAll ds ds=true
 |_,_,.nil=>rfl
 |_,_,.cons a r=>by rw[PyData.eqvAll,RD.refl a,p9.refl r];rfl
end
mutual
theorem Ae:∀ (d:PyData) {e:PyData}{A:Around}{s:Shared}{a b:Value},RD s.heap a d->RD s.heap b e->A.units+min d.depth e.depth<cLine->EqAt A s a b (PyData.eqv d e)
 |.none,_,_,_,_,_,ra,rb,hu=>by
  cases ra
  cases rb with
  |aq=>exact EqAt.same _
  |bl y=>exact EqAt.none_bool y
  |int y u=>exact EqAt.none_int y u
  |str y u=>exact EqAt.none_str y u
  |lst p r=>exact EqAt.none_list p (room_here hu)
  |tup p r=>exact EqAt.none_tuple p (room_here hu)
 |.bool x,_,_,_,_,_,ra,rb,hu=>by
  cases ra
  cases rb with
  |aq=>exact EqAt.bool_none x
  |bl y=>exact EqAt.bool_bool x y
  |int y u=>exact EqAt.bool_int x y u
  |str y u=>exact EqAt.bool_str x y u
  |lst p r=>exact EqAt.bool_list x p (room_here hu)
  |tup p r=>exact EqAt.bool_tuple x p (room_here hu)
 |.int x,_,_,_,_,_,ra,rb,hu=>by
  cases ra with
  |int _ t=>
   cases rb with
   |aq=>exact EqAt.int_none x t
   |bl y=>exact EqAt.int_bool x t y
   |int y u=>exact EqAt.int_int x t y u
   |str y u=>exact EqAt.int_str x t y u
   |lst p r=>exact EqAt.int_list x t p (room_here hu)
   |tup p r=>exact EqAt.int_tuple x t p (room_here hu)
 |.str x,_,_,_,_,_,ra,rb,hu=>by
  cases ra with
  |str _ t=>
   cases rb with
   |aq=>exact EqAt.str_none x t
   |bl y=>exact EqAt.str_bool x t y
   |int y u=>exact EqAt.str_int x t y u
   |str y u=>exact EqAt.str_str x t y u
   |lst p r=>exact EqAt.str_list x t p (room_here hu)
   |tup p r=>exact EqAt.str_tuple x t p (room_here hu)
 |.list xs,_,A,s,_,_,ra,rb,hu=>by
  cases ra with
  |@lst l vs _ p r=>
   cases rb with
   |aq=>exact EqAt.list_none p (room_here hu)
   |bl y=>exact EqAt.list_bool y p (room_here hu)
   |int y u=>exact EqAt.list_int y u p (room_here hu)
   |str y u=>exact EqAt.list_str y u p (room_here hu)
   |tup q z=>exact EqAt.list_tuple p q (room_here hu)
   |@lst k ws ys q z=>
    have n1:vs.size=xs.length:=by simpa using r.length
    have n2:ws.size=ys.length:=by simpa using z.length
    show EqAt A s (.ref l) (.ref k) (PyData.eqvAll xs ys)
    by_cases HQ:l=k
    ·subst HQ
     cases An p q
     cases p9.one r z
     rw[r.refl]
     exact EqAt.same _
    ·by_cases hz:vs.size=ws.size
     ·rw[<-eqvAll_same_length (show xs.length=ys.length by lia),<-n1]
      refine EqAt.of_refs HQ (RcAt.lists p q hz (room_here hu) λj j1 j2=>?_)
      exact kG xs (A:=A.in1) r z (room_in hu) j (by simpa using j1) (by simpa using j2)
     ·rw[eqvAll_other_length (show xs.length≠ys.length by lia)]
      exact EqAt.of_refs HQ (RcAt.lists_lengths p q (by simpa using hz) (room_here hu))
 |.tuple xs,_,A,s,_,_,ra,rb,hu=>by
  cases ra with
  |@tup l vs _ p r=>
   cases rb with
   |aq=>exact EqAt.tuple_none p (room_here hu)
   |bl y=>exact EqAt.tuple_bool y p (room_here hu)
   |int y u=>exact EqAt.tuple_int y u p (room_here hu)
   |str y u=>exact EqAt.tuple_str y u p (room_here hu)
   |lst q z=>exact EqAt.tuple_list p q (room_here hu)
   |@tup k ws ys q z=>
    have n1:vs.size=xs.length:=by simpa using r.length
    have n2:ws.size=ys.length:=by simpa using z.length
    show EqAt A s (.ref l) (.ref k) (PyData.eqvAll xs ys)
    by_cases HQ:l=k
    ·subst HQ
     cases Ap p q
     cases p9.one r z
     rw[r.refl]
     exact EqAt.same _
    ·rw[<-eqvAll_eq xs ys,<-n1,<-n2]
     refine EqAt.of_refs HQ (RcAt.tuples p q (room_here hu) λj j1 j2=>?_)
     exact kG xs (A:=A.in1) r z (room_in hu) j (by simpa using j1) (by simpa using j2)
 |.dict _,_,_,_,_,_,ra,_,_=>nomatch ra
theorem kG:∀ (xs:List PyData) {ys:List PyData}{A}{s}{vs ws:List Value},p9 s.heap vs xs->p9 s.heap ws ys->A.units+min (PyData.depthAll xs) (PyData.depthAll ys)<cLine->
  ∀ j (h1:j<vs.length) (h2:j<ws.length),EqAt A s vs[j] ws[j] (pairEq xs ys j)
 |[],_,_,_,_,_,ra,_,_,j,h1,_=>by cases ra;exact absurd h1 (Nat.not_lt_zero _)
 |x::xs,_,A,s,_,_,ra,rb,hu,j,h1,h2=>by
  cases ra with
  |cons r rs=>
   cases rb with
   |nil=>exact absurd h2 (Nat.not_lt_zero _)
   |cons z zs=>
    cases j with
    |zero=>exact Ae x r z (room_head hu)
    |succ j=>exact kG xs rs zs (room_tail hu) j (Nat.lt_of_succ_lt_succ h1) (Nat.lt_of_succ_lt_succ h2)
end
theorem AJ (ra:RD s.heap a d)(rb:RD s.heap b e)(hu:A.units+min d.depth e.depth<cLine):RcAt A s a b (PyData.eqv d e)/\RcNeAt A s a b (!PyData.eqv d e):=by
 cases ra with
 |aq=>
  cases rb with
  |aq=>exact⟨RcAt.none_none,RcNeAt.none_none⟩
  |bl y=>exact⟨RcAt.none_bool y,RcNeAt.none_bool y⟩
  |int y u=>exact⟨RcAt.none_int y u,RcNeAt.none_int y u⟩
  |str y u=>exact⟨RcAt.none_str y u,RcNeAt.none_str y u⟩
  |lst p r=>exact⟨RcAt.none_list p (room_here hu),RcNeAt.none_list p (room_here hu)⟩
  |tup p r=>exact⟨RcAt.none_tuple p (room_here hu),RcNeAt.none_tuple p (room_here hu)⟩
 |bl x=>
  cases rb with
  |aq=>exact⟨RcAt.bool_none x,RcNeAt.bool_none x⟩
  |bl y=>exact⟨RcAt.bool_bool x y,RcNeAt.bool_bool x y⟩
  |int y u=>exact⟨RcAt.bool_int x y u,RcNeAt.bool_int x y u⟩
  |str y u=>exact⟨RcAt.bool_str x y u,RcNeAt.bool_str x y u⟩
  |lst p r=>exact⟨RcAt.bool_list x p (room_here hu),RcNeAt.bool_list x p (room_here hu)⟩
  |tup p r=>exact⟨RcAt.bool_tuple x p (room_here hu),RcNeAt.bool_tuple x p (room_here hu)⟩
 |int x t=>
  cases rb with
  |aq=>exact⟨RcAt.int_none x t,RcNeAt.int_none x t⟩
  |bl y=>exact⟨RcAt.int_bool x t y,RcNeAt.int_bool x t y⟩
  |int y u=>exact⟨RcAt.int_int x t y u,RcNeAt.int_int x t y u⟩
  |str y u=>exact⟨RcAt.int_str x t y u,RcNeAt.int_str x t y u⟩
  |lst p r=>exact⟨RcAt.int_list x t p (room_here hu),RcNeAt.int_list x t p (room_here hu)⟩
  |tup p r=>exact⟨RcAt.int_tuple x t p (room_here hu),RcNeAt.int_tuple x t p (room_here hu)⟩
 |str x t=>
  cases rb with
  |aq=>exact⟨RcAt.str_none x t,RcNeAt.str_none x t⟩
  |bl y=>exact⟨RcAt.str_bool x t y,RcNeAt.str_bool x t y⟩
  |int y u=>exact⟨RcAt.str_int x t y u,RcNeAt.str_int x t y u⟩
  |str y u=>exact⟨RcAt.str_str x t y u,RcNeAt.str_str x t y u⟩
  |lst p r=>exact⟨RcAt.str_list x t p (room_here hu),RcNeAt.str_list x t p (room_here hu)⟩
  |tup p r=>exact⟨RcAt.str_tuple x t p (room_here hu),RcNeAt.str_tuple x t p (room_here hu)⟩
 |@lst l vs xs p r=>
  cases rb with
  |aq=>exact⟨RcAt.list_none p (room_here hu),RcNeAt.list_none p (room_here hu)⟩
  |bl y=>exact⟨RcAt.list_bool y p (room_here hu),RcNeAt.list_bool y p (room_here hu)⟩
  |int y u=>exact⟨RcAt.list_int y u p (room_here hu),RcNeAt.list_int y u p (room_here hu)⟩
  |str y u=>exact⟨RcAt.list_str y u p (room_here hu),RcNeAt.list_str y u p (room_here hu)⟩
  |tup q z=>exact⟨RcAt.list_tuple p q (room_here hu),RcNeAt.list_tuple p q (room_here hu)⟩
  |@lst k ws ys q z=>
   have n1:vs.size=xs.length:=by simpa using r.length
   have n2:ws.size=ys.length:=by simpa using z.length
   have he:∀ j (j1:j<vs.size) (j2:j<ws.size),EqAt A.in1 s vs[j] ws[j] (pairEq xs ys j):=λj j1 j2=>kG xs (A:=A.in1) r z (room_in hu) j (by simpa using j1) (by simpa using j2)
   show RcAt A s (.ref l) (.ref k) (PyData.eqvAll xs ys)/\RcNeAt A s (.ref l) (.ref k) (!PyData.eqvAll xs ys)
   by_cases hz:vs.size=ws.size
   ·rw[<-eqvAll_same_length (show xs.length=ys.length by lia),<-n1]
    exact⟨RcAt.lists p q hz (room_here hu) he,RcNeAt.lists p q hz (room_here hu) he⟩
   ·rw[eqvAll_other_length (show xs.length≠ys.length by lia)]
    exact⟨RcAt.lists_lengths p q (by simpa using hz) (room_here hu),RcNeAt.lists_lengths p q (by simpa using hz) (room_here hu)⟩
 |@tup l vs xs p r=>
  cases rb with
  |aq=>exact⟨RcAt.tuple_none p (room_here hu),RcNeAt.tuple_none p (room_here hu)⟩
  |bl y=>exact⟨RcAt.tuple_bool y p (room_here hu),RcNeAt.tuple_bool y p (room_here hu)⟩
  |int y u=>exact⟨RcAt.tuple_int y u p (room_here hu),RcNeAt.tuple_int y u p (room_here hu)⟩
  |str y u=>exact⟨RcAt.tuple_str y u p (room_here hu),RcNeAt.tuple_str y u p (room_here hu)⟩
  |lst q z=>exact⟨RcAt.tuple_list p q (room_here hu),RcNeAt.tuple_list p q (room_here hu)⟩
  |@tup k ws ys q z=>
   have n1:vs.size=xs.length:=by simpa using r.length
   have n2:ws.size=ys.length:=by simpa using z.length
   have he:∀ j (j1:j<vs.size) (j2:j<ws.size),EqAt A.in1 s vs[j] ws[j] (pairEq xs ys j):=λj j1 j2=>kG xs (A:=A.in1) r z (room_in hu) j (by simpa using j1) (by simpa using j2)
   show RcAt A s (.ref l) (.ref k) (PyData.eqvAll xs ys)/\RcNeAt A s (.ref l) (.ref k) (!PyData.eqvAll xs ys)
   rw[<-eqvAll_eq xs ys,<-n1,<-n2]
   exact⟨RcAt.tuples p q (room_here hu) he,RcNeAt.tuples p q (room_here hu) he⟩
mutual
inductive DV (H:Hp):V->PyData->Prop
 |aq:DV H .aq .none
 |bl {b:Bool}:DV H (.bl b) (.bool b)
 |int {i:Int}:DV H (.int i) (.int i)
 |str {x:Str}:DV H (.str x) (.str x)
 |lst {a:Addr} {vs:List V} {xs:List PyData}:Rd H a (.lst vs)->CJ H vs xs->DV H (.ref a) (.list xs)
 |tup {a:Addr} {vs:List V} {xs:List PyData}:Rd H a (.tup vs)->CJ H vs xs->DV H (.ref a) (.tuple xs)
inductive CJ (H:Hp):List V->List PyData->Prop
 |nil:CJ H [] []
 |cons {v:V} {d:PyData} {vs:List V} {ds:List PyData}:DV H v d->CJ H vs ds->CJ H (v::vs) (d::ds)
end
mutual
theorem DV.rd (ok:jU P w H h):∀ {x}{d:PyData}{u},DV H x d->RelV x u->RD h u d
 |_,_,_,.aq,r=>by cases r;exact .aq
 |_,_,_,.bl,r=>by cases r;exact .bl _
 |_,_,_,.int,r=>by obtain⟨t,rfl⟩:=r;exact .int _ t
 |_,_,_,.str,r=>by obtain⟨t,rfl⟩:=r;exact .str _ t
 |_,_,_,.lst e k,r=>by
  cases r
  obtain⟨_,its,n,rv,q⟩:=e.ok ok
  exact .lst ⟨_,q,rfl,n,rfl⟩ (by simpa using CJ.rd ok k rv)
 |_,_,_,.tup e k,r=>by
  cases r
  obtain⟨_,its,rv,q⟩:=e.ok ok
  exact .tup q.tup (by simpa using CJ.rd ok k rv)
theorem CJ.rd (ok:jU P w H h):∀ {xs}{ds:List PyData}{us:List Value},CJ H xs ds->Vals xs us->p9 h us ds
 |_,_,_,.nil,r=>by cases r;exact .nil
 |_,_,_,.cons a b,r=>by cases r with | cons r1 r2=>exact .cons (DV.rd ok a r1) (CJ.rd ok b r2)
end
noncomputable def Dp:Nat:=40
def ND (neg:Bool):R2:=λx y H Q=>∃ d e,DV H x d/\DV H y e/\min d.depth e.depth<=Dp/\Q (.bl (if neg then !PyData.eqv d e else PyData.eqv d e)) H
def zj (neg:Bool):R2:=λx y H Q=>∃ p xs d ds,y=.ref p/\(Rd H p (.lst xs)\/Rd H p (.tup xs))/\DV H x d/\CJ H xs ds/\d.depth<=Dp/\
 Q (.bl (if neg then !ds.any (λe=>PyData.eqv e d) else ds.any λe=>PyData.eqv e d)) H
section
theorem M4 (hu:X.A.units+64<cLine):lV X (compareOp .Eq) (ND false):=by
 intro pins s σ H x y v u Q I rx ry h
 obtain⟨d,e,hd,he,hz,q⟩:=h
 have z:=(AJ (A:=X.A) (hd.rd I.hok rx) (he.rd I.hok ry) (by unfold Dp at hz;lia)).1
 exact z X.prog X.w X.xe _ ⟨.bl _,H,I,rfl,q⟩
theorem M8 (hu:X.A.units+64<cLine):lV X (compareOp .NotEq) (ND true):=by
 intro pins s σ H x y v u Q I rx ry h
 obtain⟨d,e,hd,he,hz,q⟩:=h
 have z:=(AJ (A:=X.A) (hd.rd I.hok rx) (he.rd I.hok ry) (by unfold Dp at hz;lia)).2
 exact z X.prog X.w X.xe _ ⟨.bl _,H,I,rfl,q⟩
open Classical in
theorem inD {A:Around}{s:Shared}{v:Value}{d:PyData}(rd:RD s.heap v d)(hz:d.depth<=Dp)(hu:A.units+64<cLine):∀ {us:List Value}{ds:List PyData},p9 s.heap us ds->
  (∀ y∈us,EqAt A.in1 s y v (decide (∃ e,RD s.heap y e/\PyData.eqv e d=true)))/\us.any (λy=>decide (∃ e,RD s.heap y e/\PyData.eqv e d=true))=ds.any λe=>PyData.eqv e d
 |_,_,.nil=>⟨(λ_ h=>nomatch h),rfl⟩
 |_,_,.cons (v:=y) (d:=e) a r=>by
  obtain⟨h1,h2⟩:=inD rd hz hu r
  have e1:decide (∃ e,RD s.heap y e/\PyData.eqv e d=true)=PyData.eqv e d:=by
   cases k:PyData.eqv e d with
   |true=>exact decide_eq_true ⟨e,a,k⟩
   |false=>exact acq λ⟨e',a',k'⟩=>by rw[RD.one a' a,k]at k';cases k'
  refine⟨λz hm=>?_,by rw[List.any_cons,List.any_cons,e1,h2]⟩
  rcases abW.mp hm with q | q
  ·subst q
   rw[e1]
   refine Ae e (A:=A.in1) a rd ?_
   have:min e.depth d.depth<=d.depth:=Nat.min_le_right _ _
   show A.units+1+min e.depth d.depth<cLine
   unfold Dp at hz
   lia
  ·exact h1 z q
theorem ET (hu:X.A.units+64<cLine):lV X (compareOp .In) (zj false):=by
 intro pins s σ H x y v u Q I rx ry h
 obtain⟨p,xs,d,ds,rfl,hp,hd,GQ,hz,q⟩:=h
 cases ry
 have rd:=hd.rd I.hok rx
 rcases hp with hp | hp
 ·obtain⟨_,its,n,rv,e⟩:=hp.ok I.hok
  obtain⟨h1,h2⟩:=inD rd hz hu (GQ.rd I.hok rv)
  refine SeqAt.in_listAt _ ⟨_,e,rfl,n,rfl⟩ (λy hy=>h1 y (by simpa using hy)) ⟨.bl _,H,I,rfl,?_⟩
  rw[List.any_toArray,h2]
  exact q
 ·obtain⟨_,its,rv,e⟩:=hp.ok I.hok
  obtain⟨h1,h2⟩:=inD rd hz hu (GQ.rd I.hok rv)
  refine SeqAt.in_tupleAt _ e.tup (λy hy=>h1 y (by simpa using hy)) ⟨.bl _,H,I,rfl,?_⟩
  rw[List.any_toArray,h2]
  exact q
theorem tX (hu:X.A.units+64<cLine):lV X (compareOp .NotIn) (zj true):=by
 intro pins s σ H x y v u Q I rx ry h
 obtain⟨p,xs,d,ds,rfl,hp,hd,GQ,hz,q⟩:=h
 cases ry
 have rd:=hd.rd I.hok rx
 rcases hp with hp | hp
 ·obtain⟨_,its,n,rv,e⟩:=hp.ok I.hok
  obtain⟨h1,h2⟩:=inD rd hz hu (GQ.rd I.hok rv)
  refine SeqAt.notIn_listAt _ ⟨_,e,rfl,n,rfl⟩ (λy hy=>h1 y (by simpa using hy)) ⟨.bl _,H,I,rfl,?_⟩
  rw[List.any_toArray,h2]
  exact q
 ·obtain⟨_,its,rv,e⟩:=hp.ok I.hok
  obtain⟨h1,h2⟩:=inD rd hz hu (GQ.rd I.hok rv)
  refine SeqAt.notIn_tupleAt _ e.tup (λy hy=>h1 y (by simpa using hy)) ⟨.bl _,H,I,rfl,?_⟩
  rw[List.any_toArray,h2]
  exact q
end
end L2
namespace L2
open PySem PySem.Spec PyProof.Rows
section
variable {X:Cx}
def K3:R2:=λx y H Q=>∃ a b xs ys,x=.ref a/\y=.ref b/\H a=some (.tup xs)/\H b=some (.tup ys)/\xs.length+ys.length<=sizeLine/\
 (xs=[]->Q (.ref b) H)/\(xs≠[]->ys=[]->Q (.ref a) H)/\(xs≠[]->ys≠[]->∀ p,H p=none->Q (.ref p) (upd H p (.tup (xs++ys))))
theorem IJ:lV X (binaryOp .Add) K3:=by
 intro pins s σ H x y v u Q I rx ry h
 obtain⟨a,b,xs,ys,rfl,rfl,ha,hb,hz,q0,q1,q2⟩:=h
 by_cases hx:xs=[]
 ·cases rx
  cases ry
  obtain⟨its,r1,p1,_⟩:=I.tuple (i8.of (K:=X.K) ha)
  obtain⟨sI,r2,p2,_⟩:=I.tuple (i8.of (K:=X.K) hb)
  have hi:its=[]:=r1.nR.mpr hx
  subst hi
  obtain⟨⟨c1,d1,t1,l1⟩,ho,hc,n,hd⟩:=id p1
  obtain⟨⟨c2,d2,t2,l2⟩,Mb,Sy,n2,hd2⟩:=id p2
  cases hc;cases hd;cases Sy;cases hd2
  exact concat_meets ⟨_,ho,rfl⟩ ⟨_,Mb,rfl⟩ noFill_tuple_add seq_tuple_add F.slot_tuple_add F.entry_tuple_add (F.args_tuple_add_2 _ _) (tuple_addW0 a b _ _ n n2 d1 d2 l1 l2 rfl) ⟨ho,Mb,⟨.ref b,H,I,rfl,q0 hx⟩⟩
 ·exact IK pins s σ H _ _ v u Q I rx ry ⟨a,b,xs,ys,rfl,rfl,i8.of ha,i8.of hb,hx,hz,q1 hx,q2 hx⟩
def Fu:R2:=λx y H Q=>(Fw λi j=>.int (i+j)) x y H Q\/(∃ i j,x=.str i/\y=.str j/\i.length+j.length<=sizeLine/\Q (.str (i++j)) H)\/Rl x y H Q\/K3 x y H Q
theorem II:lV X (binaryOp .Add) Fu:=MZ.or (ze.or (M0.or IJ))
def Jh (K:PySem.W.Frag):V->Option Int->Option Int->Hp->VK->Prop:=λx lo hi H Q=>Ru K x lo hi H Q\/Rw K x lo hi H Q\/Rv x lo hi H Q
theorem N9:Ha X (Jh X.K):=Jt.or (Ob.or Oa)
def Mg (K:PySem.W.Frag)(tl:TE):TI:=λσ H R=>Ko K tl σ H R\/QG K tl σ H R
theorem Nu {tg l:Expr}{tl:TE}(hl:PE X l tl):PI X tg l (Mg X.K tl):=λpins s σ H R I h=>h.elim (IY hl pins s σ H R I) (Nv hl pins s σ H R I)
end
end L2
namespace S
open PySem L2
variable [kf:KF]
section
noncomputable def aQ (h:MH):U->Option (List U)
 |.tup us=>some us
 |.lst us=>some us
 |.eA us=>some us
 |.iY us=>some us
 |.ref n=>match h[n]? with
  |some (.lst us)=>some us
  |_=>none
 |_=>none
noncomputable def cD:U->Bool
 |.eA _=>false
 |.iY _=>false
 |_=>true
noncomputable def isTup:U->Bool
 |.tup _=>true
 |_=>false
theorem lh (hr:aE ι H h)(k:Rel ι H u v)(hp:cD u=true)(e:aQ h u=some us):∃ p vs,v=.ref p/\aH ι H us vs/\((isTup u=true/\u=.tup us/\H p=some (.tup vs))\/(isTup u=false/\H p=some (.lst vs))):=by
 cases k with
 |tup ha ks=>cases e;exact⟨_,_,rfl,ks,.inl ⟨rfl,rfl,ha⟩⟩
 |lst na ha ks=>cases e;exact⟨_,_,rfl,ks,.inr ⟨rfl,ha⟩⟩
 |@ref n a hn=>
  unfold aQ at e
  dsimp only at e
  cases eo:h[n]? with
  |none=>rw[eo]at e;cases e
  |some o=>
   rw[eo]at e
   have mo:=hr.ref hn eo
   cases o with
   |lst xs=>cases e;obtain⟨vs,q,r⟩:=mo;exact⟨_,vs,rfl,r,.inr ⟨rfl,q⟩⟩
   |dK kvs=>cases e
   |dT kvs=>cases e
   |fT kvs=>cases e
   |ins C fs=>cases e
 |eA _ _=>cases hp
 |iY _ _=>cases hp
 |_=>exact nk e
theorem wF (hr:aE ι H h)(k:Rel ι H u v)(e:aQ h u=some us):∃ p vs,v=.ref p/\aH ι H us vs/\(fh kf.K H p vs\/i8 kf.K H p vs):=by
 by_cases hp:cD u=true
 ·obtain⟨p,vs,e1,r,z⟩:=lh hr k hp e
  rcases z with⟨_,_,q⟩ | ⟨_,q⟩
  ·exact⟨p,vs,e1,r,.inr (i8.of q)⟩
  ·exact⟨p,vs,e1,r,.inl (fh.of q)⟩
 ·cases k with
  |eA z ks=>
   cases e
   refine⟨_,_,rfl,ks,.inl ?_⟩
   rcases z with⟨_,o,z⟩ | z
   ·exact .inl (.inr ⟨o,z⟩)
   ·exact .inr z
  |iY z ks=>cases e;exact⟨_,_,rfl,ks,.inr (.inr z)⟩
  |_=>exact absurd rfl hp
noncomputable def bX (h:MH):U->Option (List U)
 |.lst us=>some us
 |.ref n=>match h[n]? with
  |some (.lst us)=>some us
  |_=>none
 |_=>none
theorem ly (hr:aE ι H h)(k:Rel ι H u v)(e:bX h u=some us):∃ p vs,v=.ref p/\H p=some (.lst vs)/\aH ι H us vs:=by
 cases k with
 |lst na ha ks=>cases e;exact⟨_,_,rfl,ha,ks⟩
 |@ref m a hn=>
  unfold bX at e
  dsimp only at e
  cases eo:h[m]? with
  |none=>rw[eo]at e;cases e
  |some o=>
   rw[eo]at e
   have mo:=hr.ref hn eo
   cases o with
   |lst xs=>cases e;obtain⟨vs,q,r⟩:=mo;exact⟨a,vs,rfl,q,r⟩
   |_=>exact nk e
 |_=>exact nk e
noncomputable def bE (h:MH):U->Option (Nat×List U)
 |.ref n=>match h[n]? with
  |some (.lst us)=>some (n,us)
  |_=>none
 |_=>none
theorem jv (hr:aE ι H h)(k:Rel ι H u v)(e:bE h u=some (n,us)):∃ p vs,u=.ref n/\v=.ref p/\ι[n]?=some p/\H p=some (.lst vs)/\aH ι H us vs:=by
 cases k with
 |@ref m a hn=>
  unfold bE at e
  dsimp only at e
  cases eo:h[m]? with
  |none=>rw[eo]at e;cases e
  |some o=>
   rw[eo]at e
   have mo:=hr.ref hn eo
   cases o with
   |lst xs=>cases e;obtain⟨vs,q,r⟩:=mo;exact⟨a,vs,rfl,rfl,hn,q,r⟩
   |_=>exact nk e
 |_=>exact nk e
end
noncomputable def aI:M2:=λa b h=>match a,b with
 |.int i,.int j=>some (.int (i+j),h)
 |.str x,.str y=>if x.length+y.length<=sizeLine then some (.str (x++y),h) else none
 |.tup xs,.tup ys=>if xs.length+ys.length<=sizeLine then some (.tup (xs++ys),h) else none
 |a,b=>(bX h a).bind λp=>(bX h b).bind λq=>if p.length+q.length<=sizeLine then some (.ref h.length,h++[.lst (p++q)]) else none
instance Od:SO Fu aI:=⟨λ{x y H Q a b ι h u h'} hr ka kb e q=>by
 have lists:∀ {a b:U}{x y:V},Rel ι H a x->Rel ι H b y->((bX h a).bind λp=>(bX h b).bind λq=>if p.length+q.length<=sizeLine then some (U.ref h.length,h++[MO.lst (p++q)]) else none)=some (u,h')->Fu x y H Q:=λ{a b x y} ka kb e=>by
  obtain⟨us,e1,e⟩:=bind_some e
  obtain⟨ws,e2,e⟩:=bind_some e
  obtain⟨hz,e⟩:=ao e
  cases e
  obtain⟨p,vs,rfl,q1,r1⟩:=ly hr ka e1
  obtain⟨p',Po,rfl,q2,r2⟩:=ly hr kb e2
  refine .inr (.inr (.inl ⟨p,p',vs,Po,rfl,rfl,q1,q2,?_,λl hl=>?_⟩))
  ·rw[<-r1.length,<-r2.length];exact hz
  ·obtain⟨z1,z2,z3⟩:=eY hr hl (r1.append r2)
   exact q _ _ _ z1 z2 z3
 cases ka with
 |int=>
  cases kb with
  |int=>cases e;exact .inl ⟨_,_,rfl,rfl,q _ _ _ .refl hr .int⟩
  |_=>exact nk e
 |str=>
  cases kb with
  |str=>obtain⟨hz,e⟩:=ao (show(if _ then _ else none)=some _ from e);cases e;exact .inr (.inl ⟨_,_,rfl,rfl,hz,q _ _ _ .refl hr .str⟩)
  |_=>exact nk e
 |tup ha ks=>
  cases kb with
  |tup hb ls=>
   obtain⟨hz,e⟩:=ao (show(if _ then _ else none)=some _ from e)
   cases e
   refine .inr (.inr (.inr ⟨_,_,_,_,rfl,rfl,ha,hb,by rw[<-ks.length,<-ls.length];exact hz,λz=>?_,λ_ z=>?_,λ_ _ p hp=>?_⟩))
   ·subst z;cases ks;exact q _ _ _ .refl hr (.tup hb ls)
   ·subst z;cases ls;rw[acj]at q;exact q _ _ _ .refl hr (.tup ha ks)
   ·obtain⟨z1,z2,z3⟩:=jB hr hp (ks.append ls)
    exact q _ _ _ z1 z2 z3
  |_=>exact nk e
 |@ref n p hn=>exact lists (.ref hn) kb e
 |lst na ha hs=>exact lists (.lst na ha hs) kb e
 |_=>exact nk e⟩
noncomputable def ii (f:Int->Int->Option U):M2:=λa b h=>match a,b with | .int i,.int j=>(f i j).bind λu=>some (u,h) | _,_=>none
theorem lP (ka:Rel ι H a x)(kb:Rel ι H b y)(e:ii f a b h=some (u,h')):∃ i j,x=.int i/\y=.int j/\f i j=some u/\h'=h:=by
 cases ka with
 |int=>
  cases kb with
  |int=>obtain⟨w,e1,e2⟩:=bind_some e;cases e2;exact⟨_,_,rfl,rfl,e1,rfl⟩
  |_=>exact nk e
 |_=>exact nk e
instance RO {f:Int->Int->Int}:SO (Fw λi j=>.int (f i j)) (ii λi j=>some (.int (f i j))):=⟨λ{x y H Q a b ι h u h'} hr ka kb e q=>by
 obtain⟨i,j,rfl,rfl,e1,rfl⟩:=lP ka kb e;cases e1;exact⟨i,j,rfl,rfl,q _ _ _ .refl hr .int⟩⟩
instance AR {f:Int->Int->Bool}:SO (Fw λi j=>.bl (f i j)) (ii λi j=>some (.bl (f i j))):=⟨λ{x y H Q a b ι h u h'} hr ka kb e q=>by
 obtain⟨i,j,rfl,rfl,e1,rfl⟩:=lP ka kb e;cases e1;exact⟨i,j,rfl,rfl,q _ _ _ .refl hr .bl⟩⟩
instance Og:SO (rI CZ λi j=>.int (i*j)) (ii λi j=>if (-(2 ^ 64)<i/\i<2 ^ 64)\/(-(2 ^ 64)<j/\j<2 ^ 64) then some (.int (i*j)) else none):=⟨λ{x y H Q a b ι h u h'} hr ka kb e q=>by
 obtain⟨i,j,rfl,rfl,e1,rfl⟩:=lP ka kb e;obtain⟨hz,e2⟩:=ao e1;cases e2;exact⟨i,j,rfl,rfl,hz,q _ _ _ .refl hr .int⟩⟩
instance Of:SO (rI (λ_ j=>0<j) λi j=>.int (i%j)) (ii λi j=>if 0<j then some (.int (i%j)) else none):=⟨λ{x y H Q a b ι h u h'} hr ka kb e q=>by
 obtain⟨i,j,rfl,rfl,e1,rfl⟩:=lP ka kb e;obtain⟨hz,e2⟩:=ao e1;cases e2;exact⟨i,j,rfl,rfl,hz,q _ _ _ .refl hr .int⟩⟩
instance Ju:SO (rI Pp λi j=>.int (i/j)) (ii λi j=>if 0<j/\j<1073741824 then some (.int (i/j)) else none):=⟨λ{x y H Q a b ι h u h'} hr ka kb e q=>by
 obtain⟨i,j,rfl,rfl,e1,rfl⟩:=lP ka kb e;obtain⟨hz,e2⟩:=ao e1;cases e2;exact⟨i,j,rfl,rfl,hz,q _ _ _ .refl hr .int⟩⟩
instance Oh:SO (rI Pq λi j=>.int (i ^ j.toNat)) (ii λi j=>if 0<=j/\j<=1000000/\i.natAbs<2 ^ 64 then some (.int (i ^ j.toNat)) else none):=⟨λ{x y H Q a b ι h u h'} hr ka kb e q=>by
 obtain⟨i,j,rfl,rfl,e1,rfl⟩:=lP ka kb e;obtain⟨hz,e2⟩:=ao e1;cases e2;exact⟨i,j,rfl,rfl,hz,q _ _ _ .refl hr .int⟩⟩
noncomputable def rW:M2:=ii λi j=>some (.int (i-j))
noncomputable def ik:M2:=ii λi j=>if (-(2 ^ 64)<i/\i<2 ^ 64)\/(-(2 ^ 64)<j/\j<2 ^ 64) then some (.int (i*j)) else none
noncomputable def jO:M2:=ii λi j=>if 0<j then some (.int (i%j)) else none
noncomputable def tE:M2:=ii λi j=>if 0<j/\j<1073741824 then some (.int (i/j)) else none
noncomputable def Fg:M2:=ii λi j=>if 0<=j/\j<=1000000/\i.natAbs<2 ^ 64 then some (.int (i ^ j.toNat)) else none
noncomputable def QW:M2:=ii λi j=>some (.bl (decide (i<j)))
noncomputable def Vi:M2:=ii λi j=>some (.bl (decide (i<=j)))
noncomputable def Sx:M2:=ii λi j=>some (.bl (decide (j<i)))
noncomputable def Us:M2:=ii λi j=>some (.bl (decide (j<=i)))
noncomputable def jP:M1:=λa h=>match a with | .int i=>some (.int (-i),h) | _=>none
instance Oo:SU (rU λi=>.int (-i)) jP:=⟨λ{x H Q a ι h u h'} hr ka e q=>by
 cases ka with
 |int=>cases e;exact⟨_,rfl,q _ _ _ .refl hr .int⟩
 |_=>exact nk e⟩
noncomputable def oG (neg:Bool):M2:=λa b h=>match b with
 |.aq=>match a with | .aq=>some (.bl (!neg),h) | _=>some (.bl neg,h)
 |_=>none
instance Oe:SO (λx y H Q=>y=.aq/\Q (.bl (decide (x=.aq))) H) (oG false):=⟨λ{x y H Q a b ι h u h'} hr ka kb e q=>by
 cases kb with
 |aq=>
  cases ka<;>cases e<;>exact⟨rfl,q _ _ _ .refl hr .bl⟩
 |_=>exact nk e⟩
noncomputable def fD {α β:Type}(f:α->Option β):List α->Option (List β)
 |[]=>some []
 |a::r=>(f a).bind λb=>(fD f r).bind λbs=>some (b::bs)
noncomputable def bq (h:MH):Nat->U->Option PyData
 |0,u=>match u with
  |.aq=>some .none
  |.bl b=>some (.bool b)
  |.int i=>some (.int i)
  |.str x=>some (.str x)
  |_=>none
 |n+1,u=>match u with
  |.aq=>some .none
  |.bl b=>some (.bool b)
  |.int i=>some (.int i)
  |.str x=>some (.str x)
  |.tup us=>(fD (bq h n) us).bind λds=>some (.tuple ds)
  |.lst us=>(fD (bq h n) us).bind λds=>some (.list ds)
  |.dK _=>none
  |.dT _=>none
  |.eA _=>none
  |.iY _=>none
  |.ref k=>match h[k]? with
   |some (.lst us)=>(fD (bq h n) us).bind λds=>some (.list ds)
   |_=>none
theorem qK (f:∀ {u:U}{v:V}{d:PyData},Rel ι H u v->bq h n u=some d->DV H v d/\d.depth<=n):∀ {us}{vs}{ds:List PyData},aH ι H us vs->fD (bq h n) us=some ds->CJ H vs ds/\PyData.depthAll ds<=n
 |_,_,_,.nil,e=>by cases e;exact⟨.nil,abO _⟩
 |_,_,_,.cons a r,e=>by
  obtain⟨d,e1,e⟩:=bind_some e
  obtain⟨ds,e2,e⟩:=bind_some e
  cases e
  obtain⟨h1,h2⟩:=f a e1
  obtain⟨h3,h4⟩:=qK f r e2
  exact⟨.cons h1 h3,Nat.max_le.mpr ⟨h2,h4⟩⟩
theorem qJ (hr:aE ι H h):∀ (n) {u}{v}{d:PyData},Rel ι H u v->bq h n u=some d->DV H v d/\d.depth<=n
 |0,_,_,_,k,e=>by
  cases k with
  |aq=>cases e;exact⟨.aq,abO _⟩
  |bl=>cases e;exact⟨.bl,abO _⟩
  |int=>cases e;exact⟨.int,abO _⟩
  |str=>cases e;exact⟨.str,abO _⟩
  |_=>exact nk e
 |n+1,_,_,_,k,e=>by
  cases k with
  |aq=>cases e;exact⟨.aq,abO _⟩
  |bl=>cases e;exact⟨.bl,abO _⟩
  |int=>cases e;exact⟨.int,abO _⟩
  |str=>cases e;exact⟨.str,abO _⟩
  |tup ha ks=>
   obtain⟨ds,e1,e⟩:=bind_some (show(fD (bq h n) _).bind _=some _ from e)
   cases e
   obtain⟨h1,h2⟩:=qK (λk e=>qJ hr n k e) ks e1
   exact⟨.tup (.inl ha) h1,Nat.succ_le_succ h2⟩
  |lst na ha ks=>
   obtain⟨ds,e1,e⟩:=bind_some (show(fD (bq h n) _).bind _=some _ from e)
   cases e
   obtain⟨h1,h2⟩:=qK (λk e=>qJ hr n k e) ks e1
   exact⟨.lst (.inl ha) h1,Nat.succ_le_succ h2⟩
  |dK _ _ _ _=>cases e
  |dT _ _ _ _=>cases e
  |eA _ _=>cases e
  |iY _ _=>cases e
  |@ref m a hn=>
   unfold bq at e
   dsimp only at e
   cases eo:h[m]? with
   |none=>rw[eo]at e;cases e
   |some o=>
    rw[eo]at e
    have mo:=hr.ref hn eo
    cases o with
    |lst us=>
     obtain⟨ds,e1,e⟩:=bind_some e
     cases e
     obtain⟨vs,q,r⟩:=mo
     obtain⟨h1,h2⟩:=qK (λk e=>qJ hr n k e) r e1
     exact⟨.lst (.inl q) h1,Nat.succ_le_succ h2⟩
    |dK kvs=>cases e
    |dT kvs=>cases e
    |fT kvs=>cases e
    |ins C fs=>cases e
def c6 (neg:Bool):M2:=λa b h=>(bq h Dp a).bind λd=>(bq h Dp b).bind λe=>some (.bl (if neg then !PyData.eqv d e else PyData.eqv d e),h)
instance Le {neg:Bool}:SO (ND neg) (c6 neg):=⟨λ{x y H Q a b ι h u h'} hr ka kb e q=>by
 obtain⟨d,e1,e⟩:=bind_some e
 obtain⟨d',e2,e⟩:=bind_some e
 cases e
 obtain⟨h1,h2⟩:=qJ hr _ ka e1
 obtain⟨h3,h4⟩:=qJ hr _ kb e2
 exact⟨d,d',h1,h3,abE (Nat.min_le_left _ _) h2,q _ _ _ .refl hr .bl⟩⟩
def Ak (neg:Bool):M2:=λa b h=>(bq h Dp a).bind λd=>if cD b=true then(aQ h b).bind λus=>(fD (bq h Dp) us).bind λds=>some (.bl (if neg then !ds.any (λe=>PyData.eqv e d) else ds.any λe=>PyData.eqv e d),h) else none
instance Yi {neg:Bool}:SO (zj neg) (Ak neg):=⟨λ{x y H Q a b ι h u h'} hr ka kb e q=>by
 obtain⟨d,e1,e⟩:=bind_some e
 obtain⟨hp,e⟩:=ao e
 obtain⟨us,e2,e⟩:=bind_some e
 obtain⟨ds,e3,e⟩:=bind_some e
 cases e
 obtain⟨h1,h2⟩:=qJ hr _ ka e1
 obtain⟨p,vs,rfl,r,z⟩:=lh hr kb hp e2
 obtain⟨h3,h4⟩:=qK (λk e=>qJ hr _ k e) r e3
 refine⟨p,vs,d,ds,rfl,?_,h1,h3,h2,q _ _ _ .refl hr .bl⟩
 rcases z with⟨_,_,z⟩ | ⟨_,z⟩
 ·exact .inr (.inl z)
 ·exact .inl (.inl z)⟩
theorem aH.iT (r:aH ι H us vs)(e:L2.iT us i=some u):∃ v,L2.iT vs i=some v/\Rel ι H u v:=by
 unfold L2.iT at e ⊢
 rw[<-r.length]
 obtain⟨j,e1,e2⟩:=bind_some e
 rw[e1]
 exact r.get e2
def sJ:M2:=λa b h=>match b with
 |.int i=>match a with
  |.str z=>if z.length<=sizeLine then(L2.iT z.cps.toList i).bind λc=>some (.str ⟨#[c]⟩,h) else none
  |a=>(aQ h a).bind λus=>(L2.iT us i).bind λu=>some (u,h)
 |_=>none
instance Yj:SO (Rn kf.K) sJ:=⟨λ{x y H Q a b ι h u h'} hr ka kb e q=>by
 cases kb with
 |@int i=>
  have other:((aQ h a).bind λus=>(L2.iT us i).bind λu=>some (u,h))=some (u,h')->Rn kf.K x (.int i) H Q:=λe=>by
   obtain⟨us,e1,e⟩:=bind_some e
   obtain⟨w,e2,e⟩:=bind_some e
   cases e
   obtain⟨p,vs,rfl,r,z⟩:=wF hr ka e1
   obtain⟨v,ev,kv⟩:=r.iT e2
   rcases z with z | z
   ·exact .inl ⟨p,vs,i,v,rfl,rfl,z,ev,q _ _ _ .refl hr kv⟩
   ·exact .inr (.inl ⟨p,vs,i,v,rfl,rfl,z,ev,q _ _ _ .refl hr kv⟩)
  cases ka with
  |@str z=>
   obtain⟨hz,e⟩:=ao (show(if z.length<=sizeLine then _ else none)=some _ from e)
   obtain⟨c,e1,e⟩:=bind_some e
   cases e
   exact .inr (.inr ⟨z,i,c,rfl,rfl,hz,e1,q _ _ _ .refl hr .str⟩)
  |_=>exact other e
 |_=>exact nk e⟩
def FY:U->U->U->MH->Option MH:=λa b c h=>match b with
 |.int k=>(bE h a).bind λp=>(L2.HX p.2.length k).bind λj=>some (h.set p.1 (.lst (p.2.set j c)))
 |_=>none
instance Cy:SSet Fz FY:=⟨λ{x y z H Q a b c ι h h'} hr ka kb kc e q=>by
 cases kb with
 |@int k=>
  obtain⟨⟨n,us⟩,e1,e⟩:=bind_some (show(bE h a).bind _=some _ from e)
  obtain⟨j,e2,e⟩:=bind_some e
  cases e
  obtain⟨p,vs,rfl,rfl,hp,q1,r1⟩:=jv hr ka e1
  obtain⟨z1,z2⟩:=hV hr hp q1 (aH.set kc j r1)
  exact⟨p,vs,k,j,rfl,rfl,q1,by rw[<-r1.length];exact e2,q _ _ z1 z2⟩
 |_=>exact nk e⟩
noncomputable def mj (n:Nat):mZ:=λi h=>match h[n]? with
 |some (.lst xs)=>some xs[i]?
 |_=>none
noncomputable def lQ (us:List U):mZ:=λi _=>some us[i]?
noncomputable def itR (lo:Int)(n:Nat):mZ:=λi _=>if i<n then some (some (.int (lo+i))) else some none
def aD (a:ME):MI:=λσ h=>(a σ h).bind λp=>match p.1 with
 |.tup us=>some (lQ us,p.2)
 |.lst us=>some (lQ us,p.2)
 |.eA us=>some (lQ us,p.2)
 |.iY us=>some (lQ us,p.2)
 |.ref n=>match p.2[n]? with
  |some (.lst _)=>some (mj n,p.2)
  |_=>none
 |_=>none
theorem Mq (hr:aE ι H h)(e:H a=some (.tup vs))(r:aH ι H us vs):sy ι H (Sk kf.K a) (lQ us):=by
 intro ι' H' h' i x r'
 have e':=(x.kp hr).tup e
 have rr:=r.mono (x.kp hr)
 refine⟨λq=>⟨vs,i8.of e',?_⟩,λu q=>?_⟩
 ·have q':us[i]?=none:=abD q
  rw[<-r.length];exact ab5.mp q'
 ·have q':us[i]?=some u:=abD q
  obtain⟨v,hv,k⟩:=rr.get q'
  refine⟨⟨vs,v,i8.of e',hv⟩,λv2 H2 y=>?_⟩
  obtain⟨e2,y⟩:=y
  subst e2
  have:=y vs (i8.of e')
  rw[hv]at this;cases this
  exact⟨.refl,r',k⟩
theorem Mo (hr:aE ι H h)(na:a∉ι)(e:H a=some (.lst vs))(r:aH ι H us vs):sy ι H (C2 kf.K a) (lQ us):=by
 intro ι' H' h' i x r'
 have e':=((x.kp hr).dat na e).1
 have rr:=r.mono (x.kp hr)
 have one:∀ {ws:List V},Rd H' a (.lst ws)->ws=vs:=λ{ws} z=>by
  rcases z with z | ⟨o,z⟩<;>(rw[e']at z;cases z);rfl
 refine⟨λq=>⟨vs,fh.of e',?_⟩,λu q=>?_⟩
 ·have q':us[i]?=none:=abD q
  rw[<-r.length];exact ab5.mp q'
 ·have q':us[i]?=some u:=abD q
  obtain⟨v,hv,k⟩:=rr.get q'
  refine⟨⟨vs,v,fh.of e',hv⟩,λv2 H2 y=>?_⟩
  obtain⟨e2,y⟩:=y
  subst e2
  have:=y vs (fh.of e')
  rw[hv]at this;cases this
  exact⟨.refl,r',k⟩
theorem Eo (hr:aE ι H h)(st:∀ ι' H',Ext ι H ι' H'->fh kf.K H' a vs)(r:aH ι H us vs):sy ι H (C2 kf.K a) (lQ us):=by
 intro ι' H' h' i x r'
 have e':=st _ _ x
 have rr:=r.mono (x.kp hr)
 refine⟨λq=>⟨vs,e',?_⟩,λu q=>?_⟩
 ·have q':us[i]?=none:=abD q
  rw[<-r.length];exact ab5.mp q'
 ·have q':us[i]?=some u:=abD q
  obtain⟨v,hv,k⟩:=rr.get q'
  refine⟨⟨vs,v,e',hv⟩,λv2 H2 y=>?_⟩
  obtain⟨e2,y⟩:=y
  subst e2
  have:=y vs e'
  rw[hv]at this;cases this
  exact⟨.refl,r',k⟩
theorem HZ (hr:aE ι H h)(st:∀ H',i8 kf.K H' a vs)(r:aH ι H us vs):sy ι H (Sk kf.K a) (lQ us):=by
 intro ι' H' h' i x r'
 have e':=st H'
 have rr:=r.mono (x.kp hr)
 refine⟨λq=>⟨vs,e',?_⟩,λu q=>?_⟩
 ·have q':us[i]?=none:=abD q
  rw[<-r.length];exact ab5.mp q'
 ·have q':us[i]?=some u:=abD q
  obtain⟨v,hv,k⟩:=rr.get q'
  refine⟨⟨vs,v,e',hv⟩,λv2 H2 y=>?_⟩
  obtain⟨e2,y⟩:=y
  subst e2
  have:=y vs e'
  rw[hv]at this;cases this
  exact⟨.refl,r',k⟩
theorem Ic (hn:ι[n]?=some a):sy ι H (C2 kf.K a) (mj n):=by
 intro ι' H' h' i x r'
 have HR:=x.at hn
 have key:∀ {us:List U},aQ h' (.ref n)=some us->mj n i h'=some us[i]?->(mj n i h'=some none->(C2 kf.K a).stop i H')/\∀ u,mj n i h'=some (some u)->(C2 kf.K a).go i H'/\∀ v H2,(C2 kf.K a).yld i H' v H2->Ext ι' H' ι' H2/\aE ι' H2 h'/\Rel ι' H2 u v:=λ{us} e1 e2=>by
  obtain⟨p,vs,ep,r,z⟩:=lh r' (.ref HR) rfl e1
  cases ep
  rcases z with⟨e0,_⟩ | ⟨_,z⟩
  ·cases e0
  refine⟨λq=>⟨vs,fh.of z,?_⟩,λu q=>?_⟩
  ·rw[e2]at q
   rw[<-r.length];exact ab5.mp (abD q)
  ·rw[e2]at q
   obtain⟨v,hv,k⟩:=r.get (abD q)
   refine⟨⟨vs,v,fh.of z,hv⟩,λv2 H2 y=>?_⟩
   obtain⟨e3,y⟩:=y
   subst e3
   have:=y vs (fh.of z)
   rw[hv]at this;cases this
   exact⟨.refl,r',k⟩
 have stuck:mj n i h'=none->(mj n i h'=some none->(C2 kf.K a).stop i H')/\∀ u,mj n i h'=some (some u)->(C2 kf.K a).go i H'/\∀ v H2,(C2 kf.K a).yld i H' v H2->Ext ι' H' ι' H2/\aE ι' H2 h'/\Rel ι' H2 u v:=λe=>⟨λq=>(by rw[e]at q;cases q),λu q=>(by rw[e]at q;cases q)⟩
 cases eo:h'[n]? with
 |none=>exact stuck (by unfold mj;rw[eo])
 |some o=>
  cases o with
  |lst xs=>exact key (us:=xs) (by unfold aQ;dsimp only;rw[eo]) (by unfold mj;rw[eo])
  |dK kvs=>exact stuck (by unfold mj;rw[eo])
  |dT kvs=>exact stuck (by unfold mj;rw[eo])
  |fT kvs=>exact stuck (by unfold mj;rw[eo])
  |ins C fs=>exact stuck (by unfold mj;rw[eo])
theorem Mp:sy ι H (Sj lo n) (itR lo n):=by
 intro ι' H' h' i x r'
 unfold itR
 by_cases hi:i<n
 ·rw[abr hi]
  refine⟨(λq=>nomatch q),λu q=>?_⟩
  cases q
  refine⟨hi,λv H2 y=>?_⟩
  obtain⟨e,y⟩:=y
  subst e;subst y
  exact⟨.refl,r',.int⟩
 ·rw[abo hi]
  exact⟨λ_=>Nat.le_of_not_lt hi,(λu q=>nomatch q)⟩
instance Wh {ta:TE}{ma:ME}[A:SE ta ma]:SI (Mg kf.K ta) (aD ma):=⟨λ{σ H R σu ι h it h'} hs hr e q=>by
 obtain⟨⟨u,h1⟩,e1,e⟩:=bind_some e
 dsimp only at e
 cases u with
 |tup us=>
  cases e
  refine .inr (A.go hs hr e1 λι1 H1 v1 x1 r1 k1=>?_)
  cases k1 with
  |tup ha ks=>exact⟨_,rfl,⟨_,i8.of ha⟩,q _ _ _ x1 r1 (Mq r1 ha ks)⟩
 |lst us=>
  cases e
  refine .inl (A.go hs hr e1 λι1 H1 v1 x1 r1 k1=>?_)
  cases k1 with
  |lst na ha ks=>exact⟨_,rfl,⟨_,fh.of ha⟩,q _ _ _ x1 r1 (Mo r1 na ha ks)⟩
 |eA us=>cases e;exact .inl (A.go hs hr e1 λι1 H1 v1 x1 r1 k1=>by
   cases k1 with
   |eA z ks=>
    rcases z with⟨n,o,z⟩ | z
    ·exact⟨_,rfl,⟨_,.inl (.inr ⟨o,z⟩)⟩,q _ _ _ x1 r1 (Eo r1 (λι' H' x=>.inl (.inr ⟨o,x.keep _ _ n z⟩)) ks)⟩
    ·exact⟨_,rfl,⟨_,.inr z⟩,q _ _ _ x1 r1 (Eo r1 (λι' H' x=>.inr z) ks)⟩)
 |iY us=>cases e;exact .inr (A.go hs hr e1 λι1 H1 v1 x1 r1 k1=>by
   cases k1 with
   |iY z ks=>exact⟨_,rfl,⟨_,.inr z⟩,q _ _ _ x1 r1 (HZ r1 (λH'=>.inr z) ks)⟩)
 |ref n=>
  dsimp only at e
  refine .inl (A.go hs hr e1 λι1 H1 v1 x1 r1 k1=>?_)
  cases k1 with
  |ref hn=>
   cases eo:h1[n]? with
   |none=>rw[eo]at e;cases e
   |some o=>
    rw[eo]at e
    have mo:=r1.ref hn eo
    cases o with
    |lst xs=>cases e;obtain⟨vs,z,_⟩:=mo;exact⟨_,rfl,⟨vs,fh.of z⟩,q _ _ _ x1 r1 (Ic hn)⟩
    |dK kvs=>cases e
    |dT kvs=>cases e
    |fT kvs=>cases e
    |ins C fs=>cases e
 |_=>exact nk e⟩
def bQ (a:MA):MI:=λσ h=>(a σ h).bind λp=>match p.1 with
 |[.int j]=>if -(2 ^ 62)<=j/\j<2 ^ 62 then some (itR 0 j.toNat,p.2) else none
 |_=>none
instance Tu {t:TA}{a:MA}[A:SA t a]:SI (Ef t) (bQ a):=⟨λ{σ H R σu ι h it h'} hs hr e q=>by
 obtain⟨⟨us,h1⟩,e1,e⟩:=bind_some e
 refine A.go hs hr e1 λι1 H1 v1 x1 r1 k1=>?_
 dsimp only at e
 have hu:∃ i,us=[.int i]:=by
  clear k1 x1 r1 q e1 hs hr
  rcases us with _ | ⟨a,_ | ⟨b,_⟩⟩
  ·cases e
  ·cases a<;>first | exact nk e | exact⟨_,rfl⟩
  ·cases a<;>exact nk e
 obtain⟨i,rfl⟩:=hu
 obtain _ | ⟨k1,_ | _⟩:=k1
 cases k1
 obtain⟨hz,e⟩:=ao e
 cases e
 exact⟨_,rfl,hz.1,hz.2,q _ _ _ x1 r1 Mp⟩⟩
instance RI {ix:List (Option Nat)}{wi:TI}{g:TG}{tc:TT}{te:TE}{mi:MI}{n:MG}{c:MT}{a:ME}[I:SI wi mi][G:SG g n][C:ST tc c][A:SE te a]:SE (zA ix wi g tc te) (bY ix mi n c a):=⟨λ{σ H Q σu ι h u h'} hs hr e q=>by
 obtain⟨⟨it,h1⟩,e1,e⟩:=bind_some e
 obtain⟨h2,e2,e⟩:=bind_some e
 cases e
 refine I.go hs hr e1 λι1 H1 J x1 r1 jr D hD=>?_
 obtain⟨y1,y2,y3⟩:=eY r1 hD .nil
 have hk:(ι1++[D])[h1.length]?=some D:=by rw[<-r1.len];simp
 refine⟨CW it n c a h1.length (ι1++[D]) (upd H1 D (.lst [])) h',⟨FU,_,_,_,.refl,y2,(hs.mono ((x1.trans y1).kp hr)).pull ix,e2⟩,?_⟩
 rintro i m σ2 H2 ⟨ι2,vE,h3,x2,r2,s2,ec⟩
 cases m with
 |zero=>cases ec
 |succ m=>
  obtain⟨o,e3,e4⟩:=bind_some ec
  obtain⟨j1,j2⟩:=jr ι2 H2 h3 i (y1.trans x2) r2
  cases o with
  |none=>
   cases e4
   exact .inl ⟨j1 e3,q _ _ _ (x1.trans (y1.trans x2)) r2 (.ref (x2.at hk))⟩
  |some x=>
   obtain⟨go,yl⟩:=j2 x e3
   obtain⟨⟨σ5,h5⟩,e5,e6⟩:=bind_some e4
   obtain⟨⟨k6,h6⟩,e7,e8⟩:=bind_some e6
   refine .inr ⟨go,CW it n c a h1.length (ι1++[D]) (upd H1 D (.lst [])) h' (i+1) m,λσ3 H3 w=>⟨m,Nat.lt_succ_self m,w⟩,λv H3 yy=>?_⟩
   obtain⟨x3,r3,k3⟩:=yl v H3 yy
   refine G.go (s2.mono (x3.kp r2)) r3 k3 e5 λι4 H4 σ4 x4 r4 s4=>?_
   refine C.go s4 r4 e7 λι6 H6 x6 r6=>?_
   dsimp only at e8 ⊢
   have s6:=s4.mono (x6.kp r4)
   have xx:=(((x2.trans x3).trans x4).trans x6)
   cases k6 with
   |true=>
    rw[abr rfl]at e8 ⊢
    obtain⟨⟨y,h9⟩,e9,e8⟩:=bind_some e8
    refine A.go s6 r6 e9 λι5 H5 v5 x5 r5 k5=>?_
    exact vU (xx.trans x5) hk r5 k5 (s6.mono (x5.kp r6)) e8
   |false=>
    rw[abo abA]at e8 ⊢
    exact⟨ι6,σ5,h6,xx,r6,s6,e8⟩⟩
abbrev G7:=bG->MH->Option (Option Int×MH)
class OV (t:TO)(m:outParam G7):Prop where
 go:∀ {σ:St}{H:Hp}{Q:Option Int->Hp->Prop}{σu:bG}{ι:List Addr}{h:MH}{o:Option Int}{h':MH},cK ι H σu σ->aE ι H h->m σu h=some (o,h')->(∀ ι' H',Ext ι H ι' H'->aE ι' H' h'->Q o H')->t σ H Q
noncomputable def bz:G7:=λ_ h=>some (none,h)
noncomputable def cJ (a:ME):G7:=λσ h=>(a σ h).bind λp=>match p.1 with | .int i=>some (some i,p.2) | _=>none
instance RQ:OV jH bz:=⟨λhs hr e q=>by cases e;exact q _ _ .refl hr⟩
instance RS {t:TE}{a:ME}[A:SE t a]:OV (AX t) (cJ a):=⟨λ{σ H Q σu ι h o h'} hs hr e q=>by
 obtain⟨⟨x,h1⟩,e1,e⟩:=bind_some e
 refine A.go hs hr e1 λι1 H1 v1 x1 r1 k1=>?_
 cases k1 with
 |int=>cases e;exact⟨_,rfl,q _ _ x1 r1⟩
 |_=>exact nk e⟩
noncomputable def vV (us:List U)(lo hi:Option Int):List U:=(us.drop (HT.eB us.length 0 lo)).take (HT.eB us.length us.length hi-HT.eB us.length 0 lo)
noncomputable def Ld:U->Option Int->Option Int->MH->Option (U×MH):=λa lo hi h=>match a with
 |.tup us=>if HT.eB us.length 0 lo=0/\HT.eB us.length us.length hi=us.length then none else some (.tup (vV us lo hi),h)
 |.str z=>if z.length<=sizeLine then some (.str (Txt.slice z lo hi),h) else none
 |.lst us=>some (.ref h.length,h++[.lst (vV us lo hi)])
 |.eA _=>none
 |.iY _=>none
 |a=>(aQ h a).bind λus=>some (.ref h.length,h++[.lst (vV us lo hi)])
theorem aH.cut (r:aH ι H us vs)(lo hi:Option Int):aH ι H (vV us lo hi) (vW vs lo hi):=by
 unfold vV vW
 rw[<-r.length]
 exact(r.drop _).take _
theorem RN (hr:aE ι H h)(ka:Rel ι H a x)(e:Ld a lo hi h=some (u,h'))(q:∀ ι' H' v,Ext ι H ι' H'->aE ι' H' h'->Rel ι' H' u v->Q v H'):Jh kf.K x lo hi H Q:=by
 cases ka with
 |tup ha ks=>
  unfold Ld at e
  dsimp only at e
  split at e
  ·cases e
  ·rename_i hn
   cases e
   refine .inr (.inl ⟨_,_,rfl,i8.of ha,by rw[<-ks.length];exact hn,λp hp=>?_⟩)
   obtain⟨z1,z2,z3⟩:=jB hr hp (ks.cut lo hi)
   exact q _ _ _ z1 z2 z3
 |@str z=>
  obtain⟨hz,e⟩:=ao (show(if z.length<=sizeLine then _ else none)=some _ from e)
  cases e
  exact .inr (.inr ⟨z,rfl,hz,q _ _ _ .refl hr .str⟩)
 |@ref n a hn=>
  obtain⟨us,e1,e⟩:=bind_some (show(aQ h (.ref n)).bind _=some _ from e)
  cases e
  obtain⟨p,vs,ep,r,z⟩:=lh hr (.ref hn) rfl e1
  cases ep
  rcases z with⟨e0,_⟩ | ⟨_,z⟩
  ·cases e0
  refine .inl ⟨_,vs,rfl,fh.of z,λp hp=>?_⟩
  obtain⟨z1,z2,z3⟩:=eY hr hp (r.cut lo hi)
  exact q _ _ _ z1 z2 z3
 |lst na ha ks=>
  cases e
  refine .inl ⟨_,_,rfl,fh.of ha,λp hp=>?_⟩
  obtain⟨z1,z2,z3⟩:=eY hr hp (ks.cut lo hi)
  exact q _ _ _ z1 z2 z3
 |_=>exact nk e
noncomputable def sm (a:ME)(lo hi:G7):ME:=λσ h=>(a σ h).bind λp=>(lo σ p.2).bind λl=>(hi σ l.2).bind λk=>Ld p.1 l.1 k.1 k.2
instance Yh {ta:TE}{tl th:TO}{a:ME}{lo hi:G7}[A:SE ta a][B:OV tl lo][C:OV th hi]:SE (Ww (Jh kf.K) ta tl th) (sm a lo hi):=⟨λ{σ H Q σu ι h u h'} hs hr e q=>by
 obtain⟨⟨x,h1⟩,e1,e⟩:=bind_some e
 obtain⟨⟨l,h2⟩,e2,e⟩:=bind_some e
 obtain⟨⟨k,h3⟩,e3,e⟩:=bind_some e
 refine A.go hs hr e1 λι1 H1 v1 x1 r1 k1=>?_
 refine B.go (hs.mono (x1.kp hr)) r1 e2 λι2 H2 x2 r2=>?_
 refine C.go (hs.mono ((x1.trans x2).kp hr)) r2 e3 λι3 H3 x3 r3=>?_
 exact RN r3 (k1.mono ((x2.trans x3).kp r1)) e λι4 H4 v4 x4 r4 k4=>q _ _ _ (((x1.trans x2).trans x3).trans x4) r4 k4⟩
def A8:U->Option Int->MH->Option (U×MH):=λa c h=>match c with
 |some c=>if c=1\/c=-1 then(bX h a).bind λus=>some (.ref h.length,h++[.lst (turned us c)]) else none
 |none=>none
def rz (a:ME)(st:G7):ME:=λσ h=>(a σ h).bind λp=>(st σ p.2).bind λk=>A8 p.1 k.1 k.2
theorem aH.turned (r:aH ι H us vs)(c):aH ι H (L2.turned us c) (L2.turned vs c):=by
 unfold L2.turned
 split
 ·exact r
 ·exact r.reverse
instance Tq {ta:TE}{ts:TO}{a:ME}{st:G7}[A:SE ta a][B:OV ts st]:SE (OB (zk kf.K) ta jH jH ts) (rz a st):=⟨λ{σ H Q σu ι h u h'} hs hr e q=>by
 obtain⟨⟨x,h1⟩,e1,e⟩:=bind_some e
 obtain⟨⟨l,h2⟩,e2,e⟩:=bind_some e
 refine A.go hs hr e1 λι1 H1 v1 x1 r1 k1=>?_
 show ts σ H1 _
 refine B.go (hs.mono (x1.kp hr)) r1 e2 λι2 H2 x2 r2=>?_
 unfold A8 at e
 dsimp only at e
 cases l with
 |none=>cases e
 |some c=>
  obtain⟨hc,e⟩:=ao e
  obtain⟨us,e3,e⟩:=bind_some e
  cases e
  obtain⟨p,vs,ep,z,r⟩:=ly r2 (k1.mono (x2.kp r1)) e3
  subst ep
  refine⟨_,vs,c,rfl,rfl,rfl,rfl,hc,fh.of z,λp hp=>?_⟩
  obtain⟨z1,z2,z3⟩:=eY r2 hp (r.turned c)
  exact q _ _ _ ((x1.trans x2).trans z1) z2 z3⟩
noncomputable def ig (f:MF)(a:MA):ME:=λσ h=>(a σ h).bind λp=>f p.1 p.2
instance La {r:List V->Hp->VK->Prop}{f:MF}{t:TA}{m:MA}[F:SC r f][A:SA t m]:SE (R0 r t) (ig f m):=⟨λ{σ H Q σu ι h u h'} hs hr e q=>by
 obtain⟨⟨x,h1⟩,e1,e⟩:=bind_some e
 refine A.go hs hr e1 λι1 H1 v1 x1 r1 k1=>?_
 exact F.go r1 k1 e λι2 H2 v2 x2 r2 k2=>q _ _ _ (x1.trans x2) r2 k2⟩
def Rt (K:PySem.W.Frag):List V->Hp->VK->Prop:=λxs H Q=>(∃ p ys,xs=[.ref p]/\(fh K H p ys\/i8 K H p ys)/\Q (.int ys.length) H)\/(∃ z,xs=[.str z]/\z.length<=sizeLine/\Q (.int z.length) H)\/(∃ d kvs,xs=[.ref d]/\H d=some (.dK kvs)/\Q (.int kvs.length) H)
noncomputable def eV:MF:=λus h=>match us with
 |[.str z]=>if z.length<=sizeLine then some (.int z.length,h) else none
 |[.ref n]=>match h[n]? with
  |some (.dK kvs)=>some (.int kvs.length,h)
  |some (.lst xs)=>some (.int xs.length,h)
  |_=>none
 |[.tup xs]=>some (.int xs.length,h)
 |[.lst xs]=>some (.int xs.length,h)
 |[.eA xs]=>some (.int xs.length,h)
 |[.iY xs]=>some (.int xs.length,h)
 |[.dK kvs]=>some (.int kvs.length,h)
 |_=>none
theorem aX.length {κ:Type}{ι:List Addr}{H:Hp}:∀ {us:List (κ×U)}{vs:List (κ×V)},aX ι H us vs->us.length=vs.length
 |_,_,.nil=>rfl
 |_,_,.cons _ r=>congrArg Nat.succ r.length
instance NX:SC (Rt kf.K) eV:=⟨λ{xs H Q us ι h u h'} hr k e q=>by
 rcases us with _ | ⟨u1,_ | ⟨u2,_⟩⟩
 ·cases e
 rotate_left
 ·cases u1<;>exact nk e
 obtain _ | ⟨k1,_ | _⟩:=k
 match u1,k1,e with
 |.str z,.str,e=>obtain⟨hz,e⟩:=ao (show(if z.length<=sizeLine then _ else none)=some _ from e);cases e;exact .inr (.inl ⟨z,rfl,hz,q _ _ _ .refl hr .int⟩)
 |.tup us,.tup ha ks,e=>cases e;refine .inl ⟨_,_,rfl,.inr (i8.of ha),?_⟩;rw[<-ks.length];exact q _ _ _ .refl hr .int
 |.lst us,.lst na ha ks,e=>cases e;refine .inl ⟨_,_,rfl,.inl (fh.of ha),?_⟩;rw[<-ks.length];exact q _ _ _ .refl hr .int
 |.eA us,.eA z ks,e=>
  cases e
  rename_i a vs
  have sq:fh kf.K H a vs:=by
   rcases z with⟨_,o,z⟩ | z
   ·exact .inl (.inr ⟨o,z⟩)
   ·exact .inr z
  refine .inl ⟨_,_,rfl,.inl sq,?_⟩
  rw[<-ks.length];exact q _ _ _ .refl hr .int
 |.iY us,.iY z ks,e=>cases e;refine .inl ⟨_,_,rfl,.inr (.inr z),?_⟩;rw[<-ks.length];exact q _ _ _ .refl hr .int
 |.dK us,.dK na ha ek ks,e=>cases e;refine .inr (.inr ⟨_,_,rfl,ha,?_⟩);rw[<-(aX.of ek ks).length];exact q _ _ _ .refl hr .int
 |.ref n,.ref hn,e=>
  unfold eV at e
  dsimp only at e
  cases eo:h[n]? with
  |none=>rw[eo]at e;cases e
  |some o=>
   rw[eo]at e
   have mo:=hr.ref hn eo
   cases o with
   |lst us=>cases e;obtain⟨vs,z,r⟩:=mo;refine .inl ⟨_,_,rfl,.inl (fh.of z),?_⟩;rw[<-r.length];exact q _ _ _ .refl hr .int
   |dK kvs=>cases e;obtain⟨vs,z,r⟩:=mo;refine .inr (.inr ⟨_,_,rfl,z,?_⟩);rw[<-r.length];exact q _ _ _ .refl hr .int
   |dT kvs=>cases e
   |fT kvs=>cases e
   |ins C fs=>cases e⟩
def Jg (K:PySem.W.Frag):List V->Hp->VK->Prop:=λxs H Q=>∃ p ys,xs=[.ref p]/\(fh K H p ys\/i8 K H p ys)/\∀ l,H l=none->Q (.ref l) (upd H l (.lst ys))
noncomputable def eW:MF:=λus h=>match us with
 |[a]=>(aQ h a).bind λxs=>some (.ref h.length,h++[.lst xs])
 |_=>none
instance Jo:SC (Jg kf.K) eW:=⟨λ{xs H Q us ι h u h'} hr k e q=>by
 match us,k,e with
 |[a],.cons ka .nil,e=>
  obtain⟨ws,e1,e⟩:=bind_some (show(aQ h a).bind _=some _ from e)
  cases e
  obtain⟨p,vs,rfl,r,z⟩:=wF hr ka e1
  refine⟨p,vs,rfl,z,λl hl=>?_⟩
  obtain⟨z1,z2,z3⟩:=eY hr hl r
  exact q _ _ _ z1 z2 z3⟩
def NG (K:PySem.W.Frag):List V->Hp->VK->Prop:=λxs H Q=>∃ p ys,xs=[.ref p]/\((fh K H p ys/\∀ l,H l=none->Q (.ref l) (upd H l (.tup ys)))\/(i8 K H p ys/\Q (.ref p) H))
noncomputable def cp:MF:=λus h=>match us with
 |[a]=>if cD a=true then(aQ h a).bind λxs=>some (.tup xs,h) else none
 |_=>none
instance NY:SC (NG kf.K) cp:=⟨λ{xs H Q us ι h u h'} hr k e q=>by
 match us,k,e with
 |[a],.cons ka .nil,e=>
  obtain⟨hp,e⟩:=ao (show(if cD a=true then _ else none)=some _ from e)
  obtain⟨ws,e1,e⟩:=bind_some e
  cases e
  obtain⟨p,vs,rfl,r,z⟩:=lh hr ka hp e1
  rcases z with⟨_,e0,z⟩ | ⟨_,z⟩
  ·subst e0
   exact⟨p,vs,rfl,.inr ⟨i8.of z,q _ _ _ .refl hr ka⟩⟩
  ·refine⟨p,vs,rfl,.inl ⟨fh.of z,λl hl=>?_⟩⟩
   obtain⟨z1,z2,z3⟩:=jB hr hl r
   exact q _ _ _ z1 z2 z3⟩
section
variable {κ:Type}[DecidableEq κ]
noncomputable def b6 (kvs:List (κ×U))(k:κ):Option U:=(kvs.find? λkv=>decide (kv.1=k)).map (·.2)
noncomputable def p3 (kvs:List (κ×U))(k:κ)(v:U):List (κ×U):=if (kvs.any λkv=>decide (kv.1=k))=true then kvs.map λkv=>if kv.1=k then(kv.1,v) else kv else kvs++[(k,v)]
theorem aX.val (k:κ):∀ {kvs:List (κ×U)}{aF:List (κ×V)},aX ι H kvs aF->(b6 kvs k=none->lZ aF k=none)/\∀ u,b6 kvs k=some u->∃ v,lZ aF k=some v/\Rel ι H u v
 |_,_,.nil=>⟨λ_=>rfl,λ_ e=>nomatch e⟩
 |(j,u)::r,(_,v)::q,.cons a b=>by
  obtain⟨h1,h2⟩:=aX.val k b
  by_cases e:j=k
  ·have z:b6 ((j,u)::r) k=some u:=by simp[b6,acr,e]
   rw[z,n8 e]
   exact⟨(λy=>nomatch y),λw y=>⟨v,rfl,by cases y;exact a⟩⟩
  ·have z:b6 ((j,u)::r) k=b6 r k:=by simp[b6,acr,e]
   rw[z,n6 e]
   exact⟨h1,h2⟩
theorem aX.any (k:κ):∀ {kvs:List (κ×U)}{aF:List (κ×V)},aX ι H kvs aF->(kvs.any λkv=>decide (kv.1=k))=(aF.any λkv=>decide (kv.1=k))
 |_,_,.nil=>rfl
 |_,_,.cons _ b=>by rw[List.any_cons,List.any_cons,aX.any k b]
theorem aX.zl (k:κ)(a:Rel ι H u v):∀ {kvs:List (κ×U)}{aF:List (κ×V)},aX ι H kvs aF->aX ι H (kvs.map λkv=>if kv.1=k then(kv.1,u) else kv) (aF.map λkv=>if kv.1=k then(kv.1,v) else kv)
 |_,_,.nil=>.nil
 |(j,_)::_,_,.cons b r=>by
  rw[abH,abH]
  by_cases e:j=k
  ·rw[abr e,abr e];exact .cons a (aX.zl k a r)
  ·rw[abo e,abo e];exact .cons b (aX.zl k a r)
theorem aX.snoc (a:Rel ι H u v):∀ {kvs:List (κ×U)}{aF:List (κ×V)},aX ι H kvs aF->aX ι H (kvs++[(k,u)]) (aF++[(k,v)])
 |_,_,.nil=>.cons a .nil
 |_,_,.cons b r=>.cons b (aX.snoc a r)
theorem aX.put (k:κ)(a:Rel ι H u v)(r:aX ι H kvs aF):aX ι H (p3 kvs k u) (putK aF k v):=by
 unfold p3 putK
 rw[r.any k]
 split
 ·exact r.zl k a
 ·exact r.snoc a
theorem aX.drop (k:κ):∀ {kvs:List (κ×U)}{aF:List (κ×V)},aX ι H kvs aF->aX ι H (kvs.filter λkv=>decide (kv.1≠k)) (iV aF k)
 |_,_,.nil=>.nil
 |(j,_)::_,_,.cons b r=>by
  have ih:=aX.drop k r
  unfold iV at ih ⊢
  rw[List.filter_cons,List.filter_cons]
  by_cases e:j=k
  ·have z:decide (j≠k)=false:=by simp[e]
   simp only[z,ab2,acb];exact ih
  ·have z:decide (j≠k)=true:=by simp[e]
   simp only[z,if_true];exact .cons b ih
end
mutual
noncomputable def r9:U->Option NK.KD
 |.aq=>some .aq
 |.int i=>some (.int i)
 |.str x=>some (.str x)
 |.tup us=>(pW us).bind λks=>some (.tup ks)
 |_=>none
noncomputable def pW:List U->Option (List NK.KD)
 |[]=>some []
 |u::us=>(r9 u).bind λk=>(pW us).bind λks=>some (k::ks)
end
mutual
noncomputable def ae:NK.KD->U
 |.aq=>.aq
 |.int i=>.int i
 |.str x=>.str x
 |.tup ks=>.tup (cQ ks)
noncomputable def cQ:List NK.KD->List U
 |[]=>[]
 |k::ks=>ae k::cQ ks
end
theorem JL (q:Rel ι H u v)(e:r9 u=some k):uv H v k:=
 Rel.rec (motive_1:=λu v _=>∀ k,r9 u=some k->uv H v k) (motive_2:=λu v _=>∀ k,pW u=some k->mE H v k) (λ_ e=>by cases e;exact .aq) (λ_ e=>nk e) (λ_ e=>by cases e;exact .int) (λ_ e=>by cases e;exact .str)
  (λha _ i _ e=>by
   unfold r9 at e
   obtain⟨js,e1,e⟩:=bind_some e
   cases e
   exact .tup ha (i _ e1)) (λ_ _ e=>nk e) (λ_ _ _ _ _ e=>nk e) (λ_ _ _ _ _ _ e=>nk e) (λ_ _ _ _ _ _ e=>nk e) (λ_ _ _ _ e=>nk e) (λ_ _ _ _ e=>nk e)
  (λ_ e=>by unfold pW at e;cases e;exact .nil)
  (λ_ _ a b _ e=>by
   unfold pW at e
   obtain⟨j,e1,e⟩:=bind_some e
   obtain⟨js,e2,e⟩:=bind_some e
   cases e
   exact .cons (a _ e1) (b _ e2)) q k e
mutual
theorem xc:∀ {v}{k},uv H v k->Rel ι H (ae k) v
 |_,_,.aq=>by unfold ae;exact .aq
 |_,_,.int=>by unfold ae;exact .int
 |_,_,.str=>by unfold ae;exact .str
 |_,_,.tup e r=>by unfold ae;exact .tup e (tV r)
theorem tV:∀ {vs}{ks},mE H vs ks->aH ι H (cQ ks) vs
 |_,_,.nil=>by unfold cQ;exact .nil
 |_,_,.cons a r=>by unfold cQ;exact .cons (xc a) (tV r)
end
noncomputable def ic:U->Option Key
 |.int i=>some (.inl i)
 |.str x=>some (.inr x)
 |_=>none
def cL (u:U):Option NK.KD:=match u with
 |.tup _=>(r9 u).bind λk=>if k.lo 8=true then some k else none
 |_=>none
theorem nJ (r:Rel ι H u v)(e:ic u=some k):v=kV k:=by
 cases r with
 |int=>cases e;rfl
 |str=>cases e;rfl
 |_=>first | exact nk e | cases e
theorem qj (r:Rel ι H u v)(e:cL u=some k):∃ b,v=.ref b/\C3 H b k:=by
 cases r with
 |tup ha ks=>
  obtain⟨j,e1,e2⟩:=bind_some (show(r9 _).bind _=some _ from e)
  obtain⟨hl,e3⟩:=ao e2
  cases e3
  exact⟨_,rfl,JL (.tup ha ks) e1,hl⟩
 |_=>first | exact nk e | cases e
def bP (h:MH)(d y:U):Option (Option U):=match d with
 |.ref n=>match h[n]? with
  |some (.dK kvs)=>(ic y).bind λk=>some (b6 kvs k)
  |some (.dT kvs)=>(cL y).bind λk=>some (b6 kvs k)
  |some (.fT kvs)=>(cL y).bind λk=>some (b6 kvs k)
  |_=>none
 |.dK kvs=>(ic y).bind λk=>some (b6 kvs k)
 |.dT kvs=>(cL y).bind λk=>some (b6 kvs k)
 |_=>none
theorem uE (hr:aE ι H h)(kd:Rel ι H d x)(ky:Rel ι H y z)(e:bP h d y=some o) :
  ∃ a p,x=.ref a/\vF H a z p/\Si H a/\(o=none->p=none)/\∀ u,o=some u->∃ v,p=some v/\Rel ι H u v:=by
 cases kd with
 |@ref n a hn=>
  unfold bP at e
  dsimp only at e
  cases eo:h[n]? with
  |none=>rw[eo]at e;cases e
  |some ob=>
   rw[eo]at e
   have mo:=hr.ref hn eo
   cases ob with
   |dK kvs=>
    obtain⟨k,e1,e2⟩:=bind_some e
    cases e2
    obtain⟨aF,q,r⟩:=mo
    obtain⟨h1,h2⟩:=r.val k
    have ez:=nJ ky e1
    subst ez
    exact⟨a,_,rfl,.inl ⟨aF,k,.inl q,rfl,rfl⟩,.inl ⟨aF,.inl q⟩,h1,h2⟩
   |dT kvs=>
    obtain⟨k,e1,e2⟩:=bind_some e
    cases e2
    obtain⟨aF,q,r⟩:=mo
    obtain⟨h1,h2⟩:=r.val k
    obtain⟨b,ez,kb⟩:=qj ky e1
    subst ez
    exact⟨a,_,rfl,.inr ⟨aF,k,b,.inl q,rfl,kb,rfl⟩,.inr ⟨aF,.inl q⟩,h1,h2⟩
   |fT kvs=>
    obtain⟨k,e1,e2⟩:=bind_some e
    cases e2
    obtain⟨o,aF,q,r⟩:=mo
    obtain⟨h1,h2⟩:=r.val k
    obtain⟨b,ez,kb⟩:=qj ky e1
    subst ez
    exact⟨a,_,rfl,.inr ⟨aF,k,b,.inr ⟨o,q⟩,rfl,kb,rfl⟩,.inr ⟨aF,.inr ⟨o,q⟩⟩,h1,h2⟩
   |lst us=>cases e
   |ins C fs=>cases e
 |@dK a kvs aF na ha ek ks=>
  obtain⟨k,e1,e2⟩:=bind_some (show(ic y).bind _=some _ from e)
  cases e2
  obtain⟨h1,h2⟩:=(aX.of ek ks).val k
  have ez:=nJ ky e1
  subst ez
  exact⟨a,_,rfl,.inl ⟨aF,k,.inl ha,rfl,rfl⟩,.inl ⟨aF,.inl ha⟩,h1,h2⟩
 |@dT a kvs aF na ha ek ks=>
  obtain⟨k,e1,e2⟩:=bind_some (show(cL y).bind _=some _ from e)
  cases e2
  obtain⟨h1,h2⟩:=(aX.of ek ks).val k
  obtain⟨b,ez,kb⟩:=qj ky e1
  subst ez
  exact⟨a,_,rfl,.inr ⟨aF,k,b,.inl ha,rfl,kb,rfl⟩,.inr ⟨aF,.inl ha⟩,h1,h2⟩
 |_=>first | exact nk e | cases e
def ed (h:MH)(d y v:U):Option MH:=match d with
 |.ref n=>match h[n]? with
  |some (.dK kvs)=>(ic y).bind λk=>if kvs.length<sizeLine then some (h.set n (.dK (p3 kvs k v))) else none
  |some (.dT kvs)=>(cL y).bind λk=>if kvs.length<sizeLine then some (h.set n (.dT (p3 kvs k v))) else none
  |_=>none
 |_=>none
theorem nq {ι:List Addr}{H:Hp}{p:Addr}{n:Nat}(hn:ι[n]?=some p)(hz:∀ o u,H p≠some (.dE o u))(u:HO):Ext ι H ι (upd H p u):=by
 have hp:p∈ι:=abY hn
 exact⟨⟨[],by simp⟩,λa o m q=>by rw[ax (show a≠p from λz=>m (by rw[z];exact hp))];exact q,λa m n=>absurd m n,λa o u q=>by rw[ax (λz=>by subst z;exact hz _ _ q)];exact q⟩
theorem HG {ι:List Addr}{H:Hp}{h h':MH}{d y v:U}{x z w:V}(hr:aE ι H h)(kd:Rel ι H d x)(ky:Rel ι H y z)(kv:Rel ι H v w)(e:ed h d y v=some h') :
  ∃ a H',x=.ref a/\Ln H a z w H'/\Ext ι H ι H'/\aE ι H' h':=by
 cases kd with
 |@ref n a hn=>
  unfold ed at e
  dsimp only at e
  cases eo:h[n]? with
  |none=>rw[eo]at e;cases e
  |some ob=>
   rw[eo]at e
   have mo:=hr.ref hn eo
   cases ob with
   |dK kvs=>
    obtain⟨k,e1,e2⟩:=bind_some e
    obtain⟨hl,e2⟩:=ao e2
    cases e2
    obtain⟨aF,q,r⟩:=mo
    have ez:=nJ ky e1
    subst ez
    have x:=nq (H:=H) hn (λ_ _ z=>by rw[q]at z;cases z) (.dK (putK aF k w))
    obtain⟨_,O6⟩:=hr.put hn (u:=.dK (putK aF k w)) (o:=.dK (p3 kvs k v)) (λvs y=>by rw[q]at y;cases y) (λ_ _ y=>by rw[q]at y;cases y) ⟨_,bF,(r.mono (x.kp hr)).put k (kv.mono (x.kp hr))⟩
    exact⟨a,_,rfl,.inl ⟨aF,k,q,rfl,by rw[<-r.length];exact hl,rfl⟩,x,O6⟩
   |dT kvs=>
    obtain⟨k,e1,e2⟩:=bind_some e
    obtain⟨hl,e2⟩:=ao e2
    cases e2
    obtain⟨aF,q,r⟩:=mo
    obtain⟨b,ez,kb⟩:=qj ky e1
    subst ez
    have x:=nq (H:=H) hn (λ_ _ z=>by rw[q]at z;cases z) (.dT (putK aF k w))
    obtain⟨_,O6⟩:=hr.put hn (u:=.dT (putK aF k w)) (o:=.dT (p3 kvs k v)) (λvs y=>by rw[q]at y;cases y) (λ_ _ y=>by rw[q]at y;cases y) ⟨_,bF,(r.mono (x.kp hr)).put k (kv.mono (x.kp hr))⟩
    exact⟨a,_,rfl,.inr ⟨aF,k,b,q,rfl,kb,by rw[<-r.length];exact hl,rfl⟩,x,O6⟩
   |lst us=>cases e
   |fT us=>cases e
   |ins C fs=>cases e
 |_=>first | exact nk e | cases e
def ED (d y:ME):ME:=λσ h=>(d σ h).bind λp=>(y σ p.2).bind λq=>(bP q.2 p.1 q.1).bind λo=>o.bind λu=>some (u,q.2)
instance Jq {td ty:TE}{d y:ME}[A:SE td d][B:SE ty y]:SE (Gg td ty) (ED d y):=⟨λ{σ H Q σu ι h u h'} hs hr e q=>by
 obtain⟨⟨x,h1⟩,e1,e⟩:=bind_some e
 obtain⟨⟨z,h2⟩,e2,e⟩:=bind_some e
 obtain⟨o,e3,e⟩:=bind_some e
 obtain⟨w,e4,e⟩:=bind_some e
 cases e
 refine A.go hs hr e1 λι1 H1 v1 x1 r1 k1=>?_
 refine B.go (hs.mono (x1.kp hr)) r1 e2 λι2 H2 v2 x2 r2 k2=>?_
 obtain⟨a,p,ea,g,_,_,g2⟩:=uE r2 (k1.mono (x2.kp r1)) k2 e3
 obtain⟨v,rfl,kv⟩:=g2 _ e4
 exact⟨a,v,ea,g,q _ _ _ (x1.trans x2) r2 kv⟩⟩
def BY (neg:Bool)(y d:ME):ME:=λσ h=>(y σ h).bind λp=>(d σ p.2).bind λq=>(bP q.2 q.1 p.1).bind λo=>some (.bl (if neg then !o.isSome else o.isSome),q.2)
theorem rG (g1:o=none->p=none)(g2:∀ u,o=some u->∃ v,p=some v/\Rel ι H u v):p.isSome=o.isSome:=by
 cases o with
 |none=>rw[g1 rfl];rfl
 |some u=>obtain⟨v,e,_⟩:=g2 u rfl;rw[e];rfl
instance N0 {td ty:TE}{d y:ME}[A:SE ty y][B:SE td d]:SE (Ot ty td) (BY false y d):=⟨λ{σ H Q σu ι h u h'} hs hr e q=>by
 obtain⟨⟨x,h1⟩,e1,e⟩:=bind_some e
 obtain⟨⟨z,h2⟩,e2,e⟩:=bind_some e
 obtain⟨o,e3,e⟩:=bind_some e
 cases e
 refine A.go hs hr e1 λι1 H1 v1 x1 r1 k1=>?_
 refine B.go (hs.mono (x1.kp hr)) r1 e2 λι2 H2 v2 x2 r2 k2=>?_
 obtain⟨a,p,ea,g,_,g1,g2⟩:=uE r2 k2 (k1.mono (x2.kp r1)) e3
 exact⟨a,p,ea,g,by rw[rG g1 g2];exact q _ _ _ (x1.trans x2) r2 .bl⟩⟩
instance Cq {td ty:TE}{d y:ME}[A:SE ty y][B:SE td d]:SE (vk ty td) (BY true y d):=⟨λ{σ H Q σu ι h u h'} hs hr e q=>by
 obtain⟨⟨x,h1⟩,e1,e⟩:=bind_some e
 obtain⟨⟨z,h2⟩,e2,e⟩:=bind_some e
 obtain⟨o,e3,e⟩:=bind_some e
 cases e
 refine A.go hs hr e1 λι1 H1 v1 x1 r1 k1=>?_
 refine B.go (hs.mono (x1.kp hr)) r1 e2 λι2 H2 v2 x2 r2 k2=>?_
 obtain⟨a,p,ea,g,_,g1,g2⟩:=uE r2 k2 (k1.mono (x2.kp r1)) e3
 exact⟨a,p,ea,g,by rw[rG g1 g2];exact q _ _ _ (x1.trans x2) r2 .bl⟩⟩
def EE (d y v:ME):MS:=λσ h=>(v σ h).bind λp=>(d σ p.2).bind λq=>(y σ q.2).bind λr=>(ed r.2 q.1 r.1 p.1).bind λh'=>some (.nx σ,h')
instance Jz {td ty tv:TE}{d y v:ME}[A:SE tv v][B:SE td d][C:SE ty y]:SS (FN td ty tv) (EE d y v):=⟨λ{D σ H σu ι h f h'} hs hr e q=>by
 obtain⟨⟨x,h1⟩,e1,e⟩:=bind_some e
 obtain⟨⟨z,h2⟩,e2,e⟩:=bind_some e
 obtain⟨⟨w,h3⟩,e3,e⟩:=bind_some e
 obtain⟨h4,e4,e⟩:=bind_some e
 cases e
 refine A.go hs hr e1 λι1 H1 v1 x1 r1 k1=>?_
 refine B.go (hs.mono (x1.kp hr)) r1 e2 λι2 H2 v2 x2 r2 k2=>?_
 refine C.go (hs.mono ((x1.trans x2).kp hr)) r2 e3 λι3 H3 v3 x3 r3 k3=>?_
 obtain⟨a,H4,ea,g,x4,r4⟩:=HG r3 (k2.mono (x3.kp r2)) k3 (k1.mono ((x2.trans x3).kp r1)) e4
 exact⟨a,H4,ea,g,q _ _ (((x1.trans x2).trans x3).trans x4) r4 _ (hs.mono ((((x1.trans x2).trans x3).trans x4).kp hr))⟩⟩
noncomputable def uT:ME:=λ_ h=>some (.ref h.length,h++[.dK []])
noncomputable def cj:ME:=λ_ h=>some (.ref h.length,h++[.dT []])
instance FT:SE zB uT:=⟨λ{σ H Q σu ι h u h'} hs hr e q=>by
 cases e
 intro p hp
 obtain⟨x,r⟩:=hr.new hp (u:=.dK []) (o:=.dK []) ⟨[],bF,.nil⟩
 exact q _ _ _ x r (.ref (by rw[<-hr.len];simp))⟩
instance FV:SE vj cj:=⟨λ{σ H Q σu ι h u h'} hs hr e q=>by
 cases e
 intro p hp
 obtain⟨x,r⟩:=hr.new hp (u:=.dT []) (o:=.dT []) ⟨[],bF,.nil⟩
 exact q _ _ _ x r (.ref (by rw[<-hr.len];simp))⟩
noncomputable def aZ (h:MH):U->Bool
 |.ref n=>match h[n]? with | some (.dK _)=>true | some (.dT _)=>true | some (.fT _)=>true | _=>false
 |.dK _=>true
 |.dT _=>true
 |_=>false
theorem Mi (hr:aE ι H h)(kd:Rel ι H d x)(e:aZ h d=true):∃ a,x=.ref a/\Si H a:=by
 cases kd with
 |@ref n a hn=>
  unfold aZ at e
  dsimp only at e
  cases eo:h[n]? with
  |none=>rw[eo]at e;cases e
  |some ob=>
   rw[eo]at e
   have mo:=hr.ref hn eo
   cases ob with
   |dK kvs=>obtain⟨aF,q,r⟩:=mo;exact⟨a,rfl,.inl ⟨aF,.inl q⟩⟩
   |dT kvs=>obtain⟨aF,q,r⟩:=mo;exact⟨a,rfl,.inr ⟨aF,.inl q⟩⟩
   |fT kvs=>obtain⟨o,aF,q,r⟩:=mo;exact⟨a,rfl,.inr ⟨aF,.inr ⟨o,q⟩⟩⟩
   |_=>first | exact nk e | cases e
 |dK na ha ek ks=>exact⟨_,rfl,.inl ⟨_,.inl ha⟩⟩
 |dT na ha ek ks=>exact⟨_,rfl,.inr ⟨_,.inl ha⟩⟩
 |_=>first | exact nk e | cases e
class SM [kf:KF](r:V->List V->Hp->VK->Prop)(g:outParam (U->List U->MH->Option (U×MH))):Prop where
 go:∀ {x:V}{xs:List V}{H:Hp}{Q:VK}{a:U}{us:List U}{ι:List Addr}{h:MH}{u:U}{h':MH},aE ι H h->Rel ι H a x->aH ι H us xs->g a us h=some (u,h')->
  (∀ ι' H' v,Ext ι H ι' H'->aE ι' H' h'->Rel ι' H' u v->Q v H')->r x xs H Q
noncomputable def i9 (g:U->List U->MH->Option (U×MH))(o:ME)(a:MA):ME:=λσ h=>(o σ h).bind λp=>(bE p.2 p.1).bind λ_=>(a σ p.2).bind λq=>g p.1 q.1 q.2
theorem ty_list (hr:aE ι H h)(k:Rel ι H a x)(e:bE h a=some z):TF kf.K "list" x H:=by
 obtain⟨n,us⟩:=z
 obtain⟨p,vs,_,rfl,_,q,_⟩:=jv hr k e
 exact .inl ⟨rfl,vs,fh.of q⟩
instance Yf {r:V->List V->Hp->VK->Prop}{g:U->List U->MH->Option (U×MH)}{to:TE}{t:TA}{o:ME}{a:MA}[G:SM r g][A:SE to o][B:SA t a]:SE (RZ kf.K "list" r to t) (i9 g o a):=⟨λ{σ H Q σu ι h u h'} hs hr e q=>by
 obtain⟨⟨x,h1⟩,e1,e⟩:=bind_some e
 obtain⟨z,e2,e⟩:=bind_some e
 obtain⟨⟨us,h2⟩,e3,e⟩:=bind_some e
 refine A.go hs hr e1 λι1 H1 v1 x1 r1 k1=>⟨ty_list r1 k1 e2,?_⟩
 refine B.go (hs.mono (x1.kp hr)) r1 e3 λι2 H2 v2 x2 r2 k2=>?_
 exact G.go r2 (k1.mono (x2.kp r1)) k2 e λι3 H3 v3 x3 r3 k3=>q _ _ _ ((x1.trans x2).trans x3) r3 k3⟩
instance V9 {r:V->List V->Hp->VK->Prop}{g:U->List U->MH->Option (U×MH)}{to:TE}{o:ME}[G:SM r g][A:SE to o]:SE (JE kf.K "list" r to) (i9 g o af):=⟨λ{σ H Q σu ι h u h'} hs hr e q=>by
 obtain⟨⟨x,h1⟩,e1,e⟩:=bind_some e
 obtain⟨z,e2,e⟩:=bind_some e
 refine A.go hs hr e1 λι1 H1 v1 x1 r1 k1=>⟨ty_list r1 k1 e2,?_⟩
 exact G.go r1 k1 .nil e λι3 H3 v3 x3 r3 k3=>q _ _ _ (x1.trans x3) r3 k3⟩
noncomputable def aV:U->List U->MH->Option (U×MH):=λa us h=>match us with
 |[y]=>(bE h a).bind λp=>if p.2.length<sizeLine then some (.aq,h.set p.1 (.lst (p.2++[y]))) else none
 |_=>none
instance Pl:SM vb aV:=⟨λ{x xs H Q a us ι h u h'} hr ka ks e q=>by
 match us,ks,e with
 |[y],.cons ky .nil,e=>
  obtain⟨⟨n,ws⟩,e1,e⟩:=bind_some (show(bE h a).bind _=some _ from e)
  obtain⟨hl,e⟩:=ao e
  cases e
  obtain⟨p,vs,rfl,rfl,hp,q1,r1⟩:=jv hr ka e1
  obtain⟨z1,z2⟩:=hV hr hp q1 (r1.append (.cons ky .nil))
  exact⟨p,vs,_,rfl,rfl,q1,by rw[<-r1.length];exact hl,q _ _ _ z1 z2 .aq⟩⟩
noncomputable def gD:U->List U->MH->Option (U×MH):=λa us h=>match us with
 |[b]=>(bE h a).bind λp=>(bX h b).bind λr=>if p.2.length+r.length<=sizeLine then some (.aq,h.set p.1 (.lst (p.2++r))) else none
 |_=>none
instance Pm:SM vc gD:=⟨λ{x xs H Q a us ι h u h'} hr ka ks e q=>by
 match us,ks,e with
 |[b],.cons kb .nil,e=>
  obtain⟨⟨n,ws⟩,e1,e⟩:=bind_some (show(bE h a).bind _=some _ from e)
  obtain⟨ys,e2,e⟩:=bind_some e
  obtain⟨hl,e⟩:=ao e
  cases e
  obtain⟨p,vs,rfl,rfl,hp,q1,r1⟩:=jv hr ka e1
  obtain⟨p2,vs2,rfl,q2,r2⟩:=ly hr kb e2
  obtain⟨z1,z2⟩:=hV hr hp q1 (r1.append r2)
  exact⟨p,p2,vs,vs2,rfl,rfl,q1,q2,by rw[<-r1.length,<-r2.length];exact hl,q _ _ _ z1 z2 .aq⟩⟩
noncomputable def mV:U->List U->MH->Option (U×MH):=λa us h=>match us with
 |[]=>(bE h a).bind λp=>(p.2[p.2.length-1]?).bind λy=>some (y,h.set p.1 (.lst p.2.dropLast))
 |_=>none
theorem aH.dropLast (r:aH ι H us vs):aH ι H us.dropLast vs.dropLast:=by
 rw[List.dropLast_eq_take,List.dropLast_eq_take,<-r.length]
 exact r.take _
instance Wi:SM NF mV:=⟨λ{x xs H Q a us ι h u h'} hr ka ks e q=>by
 match us,ks,e with
 |[],.nil,e=>
  obtain⟨⟨n,ws⟩,e1,e⟩:=bind_some (show(bE h a).bind _=some _ from e)
  obtain⟨y,e2,e⟩:=bind_some e
  cases e
  obtain⟨p,vs,rfl,rfl,hp,q1,r1⟩:=jv hr ka e1
  obtain⟨z1,z2⟩:=hV hr hp q1 r1.dropLast
  obtain⟨v,ev,kv⟩:=r1.get e2
  exact⟨p,vs,v,rfl,rfl,q1,by rw[<-r1.length];exact ev,q _ _ _ z1 z2 (kv.mono (z1.kp hr))⟩⟩
noncomputable def i5:U->List U->MH->Option (U×MH):=λa us h=>match us with
 |[]=>(bE h a).bind λp=>some (.aq,h.set p.1 (.lst p.2.reverse))
 |_=>none
instance Oc:SM rO i5:=⟨λ{x xs H Q a us ι h u h'} hr ka ks e q=>by
 match us,ks,e with
 |[],.nil,e=>
  obtain⟨⟨n,ws⟩,e1,e⟩:=bind_some (show(bE h a).bind _=some _ from e)
  cases e
  obtain⟨p,vs,rfl,rfl,hp,q1,r1⟩:=jv hr ka e1
  obtain⟨z1,z2⟩:=hV hr hp q1 r1.reverse
  exact⟨p,vs,rfl,rfl,q1,q _ _ _ z1 z2 .aq⟩⟩
def rA (kvs more:List (Key×U)):List (Key×U):=more.foldl (λacc kv=>p3 acc kv.1 kv.2) kvs
theorem tS:∀ {more:List (Key×U)}{KG:List (Key×V)}{kvs:List (Key×U)}{aF:List (Key×V)},aX ι H more KG->aX ι H kvs aF->aX ι H (rA kvs more) (jz aF KG)
 |_,_,_,_,.nil,r=>r
 |(k,u)::mr,(_,v)::mq,kvs,aF,.cons a b,r=>by
  show aX ι H (rA (p3 kvs k u) mr) (jz (putK aF k v) mq)
  exact tS b (r.put k a)
def VB:List V->Hp->VK->Prop:=λxs H Q=>(∃ i,xs=[.int i]/\Q (.int i) H)\/∃ k,xs=[.bl k]/\Q (.int (if k then 1 else 0)) H
noncomputable def Ej:MF:=λus h=>match us with | [.int i]=>some (.int i,h) | [.bl k]=>some (.int (if k then 1 else 0),h) | _=>none
instance NW:SC VB Ej:=⟨λ{xs H Q us ι h u h'} hr k e q=>by
 rcases us with _ | ⟨a,_ | ⟨b,_⟩⟩
 ·cases e
 ·obtain _ | ⟨k1,_ | _⟩:=k
  cases a<;>first | exact nk e | skip
  ·cases k1;cases e;exact .inr ⟨_,rfl,q _ _ _ .refl hr .int⟩
  ·cases k1;cases e;exact .inl ⟨_,rfl,q _ _ _ .refl hr .int⟩
 ·cases a<;>exact nk e⟩
noncomputable def ox:List U->Option (List Bool)
 |[]=>some []
 |.bl i::r=>(ox r).bind λis=>some (i::is)
 |_=>none
theorem sY:∀ {us}{vs}{ns:List Bool},aH ι H us vs->ox us=some ns->vs=ns.map V.bl
 |_,_,_,.nil,e=>by cases e;rfl
 |_,_,_,.cons a r,e=>by
  cases a<;>first | exact nk e | skip
  obtain⟨is,e1,e⟩:=bind_some (show(ox _).bind _=some _ from e)
  cases e
  rw[sY r e1];rfl
def VA (K:PySem.W.Frag):List V->Hp->VK->Prop:=λxs H Q=>∃ p,∃ bs:List Bool,xs=[.ref p]/\fh K H p (bs.map V.bl)/\Q (.bl (bs.all id)) H
def Hg:MF:=λus h=>match us with
 |[a]=>(bX h a).bind λws=>(ox ws).bind λbs=>some (.bl (bs.all id),h)
 |_=>none
instance NV:SC (VA kf.K) Hg:=⟨λ{xs H Q us ι h u h'} hr k e q=>by
 match us,k,e with
 |[a],.cons ka .nil,e=>
  obtain⟨ws,e1,e⟩:=bind_some (show(bX h a).bind _=some _ from e)
  obtain⟨ns,e2,e⟩:=bind_some e
  cases e
  obtain⟨p,vs,rfl,z,r⟩:=ly hr ka e1
  have ev:=sY r e2
  subst ev
  exact⟨_,ns,rfl,fh.of z,q _ _ _ .refl hr .bl⟩⟩
mutual
inductive fH (k:Nat):U->Prop
 |aq:fH k .aq
 |bl {b:Bool}:fH k (.bl b)
 |int {i:Int}:fH k (.int i)
 |str {x:Str}:fH k (.str x)
 |tup {us:List U}:dB k us->fH k (.tup us)
 |lst {us:List U}:dB k us->fH k (.lst us)
 |dK {kvs:List (Key×U)}:dB k (kvs.map (·.2))->fH k (.dK kvs)
 |dT {kvs:List (NK.KD×U)}:dB k (kvs.map (·.2))->fH k (.dT kvs)
 |ref {n:Nat}:n<k->fH k (.ref n)
 |eA {us:List U}:dB k us->fH k (.eA us)
 |iY {us:List U}:dB k us->fH k (.iY us)
inductive dB (k:Nat):List U->Prop
 |nil:dB k []
 |cons {u:U} {us:List U}:fH k u->dB k us->dB k (u::us)
end
theorem Rel.low (q:Rel ι H u v):fH ι.length u:=
 Rel.rec (motive_1:=λu _ _=>fH ι.length u) (motive_2:=λu _ _=>dB ι.length u) .aq .bl .int .str (λ_ _ i=>.tup i) (λh=>.ref (abn.mp h).1) (λ_ _ _ i=>.lst i) (λ_ _ _ _ i=>.dK i) (λ_ _ _ _ i=>.dT i) (λ_ _ i=>.eA i) (λ_ _ i=>.iY i) .nil (λ_ _ a b=>.cons a b) q
theorem aH.low (q:aH ι H us vs):dB ι.length us:=
 q.ind (P:=λu _=>dB ι.length u) .nil λh i=>.cons h.low i
theorem dy {a:Addr}{ι r:List Addr}(h:a∉ι++r):a∉ι:=λm=>h (List.mem_append_left _ m)
theorem Rel.cut {ι r:List Addr}{H:Hp}{u:U}{v:V}(q:Rel (ι++r) H u v):fH ι.length u->Rel ι H u v:=
 Rel.rec (motive_1:=λu v _=>fH ι.length u->Rel ι H u v) (motive_2:=λu v _=>dB ι.length u->aH ι H u v) (λ_=>.aq) (λ_=>.bl) (λ_=>.int) (λ_=>.str) (λe _ i l=>by cases l with | tup l=>exact .tup e (i l)) (λh l=>by cases l with | ref l=>exact .ref (by rw[abq l]at h;exact h)) (λn e _ i l=>by cases l with | lst l=>exact .lst (dy n) e (i l)) (λn e z _ i l=>by cases l with | dK l=>exact .dK (dy n) e z (i l)) (λn e z _ i l=>by cases l with | dT l=>exact .dT (dy n) e z (i l)) (λz _ i l=>by cases l with | eA l=>exact .eA (z.imp (λn=>⟨dy n.1,n.2⟩) id) (i l)) (λz _ i l=>by cases l with | iY l=>exact .iY z (i l)) (λ_=>.nil) (λ_ _ a b l=>by cases l with | cons l m=>exact .cons (a l) (b m)) q
theorem aH.DD (q:aH (ι++r) H us vs):dB ι.length us->aH ι H us vs:=
 q.ind (P:=λu v=>dB ι.length u->aH ι H u v) (λ_=>.nil) λh i l=>by cases l with | cons l m=>exact .cons (h.cut l) (i m)
noncomputable def lS:MO->List U
 |.lst us=>us
 |.dK kvs=>kvs.map (·.2)
 |.dT kvs=>kvs.map (·.2)
 |.fT kvs=>kvs.map (·.2)
 |.ins _ fs=>fs.map (·.2)
theorem gP.low:∀ {o:MO},gP ι H a o->dB ι.length (lS o)
 |.lst _,⟨_,_,r⟩=>r.low
 |.dK _,⟨_,_,r⟩=>r.keys.2.low
 |.dT _,⟨_,_,r⟩=>r.keys.2.low
 |.fT _,⟨_,_,_,r⟩=>r.keys.2.low
 |.ins _ _,⟨_,_,_,r⟩=>r.keys.2.low
theorem gP.cut:∀ {o:MO},gP (ι++r) H a o->dB ι.length (lS o)->gP ι H a o
 |.lst _,⟨vs,e,q⟩,l=>⟨vs,e,q.DD l⟩
 |.dK _,⟨vs,e,q⟩,l=>⟨vs,e,.of q.keys.1 (q.keys.2.DD l)⟩
 |.dT _,⟨vs,e,q⟩,l=>⟨vs,e,.of q.keys.1 (q.keys.2.DD l)⟩
 |.fT _,⟨o,vs,e,q⟩,l=>⟨o,vs,e,.of q.keys.1 (q.keys.2.DD l)⟩
 |.ins _ _,⟨dx,vs,e,q⟩,l=>⟨dx,vs,e,.of q.keys.1 (q.keys.2.DD l)⟩
mutual
inductive l4 (k:Nat)(h:MH):U->U->Prop
 |aq:l4 k h .aq .aq
 |bl {b:Bool}:l4 k h (.bl b) (.bl b)
 |int {i:Int}:l4 k h (.int i) (.int i)
 |str {x:Str}:l4 k h (.str x) (.str x)
 |tup {us vp:List U}:jT k h us vp->l4 k h (.tup us) (.tup vp)
 |lst {us vp:List U}:jT k h us vp->l4 k h (.lst us) (.lst vp)
 |dK {kvs aF:List (Key×U)}:kvs.map (·.1)=aF.map (·.1)->jT k h (kvs.map (·.2)) (aF.map (·.2))->l4 k h (.dK kvs) (.dK aF)
 |dT {kvs aF:List (NK.KD×U)}:kvs.map (·.1)=aF.map (·.1)->jT k h (kvs.map (·.2)) (aF.map (·.2))->l4 k h (.dT kvs) (.dT aF)
 |eA {us vp:List U}:jT k h us vp->l4 k h (.eA us) (.eA vp)
 |iY {us vp:List U}:jT k h us vp->l4 k h (.iY us) (.iY vp)
 |old {n:Nat}:n<k->l4 k h (.ref n) (.ref n)
 |za {n:Nat} {us vp:List U}:k<=n->h[n]?=some (.lst us)->jT k h us vp->l4 k h (.ref n) (.lst vp)
 |IB {n:Nat} {kvs aF:List (Key×U)}:k<=n->h[n]?=some (.dK kvs)->kvs.map (·.1)=aF.map (·.1)->jT k h (kvs.map (·.2)) (aF.map (·.2))->l4 k h (.ref n) (.dK aF)
 |uZ {n:Nat} {kvs aF:List (NK.KD×U)}:k<=n->h[n]?=some (.dT kvs)->kvs.map (·.1)=aF.map (·.1)->jT k h (kvs.map (·.2)) (aF.map (·.2))->l4 k h (.ref n) (.dT aF)
inductive jT (k:Nat)(h:MH):List U->List U->Prop
 |nil:jT k h [] []
 |cons {u u':U} {us vp:List U}:l4 k h u u'->jT k h us vp->jT k h (u::us) (u'::vp)
end
theorem lH {κ:Type}:∀ {a b:List (κ×U)},a.map (·.1)=b.map (·.1)->a.map (·.2)=b.map (·.2)->a=b
 |[],[],_,_=>rfl
 |(x,y)::r,(z,w)::q,h1,h2=>by
  rw[abH,abH]at h1 h2
  injection h1 with a1 a2
  injection h2 with b1 b2
  have Yy:x=z:=a1
  have YD:y=w:=b1
  rw[Yy,YD,lH a2 b2]
 |[],_::_,h1,_=>nomatch h1
 |_::_,[],h1,_=>nomatch h1
theorem l4.inj (r:l4 k h u a):l4 k h u b->a=b:=
 l4.rec (motive_1:=λu a _=>∀ b,l4 k h u b->a=b) (motive_2:=λu a _=>∀ b,jT k h u b->a=b) (λ_ q=>by cases q;rfl) (λ_ q=>by cases q;rfl) (λ_ q=>by cases q;rfl) (λ_ q=>by cases q;rfl)
  (λ_ i _ q=>by cases q with | tup s=>rw[i _ s]) (λ_ i _ q=>by cases q with | lst s=>rw[i _ s]) (λe _ i _ q=>by cases q with | dK e' s=>rw[lH (e.symm.trans e') (i _ s)]) (λe _ i _ q=>by cases q with | dT e' s=>rw[lH (e.symm.trans e') (i _ s)]) (λ_ i _ q=>by cases q with | eA s=>rw[i _ s]) (λ_ i _ q=>by cases q with | iY s=>rw[i _ s])
  (λl _ q=>by
   cases q with
   |old _=>rfl
   |za m _ _=>exact absurd l (Nat.not_lt.mpr m)
   |IB m _ _ _=>exact absurd l (Nat.not_lt.mpr m)
   |uZ m _ _ _=>exact absurd l (Nat.not_lt.mpr m))
  (λm e _ i _ q=>by
   cases q with
   |old l=>exact absurd l (Nat.not_lt.mpr m)
   |za _ e' s=>rw[e]at e';cases e';rw[i _ s]
   |IB _ e' _ _=>rw[e]at e';cases e'
   |uZ _ e' _ _=>rw[e]at e';cases e')
  (λm e z _ i _ q=>by
   cases q with
   |old l=>exact absurd l (Nat.not_lt.mpr m)
   |za _ e' _=>rw[e]at e';cases e'
   |IB _ e' z' s=>rw[e]at e';cases e';rw[lH (z.symm.trans z') (i _ s)]
   |uZ _ e' _ _=>rw[e]at e';cases e')
  (λm e z _ i _ q=>by
   cases q with
   |old l=>exact absurd l (Nat.not_lt.mpr m)
   |za _ e' _=>rw[e]at e';cases e'
   |IB _ e' _ _=>rw[e]at e';cases e'
   |uZ _ e' z' s=>rw[e]at e';cases e';rw[lH (z.symm.trans z') (i _ s)])
  (λ_ q=>by cases q;rfl) (λ_ _ a b _ q=>by cases q with | cons r' s'=>rw[a _ r',b _ s']) r b
theorem fH.dE (q:fH k u):l4 k h u u:=
 fH.rec (motive_1:=λu _=>l4 k h u u) (motive_2:=λu _=>jT k h u u) .aq .bl .int .str (λ_ i=>.tup i) (λ_ i=>.lst i) (λ_ i=>.dK rfl i) (λ_ i=>.dT rfl i) .old (λ_ i=>.eA i) (λ_ i=>.iY i) .nil (λ_ _ a b=>.cons a b) q
theorem dB.dE (q:dB k us):jT k h us us:=by
 cases(fH.tup q).dE (h:=h) with | tup s=>exact s
theorem oR {ι r:List Addr}{n:Nat}{a:Addr}(nd:(ι++r).Nodup)(e:(ι++r)[n]?=some a)(l:ι.length<=n):a∉ι:=λm=>by
 rw[abt l]at e
 have m2:a∈r:=abY e
 rw[List.nodup_append]at nd
 exact nd.2.2 a m a m2 rfl
theorem l4.rel {ι r:List Addr}{H:Hp}{h:MH}(hr:aE (ι++r) H h){u u':U}{v:V}(s:l4 ι.length h u u'):Rel (ι++r) H u v->Rel ι H u' v:=
 l4.rec (motive_1:=λu u' _=>∀ v,Rel (ι++r) H u v->Rel ι H u' v) (motive_2:=λu u' _=>∀ v,aH (ι++r) H u v->aH ι H u' v) (λ_ q=>by cases q;exact .aq) (λ_ q=>by cases q;exact .bl) (λ_ q=>by cases q;exact .int) (λ_ q=>by cases q;exact .str)
  (λ_ i _ q=>by cases q with | tup e x=>exact .tup e (i _ x)) (λ_ i _ q=>by cases q with | lst n e x=>exact .lst (dy n) e (i _ x)) (λz _ i _ q=>by cases q with | dK n e y x=>exact .dK (dy n) e (z.symm.trans y) (i _ x)) (λz _ i _ q=>by cases q with | dT n e y x=>exact .dT (dy n) e (z.symm.trans y) (i _ x))
  (λ_ i _ q=>by cases q with | eA z x=>exact .eA (z.imp (λn=>⟨dy n.1,n.2⟩) id) (i _ x)) (λ_ i _ q=>by cases q with | iY z x=>exact .iY z (i _ x)) (λl _ q=>by cases q with | ref e=>exact .ref (by rw[abq l]at e;exact e))
  (λl e _ i _ q=>by
   cases q with
   |ref en=>
    obtain⟨vs,z,x⟩:=hr.obj _ _ _ en e
    exact .lst (oR hr.nd en l) z (i _ x))
  (λl e y _ i _ q=>by
   cases q with
   |ref en=>
    obtain⟨vs,z,x⟩:=hr.obj _ _ _ en e
    exact .dK (oR hr.nd en l) z (y.symm.trans x.keys.1) (i _ x.keys.2))
  (λl e y _ i _ q=>by
   cases q with
   |ref en=>
    obtain⟨vs,z,x⟩:=hr.obj _ _ _ en e
    exact .dT (oR hr.nd en l) z (y.symm.trans x.keys.1) (i _ x.keys.2))
  (λ_ q=>by cases q;exact .nil) (λ_ _ a b _ q=>by cases q with | cons x y=>exact .cons (a _ x) (b _ y)) s v
def qx (h h1:MH):Prop:=h.length<=h1.length/\∀ i,i<h.length->h1[i]?=h[i]?\/∃ o,h1[i]?=some o/\dB h.length (lS o)
open Classical in
noncomputable def HK (h:MH)(u:U)(h1:MH):Option (U×MH):=
 if hx:∃ u',l4 h.length h1 u u'/\qx h h1 then some (Classical.choose hx,h1.take h.length) else none
theorem yD (f:l4 h.length h1 u u')(o:qx h h1):HK h u h1=some (u',h1.take h.length):=by
 unfold HK
 have hx:∃ u',l4 h.length h1 u u'/\qx h h1:=⟨u',f,o⟩
 rw[dif_pos hx,(Classical.choose_spec hx).1.inj f]
theorem DX (e:HK h u h1=some (u',h')):l4 h.length h1 u u'/\qx h h1/\h'=h1.take h.length:=by
 unfold HK at e
 split at e
 ·rename_i hx
  cases e
  exact⟨(Classical.choose_spec hx).1,(Classical.choose_spec hx).2,rfl⟩
 ·cases e
theorem L4 (hr:aE ι H h)(x:Ext ι H ι1 H1)(r1:aE ι1 H1 h1)(k:Rel ι1 H1 u v)(e:HK h u h1=some (u',h')) :
  Ext ι H ι H1/\aE ι H1 h'/\Rel ι H1 u' v:=by
 obtain⟨f,o,rfl⟩:=DX e
 obtain⟨r,rfl⟩:=x.pre
 rw[<-hr.len]at f ⊢
 refine⟨⟨⟨[],by simp⟩,x.keep,λa m n=>absurd m n,x.dE⟩,⟨?_,(List.nodup_append.mp r1.nd).1,λn a ob e1 e2=>?_⟩,f.rel r1 k⟩
 ·rw[acz,acv]
  exact hr.len▸o.1
 ·have hn:n<ι.length:=(abn.mp e1).1
  rw[List.getElem?_take_of_lt hn]at e2
  have mo:=r1.obj n a ob (by rw[abq hn];exact e1) e2
  refine mo.cut ?_
  rcases o.2 n (hr.len▸hn) with z | ⟨o',z1,z2⟩
  ·rw[e2]at z
   exact(hr.obj n a ob e1 z.symm).low
  ·rw[e2]at z1;cases z1
   rw[hr.len];exact z2
def dG (N:Nat)(m:MS):MF:=λus h=>(fZ N m us h).bind λp=>HK h p.1 p.2
theorem HJ [A:SS t m](h:oh n (dG N.length m) vs H Q E):t {nx:=λ_ H'=>Q .aq H',rt:=Q} (L2.start N vs) H:=by
 obtain⟨hl,ι,us,h,u,h',hr,r,e,q⟩:=h
 obtain⟨⟨u1,h1⟩,e1,e2⟩:=bind_some e
 refine DR (n:=n) (E:=E) ⟨hl,ι,us,h,u1,h1,hr,r,e1,λι1 H1 v x1 r1 k1=>?_⟩
 obtain⟨a,b,c⟩:=L4 hr x1 r1 k1 e2
 exact q _ _ _ a b c
theorem qx.app:qx h (h++g):=⟨by simp,λi l=>.inl (abq l)⟩
theorem rY {h g:MH}:(h++g).take h.length=h:=List.take_left
theorem kZ (e:fZ N m us h=some (u,h++g))(f:l4 h.length (h++g) u u'):dG N m us h=some (u',h):=by
 unfold dG
 rw[e]
 show HK h u (h++g)=_
 rw[yD f .app,rY]
theorem Ag (e:fZ N m us h=some (u,h.set t o++g))(lo:dB h.length (lS o))(f:l4 h.length (h.set t o++g) u u'):dG N m us h=some (u',h.set t o):=by
 unfold dG
 rw[e]
 show HK h u (h.set t o++g)=_
 have hl:(h.set t o).length=h.length:=ab8
 have ok:qx h (h.set t o++g):=⟨by rw[aby,hl];lia,λi l=>by
  rw[abq (by rw[hl];exact l)]
  by_cases z:t=i
  ·subst z
   exact .inr ⟨o,abR l,lo⟩
  ·exact .inl (abF z)⟩
 rw[yD f ok,<-hl,rY]
end S
namespace S
open PySem L2
variable [kf:KF]
noncomputable def fx (f:Str)(v:U):List (Str×U)->List (Str×U)
 |[]=>[(f,v)]
 |(g,x)::r=>if g=f then(g,v)::r else(g,x)::fx f v r
theorem aX.gu (f)(a:Rel ι H u v):∀ {fs:List (Str×U)}{tH:List (Str×V)},aX ι H fs tH->aX ι H (fx f u fs) (L2.gu f v tH)
 |_,_,.nil=>.cons a .nil
 |(g,x)::r,(_,y)::q,.cons b c=>by
  unfold fx L2.gu
  by_cases e:g=f
  ·rw[abr e,abr e];exact .cons a c
  ·rw[abo e,abo e];exact .cons b (aX.gu f a c)
theorem aX.lookup (f):∀ {fs:List (Str×U)}{tH:List (Str×V)},aX ι H fs tH->(fs.lookup f=none->tH.lookup f=none)/\∀ u,fs.lookup f=some u->∃ v,tH.lookup f=some v/\Rel ι H u v
 |_,_,.nil=>⟨λ_=>rfl,λ_ e=>nomatch e⟩
 |(g,x)::r,(_,y)::q,.cons b c=>by
  obtain⟨h1,h2⟩:=aX.lookup f c
  rw[abM,abM]
  cases e:f == g with
  |true=>exact⟨(λz=>nomatch z),λu z=>⟨y,rfl,by cases z;exact b⟩⟩
  |false=>exact⟨h1,h2⟩
abbrev CL:=Addr->Str->Prop
noncomputable def aL (h:MH):U->Option (Nat×Addr×List (Str×U))
 |.ref n=>match h[n]? with
  |some (.ins C fs)=>some (n,C,fs)
  |_=>none
 |_=>none
theorem yJ (hr:aE ι H h)(k:Rel ι H u v)(e:aL h u=some (n,C,fs)) :
  ∃ p dx tH,u=.ref n/\v=.ref p/\ι[n]?=some p/\h[n]?=some (.ins C fs)/\H p=some (.ins C dx tH)/\aX ι H fs tH:=by
 cases k with
 |@ref m a hn=>
  unfold aL at e
  dsimp only at e
  cases eo:h[m]? with
  |none=>rw[eo]at e;cases e
  |some o=>
   rw[eo]at e
   have mo:=hr.ref hn eo
   cases o with
   |ins C' fs0=>cases e;obtain⟨dx,vs,q,r⟩:=mo;exact⟨a,dx,vs,rfl,rfl,hn,eo,q,r⟩
   |_=>first | exact nk e | cases e
 |_=>first | exact nk e | cases e
open Classical in
def aj (cl:CL)(f:Str):M1:=λu h=>(aL h u).bind λp=>if cl p.2.1 f then(p.2.2.lookup f).bind λx=>some (x,h) else none
structure Bc (K:PySem.W.Frag)(cl:CL):Prop where
 ok:∀ C f,cl C f->p8 kf.K C/\jg kf.K C f
theorem N1 (ok:Bc kf.K cl)(A:SE ta a)(f):SE (R4 kf.K ta f) (ba (aj cl f) a):=⟨λ{σ H Q σu ι h u h'} hs hr e q=>by
 obtain⟨⟨x,h1⟩,e1,e⟩:=bind_some e
 obtain⟨⟨n,C,fs⟩,e2,e⟩:=bind_some e
 dsimp only at e
 split at e
 ·rename_i hc
  obtain⟨w,e3,e⟩:=bind_some e
  cases e
  refine A.go hs hr e1 λι1 H1 v1 x1 r1 k1=>?_
  obtain⟨p,dx,tH,rfl,rfl,hp,_,q1,r2⟩:=yJ r1 k1 e2
  obtain⟨v,ev,kv⟩:=(r2.lookup f).2 _ e3
  exact⟨p,C,dx,tH,v,rfl,q1,(ok.ok C f hc).1,(ok.ok C f hc).2,ev,q _ _ _ x1 r1 kv⟩
 ·cases e⟩
open Classical in
def bU (cl:CL)(f:Str)(x y:U)(h:MH):Option MH:=(aL h x).bind λp=>if cl p.2.1 f/\p.2.2.length<1000 then some (h.set p.1 (.ins p.2.1 (fx f y p.2.2))) else none
theorem aX.len {κ:Type}{ι:List Addr}{H:Hp}:∀ {us:List (κ×U)}{vs:List (κ×V)},aX ι H us vs->us.length=vs.length
 |_,_,.nil=>rfl
 |_,_,.cons _ r=>congrArg Nat.succ r.len
theorem Cs (ok:Bc kf.K cl)(hr:aE ι H h)(kx:Rel ι H x vx)(ky:Rel ι H y vy)(e:bU cl f x y h=some h') :
  ∃ p C dx fs,vx=.ref p/\H p=some (.ins C dx fs)/\p8 kf.K C/\jg kf.K C f/\fs.length<1000/\Ext ι H ι (upd H p (.ins C dx (L2.gu f vy fs)))/\aE ι (upd H p (.ins C dx (L2.gu f vy fs))) h':=by
 obtain⟨⟨n,C,fs⟩,e2,e⟩:=bind_some e
 dsimp only at e
 split at e
 ·rename_i hc
  cases e
  obtain⟨p,dx,tH,rfl,rfl,hp,_,q1,r2⟩:=yJ hr kx e2
  have x1:=nq (H:=H) hp (λ_ _ z=>by rw[q1]at z;cases z) (.ins C dx (L2.gu f vy tH))
  obtain⟨_,r3⟩:=hr.put hp (u:=.ins C dx (L2.gu f vy tH)) (o:=.ins C (fx f y fs)) (λvs z=>by rw[q1]at z;cases z) (λ_ _ z=>by rw[q1]at z;cases z) ⟨dx,_,bF,(r2.mono (x1.kp hr)).gu f (ky.mono (x1.kp hr))⟩
  exact⟨p,C,dx,tH,rfl,q1,(ok.ok C f hc.1).1,(ok.ok C f hc.1).2,by rw[<-r2.len];exact hc.2,x1,r3⟩
 ·cases e
def bA (cl:CL)(f:Str)(o v:ME):MS:=λσ h=>(v σ h).bind λp=>(o σ p.2).bind λq=>(bU cl f q.1 p.1 q.2).bind λh'=>some (.nx σ,h')
theorem Oj (ok:Bc kf.K cl)(A:SE ta a)(B:SE tv v)(f):SS (RG kf.K ta tv f) (bA cl f a v):=⟨λ{D σ H σu ι h fl h'} hs hr e q=>by
 obtain⟨⟨y,h1⟩,e1,e⟩:=bind_some e
 obtain⟨⟨x,h2⟩,e2,e⟩:=bind_some e
 obtain⟨h3,e3,e⟩:=bind_some e
 cases e
 refine B.go hs hr e1 λι1 H1 v1 x1 r1 k1=>?_
 refine A.go (hs.mono (x1.kp hr)) r1 e2 λι2 H2 v2 x2 r2 k2=>?_
 obtain⟨p,C,dx,fs,rfl,q1,c1,c2,c3,x3,r3⟩:=Cs ok r2 k2 (k1.mono (x2.kp r1)) e3
 exact⟨p,C,dx,fs,rfl,q1,c1,c2,c3,q _ _ ((x1.trans x2).trans x3) r3 _ (hs.mono (((x1.trans x2).trans x3).kp hr))⟩⟩
open Classical in
noncomputable def bJ (C:Addr)(m:Str)(n:Nat)(f:MF)(o:ME)(a:MA):ME:=λσ h=>(o σ h).bind λp=>(aL p.2 p.1).bind λi=>if i.2.1=C/\i.2.2.lookup m=none then(a σ p.2).bind λq=>if q.1.length+1=n then f (p.1::q.1) q.2 else none else none
instance To {C:Addr}{m:Str}{n:Nat}{f:MF}{E:XK}{ta:TE}{t:TA}{o:ME}{a:MA}[A:SE ta o][B:SA t a]:SE (xI C m (oh n f) [] E ta t) (bJ C m n f o a):=⟨λ{σ H Q σu ι h u h'} hs hr e q=>by
 obtain⟨⟨x,h1⟩,e1,e⟩:=bind_some e
 obtain⟨⟨k,C',fs⟩,e2,e4⟩:=bind_some e
 obtain⟨⟨hC,hm⟩,e5⟩:=ao e4
 obtain⟨⟨us,h2⟩,e3,e6⟩:=bind_some e5
 obtain⟨hl,e7⟩:=ao e6
 refine A.go hs hr e1 λι1 H1 v1 x1 r1 k1=>?_
 obtain⟨p,dx,tH,ex,ev,hp,_,q1,r2⟩:=yJ r1 k1 e2
 subst ev
 dsimp only at hC hm
 subst hC
 refine⟨p,dx,tH,rfl,q1,(r2.lookup m).1 hm,B.go (hs.mono (x1.kp hr)) r1 e3 λι2 H2 vs x2 r2 k2=>?_⟩
 show oh n f (.ref p::(vs++[])) H2 Q E
 rw[acj]
 exact⟨by rw[abC,<-k2.length];exact hl,ι2,x::us,h2,u,h',r2,.cons (k1.mono (x2.kp r1)) k2,e7,λι3 H3 v3 x3 r3 k3=>q _ _ _ ((x1.trans x2).trans x3) r3 k3⟩⟩
noncomputable def lA (C:Addr)(n:Nat)(f:MF)(a:MA):ME:=λσ h=>(a σ h).bind λp=>if p.1.length+1=n then(f (.ref p.2.length::p.1) (p.2++[.ins C []])).bind λq=>match q.1 with | .aq=>some (.ref p.2.length,q.2) | _=>none else none
instance Tn {C:Addr}{n:Nat}{f:MF}{E:XK}{t:TA}{a:MA}[B:SA t a]:SE (xH C (oh n f) [] E t) (lA C n f a):=⟨λ{σ H Q σu ι h u h'} hs hr e q=>by
 obtain⟨⟨us,h1⟩,e1,e⟩:=bind_some e
 obtain⟨hl,e⟩:=ao e
 obtain⟨⟨y,h2⟩,e2,e⟩:=bind_some e
 refine B.go hs hr e1 λι1 H1 vs x1 r1 k1 x dx hx UD ne=>?_
 rw[acj]
 have x2:Ext ι1 H1 ι1 (upd H1 dx (.own x)):=⟨⟨[],by simp⟩,λa o _ z=>by rw[ax (a0 z UD)];exact z,λa m n=>absurd m n,λa o u z=>by rw[ax (a0 z UD)];exact z⟩
 have r2:aE ι1 (upd H1 dx (.own x)) h1:=⟨r1.len,r1.nd,λn a o z1 z2=>(r1.obj n a o z1 z2).mono (x2.kp r1) (by
  rw[ax];intro z;exact r1.zc UD (z▸abY z1))⟩
 have Me:(upd H1 dx (.own x)) x=none:=by rw[ax (λz=>ne z.symm)];exact hx
 obtain⟨x3,r3⟩:=r2.new Me (u:=.ins C dx []) (o:=.ins C []) ⟨dx,[],bF,.nil⟩
 have xx:=x2.trans x3
 have hk:(ι1++[x])[h1.length]?=some x:=by rw[<-r1.len];simp
 refine⟨by rw[abC,<-k1.length];exact hl,_,.ref h1.length::us,_,y,h2,r3,.cons (.ref hk) (k1.mono (xx.kp r1)),e2,λι4 H4 v4 x4 r4 k4=>?_⟩
 dsimp only at e
 cases k4 with
 |aq=>cases e;exact⟨rfl,q _ _ _ ((x1.trans xx).trans x4) r4 (.ref (x4.at hk))⟩
 |_=>first | exact nk e | cases e⟩
end S
namespace L2
open PySem PySem.Spec PyProof.Rows
section
variable {X:Cx}{CX:Bb}{k:Nat}{f C:Addr}{fd:FuncData}{ps:List Str}{sp:Sp}{qd:List V}{ds:List Value}{E:XK}{m:Str}{pos apos:Pos}{e o:Expr}{es:List Expr}{ta:TE}{t:TA}
theorem tT {args:List Expr}{Q:Value->Shared->Prop}{s:Shared}
  (nG:attributeBase o m X.env (eval o X.env)=eval o X.env)
  (Ea:((backTo pos (starEach args X.env)).all (λx=>!x.1)&&(backToKw pos (keywordEach [] X.env)).all (λx=>x.1.isSome)
   &&decide (args.length+([]:List Keyword).length+(if ([]:List Keyword).isEmpty then 0 else 1)<30))=true)
  (nH:(apos.endLine == pos.line)=true)
  (h:wpAny (model X.prog X.w) X.A (eval o X.env) (λov s₁=>∀ pl,wpAny (model X.prog X.w) X.A (getMethod ov m pl) (λr s₂=>wpAny (model X.prog X.w) X.A (callWith pos r.1 r.2 (backTo pos (starEach args X.env)) (backToKw pos (keywordEach [] X.env))) Q X.xe s₂) X.xe s₁) X.xe s) :
  wpAny (model X.prog X.w) X.A (eval (.Call (.Attribute o m apos) args [] pos) X.env) Q X.xe s:=by
 rw[arm_eval_Call,nG]
 refine abk (ab9 h (λov s₁ h₁=>?_) λ_ _ e=>e)
 refine abk (wpAny_standAt ?_)
 have Qy:methodCallForm (args.length+([]:List Keyword).length) (backTo pos (starEach args X.env)) (backToKw pos (keywordEach [] X.env))=true:=Ea
 have UU:methodCallPos true o X.env apos pos=pure pos:=by unfold methodCallPos;simp[nH]
 unfold methodCall
 rw[Qy]
 refine abk (wpAny_holding (bK (h₁ _) λr s₂ h₂=>?_))
 exact abk (wpAny_of_eq UU h₂)
theorem Fb (he:PE X o ta)(c:p8 X.K C)(hm:Meth X.K C m f)(F:dA X.prog X.w X.K X.mg X.base CX k f fd ps sp)(hr:d3 k X.A)(hb:Binds X.K fd ps ds)(hd:Vals qd ds)(hx:Passes CX X E)(ha:PA X (e::es) t)
  (nG:attributeBase o m X.env (eval o X.env)=eval o X.env)
  (Ea:((backTo pos (starEach (e::es) X.env)).all (λx=>!x.1)&&(backToKw pos (keywordEach [] X.env)).all (λx=>x.1.isSome)
   &&decide ((e::es).length+([]:List Keyword).length+(if ([]:List Keyword).isEmpty then 0 else 1)<30))=true)
  (nH:(apos.endLine == pos.line)=true)
  (UX:starEach (e::es) X.env=(false,eval e X.env)::starEach es X.env) (wA:(backTo pos (starEach es X.env)).any (·.1)=false) :
  PE X (.Call (.Attribute o m apos) (e::es) [] pos) (xI C m sp qd E ta t):=by
 intro pins s σ H Q I h
 refine tT nG Ea nH (bK (he pins s σ H _ I h) λu s1 ⟨x,H1,I1,rx,a,dx,fs,ex,ea,l,q⟩ pl=>?_)
 subst ex
 obtain rfl:u=Value.ref a:=rx
 refine qX I1 ea c hm l ?_
 refine PySem.W.callWith_K (first:=[.ref a]) (h₀:=X.base) I.ok.mod.kin hm.kp (bK (ha pos pins s1 σ H1 _ I1 q) λus s2 ⟨vs,H2,I2,r,q2⟩=>⟨I2.oH,?_⟩) UX wA
 exact zq (us:=.ref a::us) (vs:=.ref a::vs) F hr hb hd hx I2 (.cons rfl r) q2
theorem Ca (he:PE X o ta)(c:p8 X.K C)(hm:Meth X.K C m f)(F:dA X.prog X.w X.K X.mg X.base CX k f fd ps sp)(hr:d3 k X.A)(hb:Binds X.K fd ps ds)(hd:Vals qd ds)(hx:Passes CX X E)
  (nG:attributeBase o m X.env (eval o X.env)=eval o X.env) (nH:(apos.endLine == pos.line)=true) :
  PE X (.Call (.Attribute o m apos) [] [] pos) (xI C m sp qd E ta rX):=by
 intro pins s σ H Q I h
 refine tT nG rfl nH (bK (he pins s σ H _ I h) λu s1 ⟨x,H1,I1,rx,a,dx,fs,ex,ea,l,q⟩ pl=>?_)
 subst ex
 obtain rfl:u=Value.ref a:=rx
 refine qX I1 ea c hm l ?_
 exact PySem.W.callWith_K0 (first:=[.ref a]) I1.oH hm.kp (zq (us:=[.ref a]) (vs:=[.ref a]) F hr hb hd hx I1 (.cons rfl .nil) q)
end
def C9 (P:Program)(w:World)(K:PySem.W.Frag)(mg:Str->Option Value)(x:Str)(t:List (Str×List Int)):Prop:=
 ∃ (a:Addr) (vs:List (Key×Value)),mg x=some (.ref a)/\(∀ h:Heap,K.In h->h.DictOf (bB P w) a vs)/\
  (∀ z ns,t.lookup z=some ns->∃ b,valueAt vs (Sum.inr z)=some (.ref b)/\
   ∃ (o:Obj) (its:Array Value) (n:Nat),K.lookup b=some o/\o.cls=.type "tuple"/\o.data=.seq its n/\its.size<=sizeLine/\Vals (ns.map V.int) its.toList)/\(a == sysModules)=false
def vm (K:PySem.W.Frag)(t:List (Str×List Int))(te:TE):TE:=λσ H Q=>te σ H λv H1=>∃ z ns,v=.str z/\t.lookup z=some ns/\
 ∀ b,(∃ (o:Obj) (its:Array Value) (n:Nat),K.lookup b=some o/\o.cls=.type "tuple"/\o.data=.seq its n/\its.size<=sizeLine/\Vals (ns.map V.int) its.toList)->Q (.ref b) H1
theorem Cd {X:Cx}{x:Str}{t:List (Str×List Int)}{e:Expr}{te:TE}{p pos:Pos}(T:C9 X.prog X.w X.K X.mg x t)(hg:Gl X x)(BG:(x == ("__debug__":Str))=false)(he:PE X e te)(hs:Ls e) :
  PE X (.Subscript (.Name x p) e pos) (vm X.K t te):=by
 obtain⟨a,vs,hm,hd,ht,_⟩:=T
 intro pins s σ H Q I h
 refine AV PySem.F.slot_dict_getitem.lookup hs (ql I hg hm (bK (he pins s σ H _ I h) λiv s2 ⟨y,H2,I2,ry,z,ns,ey,hl,q⟩=>?_) BG)
 subst ey
 have dd:=hd s2.heap I2.oH
 obtain⟨b,hb,UQ⟩:=ht z ns hl
 exact⟨dd.typeIs,wpAny_getItem_of (pG (k:=Sum.inr z) ry) dd.mapOf hb ⟨.ref b,H2,I2.tok _,rfl,q b UQ⟩⟩
end L2
namespace EN
open PySem PySem.Spec PyProof.Rows L2
section
variable {E:Value->Shared->Prop}
theorem Bj:bootBuiltins "enumerate" = some (.type "enumerate"):=by decide +kernel
theorem ua {Q:Value->Shared->Prop}(he:IsEnum s.heap e it i old)(h:Q (.ref e) s):wpAny (model prog w) A (pyIter (.ref e)) Q E s:=wpAny_pyIter_enum he h
end
end EN
namespace L2
open PySem PySem.Spec PyProof.Rows
theorem Inv.JP {t'}(I:Inv X pins σ H s)(k:∀ b o,b≠i->b≠j->s.heap.get? b=some o->h'.get? b=some o)(fi:jb X pins H i)(fj:jb X pins H j)
  :Inv X pins σ H {s with heap:=h',toks:=t'}:=by
 have XJ:∀ b u,H b=some u->b≠i/\b≠j:=λb u e=>⟨λz=>(by rw[z,fi.1]at e;cases e),λz=>(by rw[z,fj.1]at e;cases e)⟩
 have kk:∀ b o,b∉[i,j]->s.heap.get? b=some o->h'.get? b=some o:=λb o hc e=>k b o (λz=>hc (by simp[z])) (λz=>hc (by simp[z])) e
 refine I.step (g':=s.gens) (d':=s.drawn) (ch:=[i,j]) (λb hb=>?_) (λb o _ _ hc e _=>kk b o hc e) (λb o _ _ hc e _=>⟨o.slots,kk b o hc e⟩) (λ_ _ _ _ n=>n) (λb o hc e=>⟨o,kk b o hc e⟩)
  (λ_ _ e=>e) (λ_ _ _ e=>e) (λb ps e=>⟨#[],by rw[e];simp⟩) (λm hm=>?_) (λb u e=>?_) I.bare
 ·have e:b=i\/b=j:=by simpa using hb
  rcases e with rfl | rfl
  ·exact⟨fi.2.2.2.1,fi.2.1,fi.2.2.2.2.1,fi.2.2.2.2.2⟩
  ·exact⟨fj.2.2.2.1,fj.2.1,fj.2.2.2.2.1,fj.2.2.2.2.2⟩
 ·obtain⟨o,es,ep,ho,r⟩:=hm
  exact⟨o,es,ep,k _ o (acd fi.2.1) (acd fj.2.1) ho,r⟩
 ·refine(I.hok b u e).xw (λc v hc q=>?_) (λ_ q=>q) λ_ _ q=>q
  have:c≠i/\c≠j:=by
   rcases hc with z | z
   ·rw[z];exact XJ b u e
   ·exact XJ c _ z
  exact k c v this.1 this.2 q
end L2
namespace S
open PySem L2
variable [kf:KF]
noncomputable def BN (us:List U):mZ:=λi _=>some (us[i]?.map λu=>.tup [.int i,u])
end S
namespace DP
open PySem PySem.Spec PyProof.Rows L2
section
variable {prog:Program}{w:World}{A:Around}{E:Value->Shared->Prop}{h:Heap}{g:Array GenState}{d:Drawn}{os:OsState}{a:Addr}{o:Obj}{its:Array Value}{n:Nat}{sl:Array (Option Value)}
theorem Ij:typeLookup (.type "tuple") "keys" = pure none:=by rw[typeLookup_type,builtinLookup_eq_fast];kernel_rfl
theorem QT:typeLookup (.type "tuple") "__getattr__" = pure none:=by rw[typeLookup_type,builtinLookup_eq_fast];kernel_rfl
theorem yO (a:Addr)(its:Array Value)(n:Nat)(sl:Array (Option Value))(tk:Tok):Meets (Builtin.«object.__getattribute__» ⟨[.ref a,.str "keys" tk],[]⟩) (λA R s=>s.heap.get? a=some {cls:=.type "tuple",dict:=none,data:=.seq its n,slots:=sl}/\raisesAttr (.ref a) "keys" A R s):=
 Meets.of_wp λprog w A R s hs=>by
  obtain⟨hp,g,d,tk,os⟩:=s;obtain⟨hx,hs⟩:=hs
  have hT:(⟨hp,g,d,tk,os⟩:Shared).TypeIs (.ref a) "tuple":=⟨_,hx,rfl⟩;have f4:=Ij
  unfold Builtin.«object.__getattribute__»;repeat (any_goals (first | assumption | wp_step))
  exact wpAny_raiseAttrError hs.1 hs.2 (attrMsg_fits (by decide +kernel) (by size_fits))
theorem IC {s:Shared}{Q:Option Value->Shared->Prop}(hx:s.heap.get? a=some {cls:=.type "tuple",dict:=none,data:=.seq its n,slots:=sl})(hA:A.handled=none)
  (hq:∀ h' t',(∀ b u,s.heap.get? b=some u->h'.get? b=some u)->Q none {s with heap:=h',toks:=t'}):wpAny (model prog w) A (getAttr? (.ref a) "keys") Q E s:=by
 obtain⟨hp,g,d,tk,os⟩:=s
 have hT:(⟨hp,g,d,tk,os⟩:Shared).TypeIs (.ref a) "tuple":=⟨_,hx,rfl⟩
 have hT2:∀ tk,(⟨hp,g,d,tk,os⟩:Shared).TypeIs (.ref a) "tuple":=λ_=>⟨_,hx,rfl⟩
 have f1:=sub_AttributeError;have f3:=F.slot_tuple_getattribute.lookup;have f4:=F.slot_tuple_getattribute.bind (.ref a);have f5:=QT
 unfold getAttr? getAttrBy? getAttrBy
 repeat (any_goals (first | assumption | ((with_reducible show wpAny _ _ (call (Value.builtin "tuple.__getattribute__") _ _) _ _ _);refine call_meets F.slot_tuple_getattribute (hT2 _) F.entry_tuple_ga (F.args_tuple_getattribute_2 _ _) (yO a its n sl _) ⟨hx,hA,λh' tk' e hx'=>?_⟩) | wp_step))
 obtain⟨t',u',he⟩:=hx'.there
 show wpAny _ _ (getattributeRaised _ _ _ _ _ _ _) _ _ _
 unfold getattributeRaised;repeat (any_goals (first | assumption | wp_step))
 exact hq _ _ λb u z=>hx'.1 b u z
theorem qL:entryFor table "dict.update.loop" = some Builtin.«dict.update.loop»:=entryFor_of_tree (by kernel_rfl)
theorem jE:plainId "dict.update.loop" = true:=by decide +kernel
def jh (prog:Program)(w:World)(h:Heap)(v:Value)(p:Key×Value):Prop:=∃ b ku,v=.ref b/\h.IsTuple b #[ku,p.2]/\(bB prog w).is p.1 ku=true
theorem jh.keep {h h':Heap}{v:Value}{p:Key×Value}{x y:Addr}(q:jh prog w h v p)(k:∀ b o,b≠x->b≠y->h.get? b=some o->h'.get? b=some o)(nx:∀ o,h.get? x=some o->o.cls≠.type "tuple")(ny:∀ o,h.get? y=some o->o.cls≠.type "tuple"):jh prog w h' v p:=by
 obtain⟨b,ku,e,⟨o,g,c,r⟩,i⟩:=q
 exact⟨b,ku,e,⟨o,k b o (λz=>nx o (z▸g) c) (λz=>ny o (z▸g) c) g,c,r⟩,i⟩
noncomputable def putAll (kvs:List (Key×Value)):List (Key×Value)->List (Key×Value)
 |[]=>kvs
 |p::r=>putAll (stored kvs p.1 p.2) r
theorem ue {kvs:List (Key×Value)}{k:Key}{v:Value}:(stored kvs k v).length<=kvs.length+1:=by
 unfold stored
 split
 ·rw[ab1];lia
 ·rw[aby];simp
theorem A9 {A:Around}(hA:A.handled=none){R:Result->Shared->Prop}{a dd it:Addr}{its:Array Value}:∀ (rest:List (Key×Value)) (i:Nat) (kvs:List (Key×Value)) (s:Shared) (tk:Tok),
  i+rest.length=its.size->(∀ j (hj:j<rest.length),∃ v,its[i+j]?=some v/\jh prog w s.heap v rest[j])->s.heap.IsTupleIter it a i->s.heap.IsTuple a its->s.heap.DictOf (bB prog w) dd kvs->kvs.length+rest.length<=sizeLine->dd≠it->dd≠a->it≠a->
  (∀ h' t',h'.DictOf (bB prog w) dd (putAll kvs rest)->(∀ b o,b≠dd->b≠it->s.heap.get? b=some o->h'.get? b=some o)->R (.ok (.ret .none)) {s with heap:=h',toks:=t'})->
  codeAny (model prog w) A (.builtin "dict.update.loop" ⟨[.ref dd,.ref it,.int i tk,.none],[]⟩) R s
 |[],i,kvs,s,tk,hi,hp,ti,tt,hd,hz,n1,n2,n3,hR=>by
  refine codeAny_builtin qL ?_
  rw[Around.under_plainId jE _]
  show wpAny _ A.in1 (pyNext (.ref it) >>= _) _ _ s
  refine abk (wpAny_pyNext_tuple_end (A:=A.in1) hA ti tt (by simp at hi;simp[hi]) λh' eb=>?_)
  show wpAny _ _ (Builtin.Dict.addKeywords dd [] >>= _) _ _ _
  refine abk (abm (abm ?_))
  obtain⟨o,es,ep,ho,r⟩:=hd
  exact hR h' s.toks ⟨o,es,ep,eb _ _ n1 ho,r⟩ λb o _ hb z=>eb b o hb z
 |p::rest,i,kvs,s,tk,hi,hp,ti,tt,hd,hz,n1,n2,n3,hR=>by
  refine codeAny_builtin qL ?_
  rw[Around.under_plainId jE _]
  show wpAny _ A.in1 (pyNext (.ref it) >>= _) _ _ s
  obtain⟨v,hv,b,ku,rfl,tb,kk⟩:=hp 0 (by simp)
  have itc:∀ o,s.heap.get? it=some o->o.cls≠.type "tuple":=λo z=>by
   obtain⟨o',g,c,_⟩:=ti
   rw[z]at g;cases g;rw[c];decide
  have YM:∀ o,s.heap.get? dd=some o->o.cls≠.type "tuple":=λo z=>by
   obtain⟨o',es,ep,g,c,_⟩:=hd
   rw[z]at g;cases g;rw[c.1];decide
  refine abk (wpAny_pyNext_tuple_item ti tt (x:=.ref b) (by simpa using hv) λh1 ti1 Tf=>?_)
  have tb1:h1.IsTuple b #[ku,p.2]:=by
   obtain⟨o,g,c,r⟩:=tb
   exact⟨o,(Tf.2 b (λz=>itc o (z▸g) c)).trans g,c,r⟩
  have tt1:h1.IsTuple a its:=by
   obtain⟨o,g,r⟩:=tt
   exact⟨o,(Tf.2 a (acd n3)).trans g,r⟩
  have Y8:h1.DictOf (bB prog w) dd kvs:=by
   obtain⟨o,es,ep,g,r⟩:=hd
   exact⟨o,es,ep,(Tf.2 dd n1).trans g,r⟩
  show wpAny _ _ (holding [Value.ref b] _ >>= _) _ _ _
  refine abk (wpAny_holding ?_)
  refine abk (wpAny_tryCatch ?_)
  unfold Builtin.Dict.pairItems
  obtain⟨ob,gb,cb,nb,db⟩:=id tb1
  refine abk (wpAny_typeOf (T:="tuple") ⟨ob,gb,cb⟩ ?_)
  show wpAny _ _ (if (Value.type "tuple" == Value.type "list" || Value.type "tuple" == Value.type "tuple")=true then _ else _) _ _ _
  rw[abr (by decide)]
  refine abk (wpAny_seqItems gb db (abm ?_))
  show wpAny _ _ (holding [ku,p.2] (dictSet dd ku p.2)) _ _ _
  refine wpAny_holding (wpAny_dictSet_pairs (hsz:=by simp only[abC]at hz;lia) kk Y8 λh2 hd2 GV=>?_)
  have k2:∀ b o,b≠dd->b≠it->s.heap.get? b=some o->h2.get? b=some o:=λb o x y z=>(GV.2 b x).trans ((Tf.2 b y).trans z)
  refine abm ⟨plainId_quiet jE _,A9 (its:=its) (a:=a) hA rest (i+1) (stored kvs p.1 p.2) _ _ (by simp only[abC]at hi;lia) (λj hj=>?_) ?_ ?_ hd2 ?_ n1 n2 n3 λh' t' x y=>?_⟩
  ·obtain⟨v,h1,h2⟩:=hp (j+1) (by simp only[abC];lia)
   refine⟨v,by rw[Nat.add_right_comm,ab4];exact h1,?_⟩
   exact h2.keep k2 YM itc
  ·obtain⟨o,g,r⟩:=ti1
   exact⟨o,(GV.2 it (acd n1)).trans g,r⟩
  ·obtain⟨o,g,r⟩:=tt1
   exact⟨o,(GV.2 a (acd n2)).trans g,r⟩
  ·have:=ue (kvs:=kvs) (k:=p.1) (v:=p.2);simp only[abC]at hz;lia
  ·exact hR h' t' x λb o u v z=>y b o u v (k2 b o u v z)
theorem jh.grow {h h':Heap}{v:Value}{p:Key×Value}(q:jh prog w h v p)(k:∀ b o,h.get? b=some o->h'.get? b=some o):jh prog w h' v p:=by
 obtain⟨b,ku,e,⟨o,g,r⟩,i⟩:=q
 exact⟨b,ku,e,⟨o,k b o g,r⟩,i⟩
theorem Bp {s:Shared}{A:Around}{E:Value->Shared->Prop}{Q:Value->Shared->Prop}{prs:List (Key×Value)}(hA:A.handled=none)(hx:s.heap.get? a=some {cls:=.type "tuple",dict:=none,data:=.seq its n,slots:=sl})(hl:prs.length=its.size)(hz:prs.length<=sizeLine)
  (hp:∀ j (hj:j<prs.length),∃ v,its[j]?=some v/\jh prog w s.heap v prs[j])
  (hq:∀ h' t',h'.DictOf (bB prog w) s.heap.objs.size (putAll [] prs)->(∀ b o,s.heap.get? b=some o->h'.get? b=some o)->Q (.ref s.heap.objs.size) {s with heap:=h',toks:=t'}):wpAny (model prog w) A (call (.type "dict") [.ref a]) Q E s:=by
 refine callType_codes (Q₁:=λobj s₁=>obj=.ref s.heap.objs.size/\s₁={s with heap:=s.heap.push {cls:=.type "dict",data:=.dict #[]}}) F.kt_called_dict (F.kt_typeCall_dict_1 _) F.entry_dict_init (kt_code_dict_new _ ⟨rfl,rfl⟩) ?_
 rintro obj s₁ ⟨rfl,rfl⟩
 have BI:(s.heap.push {cls:=.type "dict",data:=.dict #[]}).DictOf (bB prog w) s.heap.objs.size []:=Heap.DictOf.new s.heap
 have U1:(s.heap.push {cls:=.type "dict",data:=.dict #[]}).get? a=some {cls:=.type "tuple",dict:=none,data:=.seq its n,slots:=sl}:=abp _ hx
 have Xg:a<s.heap.objs.size:=abx hx
 refine⟨BI.typeIs,F.args_dict_init_2 _ _,?_⟩
 unfold Builtin.«dict.__init__»;refine abk ?_
 unfold Builtin.Dict.selfAndRest;refine abk (wpAny_notOrdered_dict BI.typeIs ?_)
 show wpAny _ _ (pure (s.heap.objs.size,[Value.ref a])) _ _ _;refine abm ?_
 show wpAny _ _ (Builtin.Dict.updateFrom "dict.__init__" s.heap.objs.size (.ref a) [] .none) _ _ _
 unfold Builtin.Dict.updateFrom;refine abk (wpAny_typeOf (T:="tuple") ⟨_,U1,rfl⟩ ?_)
 rw[abr (by decide)]
 refine abk (IC (s:={s with heap:=s.heap.push {cls:=.type "dict",data:=.dict #[]}}) (A:=A.in1.in1) U1 hA λh2 t2 k2=>?_)
 have Me:=k2 _ _ U1
 have hd2:h2.DictOf (bB prog w) s.heap.objs.size []:=by
  obtain⟨o,es,ep,g,r⟩:=BI
  exact⟨o,es,ep,k2 _ _ g,r⟩
 show wpAny _ _ (if (none:Option Value).isNone=true then _ else _) _ _ _;rw[abr (show(none:Option Value).isNone=true from rfl)]
 refine abk (wpAny_rule (abk (wpAny_pyIter_tuple (s:={s with heap:=h2,toks:=t2}) (show Heap.IsTuple h2 a its from⟨_,Me,rfl,n,rfl⟩) ?_)))
 have UC:s.heap.objs.size<h2.objs.size:=by obtain⟨o,es,ep,g,_⟩:=hd2;exact abx g
 have k3:∀ b o,s.heap.get? b=some o->h2.get? b=some o:=λb o z=>k2 b o (abp _ z)
 refine abm ⟨plainId_quiet jE _,A9 (A:=A.in1) (its:=its) (a:=a) (it:=h2.objs.size) (dd:=s.heap.objs.size) hA prs 0 [] _ _ (by lia) (λj hj=>?_) ⟨_,abz _ rfl,rfl,rfl⟩ ⟨_,abp _ Me,rfl,n,rfl⟩ ?_ (by simpa using hz) (abI UC) (Nat.ne_of_gt Xg) (Nat.ne_of_gt (Nat.lt_trans Xg UC)) λh' t' x y=>?_⟩
 ·obtain⟨v,e1,e2⟩:=hp j hj
  exact⟨v,by rw[Nat.zero_add];exact e1,e2.grow λb o z=>abp _ (k3 b o z)⟩
 ·obtain⟨o,es,ep,g,r⟩:=hd2
  exact⟨o,es,ep,abp _ g,r⟩
 ·refine⟨rfl,hq h' t' x λb o z=>y b o (abI (abx z)) (abI (Nat.lt_trans (abx z) UC)) (abp _ (k3 b o z))⟩
end
end DP
namespace L2
open PySem PySem.Spec PyProof.Rows
def uw (H:Hp):List V->List (Key×V)->Prop:=Paired λy p=>∃ b,y=.ref b/\H b=some (.tup [kV p.1,p.2])
theorem tL:∀ {prs:List (Key×V)}{vs:List (Key×Value)}{kvs:List (Key×V)}{us:List (Key×Value)},KV prs vs->KV kvs us->KV (jz kvs prs) (DP.putAll us vs)
 |_,_,_,_,.nil,r=>r
 |p::prs,v::vs,kvs,us,.cons a b,r=>by
  have:=tL b (KV.put r p.1 a.2)
  show KV (jz (putK kvs p.1 p.2) prs) (DP.putAll (stored us v.1 v.2) vs)
  rw[<-a.1];exact this
theorem t7:∀ {vs us:List (Key×Value)},(DP.putAll us vs).length<=us.length+vs.length
 |[],us=>by simp[DP.putAll]
 |p::vs,us=>by
  have h1:=t7 (vs:=vs) (us:=stored us p.1 p.2)
  have h2:=DP.ue (kvs:=us) (k:=p.1) (v:=p.2)
  simp only[DP.putAll,abC];lia
theorem rJ {P:Program}{w:World}{H:Hp}{h:Heap}(ok:jU P w H h):∀ {ys:List V}{prs:List (Key×V)}{its:List Value},uw H ys prs->Vals ys its->∃ vs:List (Key×Value),KV prs vs/\vs.length=its.length/\∀ j (hj:j<vs.length),∃ v,its[j]?=some v/\DP.jh P w h v vs[j]
 |_,_,_,.nil,.nil=>⟨[],.nil,rfl,λj hj=>absurd hj (by simp)⟩
 |_,_,_,.cons (b:=p) a q,.cons (b:=u) r t=>by
  obtain⟨vs,h1,h2,h3⟩:=rJ ok q t
  obtain⟨b,rfl,hb⟩:=a
  cases r
  obtain⟨_,sI,rv,tp⟩:=ok b _ hb
  cases rv with
  |@cons _ ku _ _ r1 r2=>
   cases r2 with
   |@cons _ x _ _ r3 r4=>
    cases r4
    refine⟨(p.1,x)::vs,.cons ⟨rfl,r3⟩ h1,by simp[h2],λj hj=>?_⟩
    cases j with
    |zero=>exact⟨_,rfl,b,ku,rfl,tp.tup,pG r1⟩
    |succ j=>
     obtain⟨v,e1,e2⟩:=h3 j (by simpa using hj)
     exact⟨v,by simpa using e1,e2⟩
def Fv:List V->Hp->VK->Prop:=λxs H Q=>∃ p ys,∃ prs:List (Key×V),xs=[.ref p]/\H p=some (.tup ys)/\uw H ys prs/\∀ d,H d=none->Q (.ref d) (upd H d (.dK (jz [] prs)))
theorem yj {X:Cx}(hc:X.calm=true):eC X (.type "dict") Fv:=by
 intro pins s σ H xs us Q I r h
 obtain⟨p,ys,prs,rfl,hp,hq,q⟩:=h
 obtain⟨u,rfl,rx⟩:=vals1 r
 cases rx
 obtain⟨hz,its,rv,tp⟩:=I.hok p _ hp
 obtain⟨vs,k1,k2,k3⟩:=rJ I.hok hq rv
 obtain⟨⟨oc,od,dt,sl⟩,ho,yG,Za,n,Zb⟩:=tp
 have e1:oc=.type "tuple":=yG
 have e2:od=none:=Za
 have e3:dt=.seq its.toArray n:=Zb
 subst e1 e2 e3
 have hl:=rv.length
 refine DP.Bp (prs:=vs) (I.ok.hd hc) ho (by rw[k2];simp) (by rw[k2,<-hl];exact hz) (λj hj=>?_) λh' t' hd kp=>?_
 ·obtain⟨v,e1,e2⟩:=k3 j hj
  exact⟨v,by simpa using e1,e2⟩
 ·refine⟨.ref s.heap.objs.size,_,I.laid (a:=s.heap.objs.size) (o:=.dK (jz [] prs)) (t':=t') kp (abl _) ?_,rfl,q _ (I.hok.fresh (abl _))⟩
  have kv:KV (jz [] prs) (DP.putAll [] vs):=tL k1 .nil
  refine⟨?_,?_,_,kv,hd⟩
  ·have h1:=Paired.length kv
   have h2:=t7 (vs:=vs) (us:=[])
   rw[h1]
   simp only[List.length_nil,Nat.zero_add]at h2
   rw[k2,<-hl]at h2
   exact abE h2 hz
  ·have:=I.big
   exact beq_false_of_ne (Nat.ne_of_gt this)
end L2
namespace S
open PySem L2
variable [kf:KF]
noncomputable def oU:List U->Option (List (Key×U))
 |[]=>some []
 |.tup [k,v]::r=>(ic k).bind λk=>(oU r).bind λq=>some ((k,v)::q)
 |_=>none
def nc:MF:=λus h=>match us with
 |[.tup ps]=>(oU ps).bind λkvs=>some (.ref h.length,h++[.dK (rA [] kvs)])
 |_=>none
theorem pairs_at:∀ {us}{vs}{kvs:List (Key×U)},aH ι H us vs->oU us=some kvs->∃ aF:List (Key×V),uw H vs aF/\aX ι H kvs aF
 |[],_,_,r,e=>by cases r;cases e;exact⟨[],.nil,.nil⟩
 |u::us,_,kvs,.cons a r,e=>by
  unfold oU at e
  split at e
  ·rename_i h;cases h
  ·rename_i k v r0 h
   cases h
   obtain⟨k',e1,e⟩:=bind_some e
   obtain⟨q,e2,e⟩:=bind_some e
   cases e
   obtain⟨aF,h1,h2⟩:=pairs_at r e2
   cases a with
   |tup ha ks=>
    cases ks with
    |cons ka ks=>
     cases ks with
     |cons kb ks=>
      cases ks
      have:=nJ ka e1
      subst this
      exact⟨_::aF,.cons ⟨_,rfl,ha⟩ h1,.cons kb h2⟩
  ·cases e
instance Jm:SC Fv nc:=⟨λ{xs H Q us ι h u h'} hr k e q=>by
 have hu:∃ ps,us=[.tup ps]:=by
  clear k q hr
  rcases us with _ | ⟨u1,_ | ⟨b,_⟩⟩
  ·cases e
  ·cases u1<;>first | exact nk e | exact⟨_,rfl⟩
  ·cases u1<;>exact nk e
 obtain⟨ps,rfl⟩:=hu
 obtain _ | ⟨k,_ | _⟩:=k
 cases k
 rename_i _ _ ha ks
 ·skip
  obtain⟨kvs,e1,e⟩:=bind_some (show(oU ps).bind _=some _ from e)
  cases e
  obtain⟨aF,h1,h2⟩:=pairs_at ks e1
  refine⟨_,_,aF,rfl,ha,h1,λd hd=>?_⟩
  have x:Ext ι H (ι++[d]) (upd H d (.dK (jz [] aF))):=⟨⟨[d],rfl⟩,λa o _ q=>by rw[ax (a0 q hd)];exact q,λa m n=>by
   rcases abP.mp m with z | z
   ·exact absurd z n
   ·simp at z;subst z;exact hd,λa o u q=>by rw[ax (a0 q hd)];exact q⟩
  obtain⟨x1,r1⟩:=hr.new hd (u:=.dK (jz [] aF)) (o:=.dK (rA [] kvs)) ⟨_,bF,tS (h2.mono (x.kp hr)) .nil⟩
  exact q _ _ _ x1 r1 (.ref (by rw[<-hr.len];simp))⟩
end S
namespace DI
open PySem PyProof.Rows
section
variable {prog:Program}{w:World}{A:Around}{E:Value->Shared->Prop}{s:Shared}
theorem nj (e:s.heap.get? d=some od)(x:od.ExactDict):s.TypeIs (.ref d) "dict":=⟨od,e,x.1⟩
theorem meets (d)(hd:(d == sysModules)=false):MeetsIn prog w (Builtin.«dict.items» ⟨[.ref d],[]⟩) (λ_ R s=>s.TypeIs (.ref d) "dict"/\R (.ok (.ret (.ref s.heap.objs.size))) {s with heap:=s.heap.push {cls:=.type "dict_items",data:=.fields #[.ref d]}}):=
 .of_wp λA R s ⟨hT,h⟩=>by
  unfold Builtin.«dict.items»
  refine abk ?_
  unfold Builtin.Dict.noArgs
  refine abk (wpAny_notOrdered_dict hT ?_)
  show wpAny _ _ (pure d) _ _ s
  refine abm ?_
  show wpAny _ _ (Builtin.Dict.showsAll d >>= _) _ _ s
  unfold Builtin.Dict.showsAll
  rw[abo (by rw[hd];exact abA)]
  exact abk (abm (abk (abX (abm ⟨_,rfl,h⟩))))
theorem BO {Q:Value->Shared->Prop}(hv:s.heap.IsItemsView v d)(ho:s.heap.get? d=some od)(hd:od.data=.dict es ep)
  (hQ:Q (.ref s.heap.objs.size) {s with heap:=s.heap.push {cls:=.type "dict_itemiterator",data:=.fields #[.none,.bool false,.ref d,.int 0 0,.int es.size 0,.int ep 0,.none,.none]}}):wpAny (model prog w) A (pyIter (.ref v)) Q E s:=by
 obtain⟨ov,Zy,hcv,Zc⟩:=id hv
 refine wpAny_pyIter_slot hv.typeIs F.slot_dict_items_iter (aco F.slot_dict_items_iter hv.typeIs F.entry_dict_items_iter ?_ (F.args_dict_items_iter_1 _))
 unfold Builtin.«dict_items.__iter__»
 refine abk (abm (abk ?_))
 unfold Builtin.Dict_items.dictOf
 refine abk (wpAny_field Zy Zc (x:=.ref d) rfl (abm (abk ?_)))
 unfold Builtin.Dict_items.newIterator
 refine abk (wpAny_dictEntries ho hd (abk (wpAny_dictEpoch ho hd ?_)))
 simp only[show Builtin.Dict_items.ownsTuple "dict_itemiterator" = true by decide,if_true]
 refine abX (abm ⟨_,rfl,"dict_itemiterator",_,⟨_,abz _ rfl,rfl⟩,acf.lookup,?_⟩)
  (by simp only[sizeOk,Builtin.Dict_items.ownedTupleFields,abv,aby,abC,List.length_nil,ab0];lia)
 simpa [rawInt,Builtin.Dict_items.ownedTupleFields]using hQ
theorem next_item {Q:Option Value->Shared->Prop}(hit:IsItemIter s.heap it d i es.size ep ok ov)(Ed:s.heap.get? d=some od)(D9:od.data=.dict es ep)(hx:es[i]?=some e)
  (hQ:∀ h',IsItemIterOut h' it d (i+1) es.size ep e.key e.val s.heap.objs.size->h'.get? s.heap.objs.size=some {cls:=.type "tuple",data:=.seq #[e.key,e.val]}->h'.objs.size=s.heap.objs.size+1->
   (∀ b o,b≠it->s.heap.get? b=some o->h'.get? b=some o)->Q (some (.ref s.heap.objs.size)) {s with heap:=h'}):wpAny (model prog w) A (pyNext (.ref it)) Q E s:=by
 obtain⟨hp,g,dr,tk,os⟩:=s
 have hT:Shared.TypeIs ⟨hp,g,dr,tk,os⟩ (.ref it) "dict_itemiterator":=⟨_,hit,rfl⟩
 unfold pyNext
 refine abk (wpAny_attempt (acu (name:=Str.ofString "__next__") hT acf
  (aco acf hT F.entry_dict_itemiterator_next ?_ (F.args_dict_itemiterator_next_1 _))))
 refine abk (abm (abk (abk ?_)))
 first | refine abk (wpAny_typeNameOfWhole_itemiter hT (abm ?_)) | refine abk (wpAny_typeNameOf_itemiter hT (abm ?_))
 refine abk (wpAny_fieldsOf hit rfl ?_)
 simp only[show Builtin.Dict_items.ownsTuple "dict_itemiterator" = true by decide,if_true]
 show wpAny _ _ (if (Value.ref d == Value.none)=true then _ else _) _ _ _
 rw[abo (show ¬ ((Value.ref d == Value.none)=true) from abA)]
 refine abk (abm (abk (wpAny_dictEntries Ed D9 ?_)))
 rw[abo (by simp)]
 refine abk (abm (abk (wpAny_dictEpoch Ed D9 ?_)))
 rw[abo (by simp)]
 refine abm ?_
 simp only[show ¬ ((i:Int)<0) from by lia,acb,acp,hx]
 refine abk ?_
 first | refine abk (wpAny_typeNameOfWhole_itemiter hT (abm ?_)) | refine abk (wpAny_typeNameOf_itemiter hT (abm ?_))
 refine abk (wpAny_isOneOf_itemiter hT ?_)
 show wpAny _ _ (setField (.ref it) 3 (rawInt ((i:Int)+1)) >>= _) _ _ ⟨hp,g,dr,tk,os⟩
 refine abk (wpAny_setField_rec hit (by simp) λh₁ Qw QD=>?_)
 replace QD:Heap.SameBut it hp h₁:=QD
 replace Qw:IsItemIter h₁ it d (i+1) es.size ep ok ov:=by
  unfold IsItemIter;rw[show((i+1:Nat):Int)=(i:Int)+1 by lia];simpa [rawInt]using Qw
 have Uy:Shared.TypeIs ⟨h₁,g,dr,tk,os⟩ (.ref it) "dict_itemiterator":=⟨_,Qw,rfl⟩
 refine abk (wpAny_holding (abk (wpAny_isOneOf_itemiter Uy (abk (wpAny_isOneOf_itemiter Uy ?_)))))
 show wpAny _ _ (Builtin.Dict_items.pairFromOwner (.ref it) 6 e.key e.val) _ _ ⟨h₁,g,dr,tk,os⟩
 unfold Builtin.Dict_items.pairFromOwner
 refine abk (wpAny_newTuple ?_)
 have Qx:IsItemIter (h₁.push {cls:=.type "tuple",data:=.seq #[e.key,e.val]}) it d (i+1) es.size ep ok ov:=abp _ Qw
 generalize SF:h₁.push {cls:=.type "tuple",data:=.seq #[e.key,e.val]}=h₂ at Qx
 have SW:h₁.objs.size=hp.objs.size:=QD.1
 have Zl:hp.objs.size≠it:=Nat.ne_of_gt (abx hit)
 have ZH:h₂.get? hp.objs.size=some {cls:=.type "tuple",data:=.seq #[e.key,e.val]}:=by rw[<-SF,<-SW];exact abz _ rfl
 have ZL:h₂.objs.size=hp.objs.size+1:=by rw[<-SF,Heap.size_push,SW]
 have hk₂:∀ b o,b≠it->hp.get? b=some o->h₂.get? b=some o:=λb o hb q=>by rw[<-SF];exact abp _ (QD.extBut b o hb q)
 show wpAny _ _ (Builtin.Dict_items.ownedTupleIsFree (.ref it) >>= _) _ _ ⟨h₂,g,dr,tk,os⟩
 rw[SW]
 clear SF Qw QD Uy SW h₁
 refine abk ?_
 unfold Builtin.Dict_items.ownedTupleIsFree
 refine abk (wpAny_field Qx rfl (x:=.none) rfl (abm ?_))
 simp only[if_true]
 refine abk (wpAny_field Qx rfl (x:=ok) rfl (abk (wpAny_field Qx rfl (x:=ov) rfl ?_)))
 refine abk (wpAny_setField_rec Qx (by simp) λh₃ UE SN=>?_)
 replace SN:Heap.SameBut it h₂ h₃:=SN
 replace UE:IsItemIter h₃ it d (i+1) es.size ep e.key ov:=UE
 refine abk (wpAny_setField_rec UE (by simp) λh₄ UG SQ=>?_)
 replace SQ:Heap.SameBut it h₃ h₄:=SQ
 replace UG:IsItemIter h₄ it d (i+1) es.size ep e.key e.val:=UG
 refine abk (wpAny_setField_rec UG (by simp) λh₅ UH SR=>?_)
 replace SR:Heap.SameBut it h₄ h₅:=SR
 replace UH:IsItemIterOut h₅ it d (i+1) es.size ep e.key e.val hp.objs.size:=UH
 refine abk (wpAny_setField_rec UH (by simp) λh₆ UI hs₆=>?_)
 replace hs₆:Heap.SameBut it h₅ h₆:=hs₆
 replace UI:IsItemIterOut h₆ it d (i+1) es.size ep e.key e.val hp.objs.size:=UI
 have up:∀ b o,b≠it->h₂.get? b=some o->h₆.get? b=some o:=λb o hb q=>hs₆.extBut b o hb (SR.extBut b o hb (SQ.extBut b o hb (SN.extBut b o hb q)))
 exact abk (wpAny_letGo (abm (abm ⟨_,rfl,abm (hQ h₆ UI (up _ _ Zl ZH) (by show h₆.objs.size=hp.objs.size+1;rw[hs₆.1,SR.1,SQ.1,SN.1,ZL]) λb o hb q=>up b o hb (hk₂ b o hb q))⟩)))
theorem next_end {Q:Option Value->Shared->Prop}(hh:A.handled=none)(hit:IsItemIter s.heap it d i es.size ep ok ov)(Ed:s.heap.get? d=some od)(D9:od.data=.dict es ep)(hx:es[i]?=none)
  (hQ:∀ h',Heap.ExtBut it s.heap h'->Q none {s with heap:=h'}):wpAny (model prog w) A (pyNext (.ref it)) Q E s:=by
 have hT:s.TypeIs (.ref it) "dict_itemiterator":=⟨_,hit,rfl⟩
 unfold pyNext
 refine abk (wpAny_attempt (acu (name:=Str.ofString "__next__") hT acf
  (aco acf hT F.entry_dict_itemiterator_next ?_ (F.args_dict_itemiterator_next_1 _))))
 refine abk (abm (abk (abk ?_)))
 first | refine abk (wpAny_typeNameOfWhole_itemiter hT (abm ?_)) | refine abk (wpAny_typeNameOf_itemiter hT (abm ?_))
 refine abk (wpAny_fieldsOf hit rfl ?_)
 simp only[show Builtin.Dict_items.ownsTuple "dict_itemiterator" = true by decide,if_true]
 show wpAny _ _ (if (Value.ref d == Value.none)=true then _ else _) _ _ s
 rw[abo (show ¬ ((Value.ref d == Value.none)=true) from abA)]
 refine abk (abm (abk (wpAny_dictEntries Ed D9 ?_)))
 rw[abo (by simp)]
 refine abk (abm (abk (wpAny_dictEpoch Ed D9 ?_)))
 rw[abo (by simp)]
 refine abm ?_
 simp only[show ¬ ((i:Int)<0) from by lia,acb,acp,hx]
 refine abk ?_
 first | refine abk (wpAny_typeNameOfWhole_itemiter hT (abm ?_)) | refine abk (wpAny_typeNameOf_itemiter hT (abm ?_))
 show wpAny _ _ (setField (.ref it) 2 .none >>= _) _ _ s
 refine abk (wpAny_setField hit rfl (by simp) ?_)
 show wpAny _ _ (newExc (.type "StopIteration") [] >>= _) _ _ _
 refine abk ?_
 simp only[newExc,newTuple]
 refine abk (abX ?_ (by size_fits))
 refine abk (m:=firstArgMember _ _) (wpAny_of_eq (a:=Value.none) (by first | rfl | (simp only[firstArgMember];rfl)) ?_)
 refine abX ?_ (by size_fits)
 simp only[raiseNew]
 refine abk (wpAny_handled ?_)
 rw[show A.in1.handled=none from hh]
 refine abk (abm (wpAny_throw ?_))
 refine abk (wpAny_isInstance (T:="StopIteration") (b:=true) ⟨_,abz _ rfl,rfl⟩ isSubtype_stop ?_)
 exact abm (hQ _ (((Heap.SameBut.update ..).extBut.push _).push _))
theorem DM:entryFor table "dict_itemiterator.__iter__" = some Builtin.«dict_keyiterator.__iter__»:=
 entryFor_alias (id':="dict_keyiterator.__iter__") (by kernel_rfl) (by first | rfl | decide +kernel | (unfold String.splitOn;simp +decide [String.splitOnAux])) (by decide +kernel) (by kernel_rfl)
theorem zr {Q:Value->Shared->Prop}(hit:IsItemIter s.heap it d i n ep ok ov)(h:Q (.ref it) s):wpAny (model prog w) A (pyIter (.ref it)) Q E s:=by
 have hT:s.TypeIs (.ref it) "dict_itemiterator":=⟨_,hit,rfl⟩
 refine wpAny_pyIter_slot hT F.slot_dict_itemiterator_iter (aco F.slot_dict_itemiterator_iter hT DM ?_ (F.args_dict_itemiterator_iter_1 _))
 show wpAny _ _ (ret (.ref it)) _ _ s
 exact abm ⟨_,rfl,"dict_itemiterator",_,hT,acf.lookup,h⟩
end
end DI
namespace L2
open PySem PySem.Spec PyProof.Rows
def uu (o:Obj)(ep:Nat)(ps:List (V×V)):Prop:=∃ es,o.ExactDict/\o.data=.dict es ep/\Paired (λ(e:DictEntry) (p:V×V)=>RelV p.1 e.key/\RelV p.2 e.val) es.toList ps
theorem Paired.at {α β:Type}{F:α->β->Prop}:∀ {l:List α}{r:List β},Paired F l r->∀ (i:Nat) (b:β),r[i]?=some b->∃ a,l[i]?=some a/\F a b
 |_,_,.nil,i,b,e=>by simp at e
 |_,_,.cons f _,0,b,e=>by simp at e;subst e;exact⟨_,rfl,f⟩
 |_,_,.cons _ t,i+1,b,e=>by
  obtain⟨a,h1,h2⟩:=Paired.at t i b (by simpa using e)
  exact⟨a,by simpa using h1,h2⟩
theorem Paired.len {α β:Type}{F:α->β->Prop}:∀ {l:List α}{r:List β},Paired F l r->l.length=r.length
 |_,_,.nil=>rfl
 |_,_,.cons _ t=>congrArg Nat.succ (Paired.len t)
noncomputable def TN (d:Addr)(o:Obj)(u:HO)(ps:List (V×V)):It:=
 ⟨λi H=>H d=some (.dE o u)/\i<ps.length,λi H v H'=>∃ p x y,v=.ref p/\H p=none/\ps[i]?=some (x,y)/\H'=upd H p (.tup [x,y]),λi H=>H d=some (.dE o u)/\ps.length<=i⟩
theorem zJ {P}{w}{K:PySem.W.Frag}{elts}{k}{pos}{d it}{o}{u:HO}{ep}{ps:List (V×V)}(CP:uu o ep ps)(ne:d≠it) :
  Turn P w K (.Tuple elts k pos) (TN d o u ps) [it] it (λi h=>i<=ps.length/\∃ ok ov,IsItemIter h it d i ps.length ep ok ov) where
 mem:=by simp
 obj:=λi h st b hb=>by
  have e:b=it:=by simpa using hb
  subst e
  obtain⟨_,ok,ov,z⟩:=st
  exact⟨_,z,λv z=>by have z':Data.fields _=Data.cell v:=z;cases z'⟩
 keep:=λi h h' st kk=>⟨st.1,let ⟨ok,ov,z⟩:=st.2;⟨ok,ov,kk it (by simp) _ z⟩⟩
 item:=by
  intro X hP hw hK hc i pins s σ H E I hf st hg
  subst hP hw hK
  obtain⟨hd,vB⟩:=hg
  obtain⟨_,ok,ov,z1⟩:=st
  obtain⟨es,hx,jN,pr⟩:=id CP
  obtain⟨ho,_⟩:=(show bD X.prog X.w H s.heap d (.dE o u) from I.hok d _ hd)
  have hsz:es.size=ps.length:=by have:=Paired.len pr;simpa using this
  obtain⟨e,he,r1,r2⟩:=Paired.at pr i ps[i] (abw vB)
  have he':es[i]?=some e:=by simpa using he
  have fi:=hf it (by simp)
  refine DI.next_item (es:=es) (by rw[hsz];exact z1) ho jN he' λh' uP hT hz hk=>?_
  refine⟨_,rfl,?_⟩
  refine wpAny_letOwnedTupleGo_items (s:={s with heap:=h'}) uP λh2 UL GV=>?_
  have Qt:s.heap.objs.size≠it:=Nat.ne_of_gt (abx z1)
  have Ux:H s.heap.objs.size=none:=I.hok.fresh (abl _)
  have hT2:h2.get? s.heap.objs.size=some {cls:=.type "tuple",data:=.seq #[e.key,e.val]}:=(GV.2 _ Qt).trans hT
  let hM:=s.heap.push {cls:=.type "tuple",data:=.seq #[e.key,e.val]}
  have Qs:hM.get? s.heap.objs.size=some {cls:=.type "tuple",data:=.seq #[e.key,e.val]}:=abz _ rfl
  have I1:Inv X pins σ (upd H s.heap.objs.size (.tup [ps[i].1,ps[i].2])) {s with heap:=hM}:=
   I.laid (t':=s.toks) (λb o z=>abp _ z) (abl _) ⟨by show 2<=sizeLine;decide,[e.key,e.val],.cons r1 (.cons r2 .nil),_,Qs,rfl,rfl,_,rfl⟩
  have f1:jb X pins (upd H s.heap.objs.size (.tup [ps[i].1,ps[i].2])) it:=⟨by rw[ax (acd Qt)];exact fi.1,fi.2⟩
  have I2:Inv X pins σ (upd H s.heap.objs.size (.tup [ps[i].1,ps[i].2])) {s with heap:=h2}:=
   I1.turned (s:={s with heap:=hM}) (t':=s.toks) (λb ob n1 z=>by
    by_cases hb:b=s.heap.objs.size
    ·subst hb;rw[Qs]at z;cases z;exact hT2
    ·have z':s.heap.get? b=some ob:=by rw[show hM=s.heap.push _ from rfl,Heap.get?_push_ne _ _ _ hb]at z;exact z
     exact(GV.2 b n1).trans (hk b ob n1 z')) f1.1 f1.2.1 f1.2.2.2.1 f1.2.2.2.2.1 f1.2.2.2.2.2
  refine⟨.ref s.heap.objs.size,_,I2,rfl,⟨_,ps[i].1,ps[i].2,rfl,Ux,abw vB,rfl⟩,⟨vB,_,_,by rw[<-hsz];exact UL⟩,λb hb=>?_⟩
  have e:b=it:=by simpa using hb
  subst e
  exact f1.1
 done:=by
  intro X hP hw hK hc i pins s σ H E I hf st hg
  subst hP hw hK
  obtain⟨hd,hle⟩:=hg
  obtain⟨_,ok,ov,z1⟩:=st
  obtain⟨es,hx,jN,pr⟩:=id CP
  obtain⟨ho,_⟩:=(show bD X.prog X.w H s.heap d (.dE o u) from I.hok d _ hd)
  have hsz:es.size=ps.length:=by have:=Paired.len pr;simpa using this
  obtain⟨f0,f1,f2,f3,f4,f5⟩:=hf it (by simp)
  exact DI.next_end (es:=es) (I.ok.hd hc) (by rw[hsz];exact z1) ho jN (by simp;lia) λh' eb=>⟨rfl,I.turned (t':=s.toks) (λb o hb e=>eb b o hb e) f0 f1 f3 f4 f5⟩
 self:=λA i s Q E st h=>by
  obtain⟨_,ok,ov,z1⟩:=st
  exact DI.zr z1 h
inductive Bf (H:Hp):HO->List (V×V)->Prop
 |dK (kvs:List (Key×V)):Bf H (.dK kvs) (kvs.map λp=>(kV p.1,p.2))
 |dT (kvs:List (NK.KD×V)) (ps:List (V×V)):Paired (λ(p:NK.KD×V) (q:V×V)=>uv H q.1 p.1/\q.2=p.2) kvs ps->Bf H (.dT kvs) ps
theorem xi:∀ {es:List DictEntry}{vs:List (Key×Value)}{kvs:List (Key×V)},Pairs (bB P w) es vs->KV kvs vs->Paired (λ(e:DictEntry) (p:V×V)=>RelV p.1 e.key/\RelV p.2 e.val) es (kvs.map λp=>(kV p.1,p.2))
 |_,_,_,.nil,.nil=>.nil
 |_,_,(k,v)::kvs,.cons (e:=e) (kv:=kv) h1 h2 r,.cons f t=>by
  refine .cons ⟨?_,by rw[h2];exact f.2⟩ (xi r t)
  have f1:k=kv.1:=f.1
  have Uw:rg kv.1 e.key=true:=h1
  show RelV (kV k) e.key
  rw[f1]
  rcases bV Uw with⟨i,t,e1,e2⟩ | ⟨x,t,e1,e2⟩
  ·rw[e1,e2];exact⟨t,rfl⟩
  ·rw[e1,e2];exact⟨t,rfl⟩
theorem xh:∀ {kvs:List (NK.KD×V)}{xs:List (NK.KD×Addr×Value)},Paired (λ(p:NK.KD×V) (q:NK.KD×Addr×Value)=>p.1=q.1/\C3 H q.2.1 p.1/\RelV p.2 q.2.2) kvs xs->
  ∃ ps,Paired (λ(p:NK.KD×V) (q:V×V)=>uv H q.1 p.1/\q.2=p.2) kvs ps/\Paired (λ(e:DictEntry) (p:V×V)=>RelV p.1 e.key/\RelV p.2 e.val) (xs.map (entryOfKey (NK.hU P w))) ps
 |_,_,.nil=>⟨[],.nil,.nil⟩
 |(k,v)::kvs,x::xs,.cons f t=>by
  obtain⟨ps,h1,h2⟩:=xh (P:=P) (w:=w) t
  exact⟨(.ref x.2.1,v)::ps,.cons ⟨f.2.1.1,rfl⟩ h1,.cons ⟨rfl,f.2.2⟩ h2⟩
def IsDict:HO->Prop
 |.dK _=>True
 |.dT _=>True
 |_=>False
section
theorem Inv.items (I:Inv X pins σ H s)(e:H d=some u)(hu:IsDict u):∃ o ep ps,s.heap.get? d=some o/\uu o ep ps/\Bf H u ps/\(d == sysModules)=false:=by
 cases u with
 |dK kvs=>
  obtain⟨_,y,vs,r,o,es,ep,h1,h2,h3,_,h5,_⟩:=(show bD X.prog X.w H s.heap d (.dK kvs) from I.hok d _ e)
  exact⟨o,ep,_,h1,⟨es,h2,h3,xi h5 r⟩,.dK kvs,y⟩
 |dT kvs=>
  obtain⟨_,y,xs,r,o,es,ep,h1,h2,h3,h4,_⟩:=(show bD X.prog X.w H s.heap d (.dT kvs) from I.hok d _ e)
  obtain⟨ps,q1,q2⟩:=xh (P:=X.prog) (w:=X.w) r
  exact⟨o,ep,ps,h1,⟨es,h2,h3,by rw[h4];exact q2⟩,.dT kvs ps q1,y⟩
 |_=>exact hu.elim
theorem Inv.hold (I:Inv X pins σ H s)(e:H d=some u)(hu:IsDict u)(ho:s.heap.get? d=some o):Inv X pins σ (upd H d (.dE o u)) s:=by
 have mu:OT (H d):=by rw[e];cases u<;>first | exact hu | trivial
 refine I.write (t':=s.toks) mu (.inl rfl) (λ_ _ _ q=>q) ⟨o,ho⟩ ⟨ho,?_⟩
 refine(I.hok d u e).xw (λ_ _ _ q=>q) (λb q=>?_) λb xs q=>?_
 ·rw[ax (λz=>by subst z;rw[e]at q;cases q;exact hu)];exact q
 ·rw[ax (λz=>by subst z;rw[e]at q;cases q;exact hu)];exact q
theorem Inv.loose (I:Inv X pins σ H s)(e:H d=some (.dE o u))(hu:IsDict u)(hz:∀ o u,X.H₀ d≠some (.dE o u)):Inv X pins σ (upd H d u) s:=by
 obtain⟨ho,hok⟩:=(show bD X.prog X.w H s.heap d (.dE o u) from I.hok d _ e)
 have nd:∀ b v,H b=some v->(∀ o u,v≠.dE o u)->b≠d:=λb v q n z=>by subst z;rw[e]at q;cases q;exact n _ _ rfl
 have hn:∀ b,H b=none->(upd H d u) b=none:=λb q=>by rw[ax (λz=>by subst z;rw[e]at q;cases q)];exact q
 have bs:=I.base
 refine⟨I.ok,I.os,I.bare,⟨bs.keep,bs.slot,λb ob q n hx=>hn b (bs.free b ob q n hx),bs.there,λb xs q=>?_,λb ob v q=>?_,λb ps q=>?_⟩,I.loc,I.cell,hn _ I.free,λx c q=>hn _ (I.freeC x c q),λp hp=>?_,λb v q=>?_,I.len⟩
 ·have:=bs.tups b xs q
  rw[ax (nd b _ this λ_ _ z=>nomatch z)];exact this
 ·have:=bs.frzs b ob v q
  rw[ax (λz=>by subst z;exact hz _ _ q)];exact this
 ·obtain⟨more,this⟩:=bs.tbls b ps q
  exact⟨more,by rw[ax (nd b _ this λ_ _ z=>nomatch z)];exact this⟩
 ·obtain⟨h1,h2,h3⟩:=I.pin p hp
  exact⟨h1,hn _ h2,h3⟩
 ·have st:∀ {c:Addr}{z:HO},bD X.prog X.w H s.heap c z->bD X.prog X.w (upd H d u) s.heap c z:=λ{c z} k=>k.xw (λ_ _ _ r=>r) (λx r=>by rw[ax (nd x _ r λ_ _ z=>nomatch z)];exact r) λx xs r=>by rw[ax (nd x _ r λ_ _ z=>nomatch z)];exact r
  by_cases hb:b=d
  ·subst hb;rw[bF]at q;cases q;exact st hok
  ·rw[ax hb]at q;exact st (I.hok b v q)
end
noncomputable def G4 (K:PySem.W.Frag)(a:Addr)(n:Nat):It:=
 ⟨λi H=>∃ xs x,fh K H a xs/\xs.length=n/\xs[i]?=some x,λi H v H'=>∃ p,v=.ref p/\H p=none/\∃ x,(∀ xs,fh K H a xs->xs[i]?=some x)/\H'=upd H p (.tup [.int i,x]),λi H=>∃ xs,fh K H a xs/\xs.length=n/\n<=i⟩
theorem zI {P}{w}{K:PySem.W.Frag}{elts}{k}{pos}(a e it:Addr)(n:Nat)(ne:e≠it)(ha:a≠it)(hae:a≠e):Turn P w K (.Tuple elts k pos) (G4 K a n) [e,it] e
  (λi h=>i<=n/\(∃ old,IsEnum h e it i old)/\h.IsListIter it a i) where
 mem:=by simp
 obj:=λi h st b hb=>by
  obtain⟨_,⟨old,z1⟩,o,z2,z3,z4⟩:=st
  have:b=e\/b=it:=by simpa using hb
  rcases this with rfl | rfl
  ·exact⟨_,z1,λv z=>by have z':Data.fields _=Data.cell v:=z;cases z'⟩
  ·exact⟨o,z2,λv z=>by rw[z4]at z;cases z⟩
 keep:=λi h h' st k=>⟨st.1,let ⟨old,z⟩:=st.2.1;⟨old,k e (by simp) _ z⟩,st.2.2.at λo q=>k it (by simp) o q⟩
 item:=by
  intro X hP hw hK hc i pins s σ H E I hf st hg
  subst hP hw hK
  obtain⟨xs,x,hq,hn,hx⟩:=hg
  obtain⟨its,rv,p,hz⟩:=I.list hq
  obtain⟨u,hu,ru⟩:=rv.get hx
  obtain⟨_,⟨old,z1⟩,z2⟩:=st
  have Zm:i<n:=by have:=(abn.mp hx).1;lia
  have fe:=hf e (by simp);have fi:=hf it (by simp)
  have vB:i<its.toArray.size:=by have:=(abn.mp hu).1;simpa using this
  refine wpAny_pyNext_enum_item (x:=u) z1 z2 p.isList (by simpa using hu) ne λh' ho hs' hT hsz hk=>?_
  let tk:=s.toks
  let y:=u
  refine⟨_,rfl,?_⟩
  refine wpAny_letOwnedTupleGo_enum (s:={s with heap:=h',toks:=tk+1}) ho λh2 Sz GV=>?_
  have Zd:e<s.heap.objs.size:=abx z1
  have Qt:s.heap.objs.size≠e:=Nat.ne_of_gt Zd
  have nT:s.heap.objs.size≠it:=by obtain⟨o,q,_⟩:=z2;exact Nat.ne_of_gt (abx q)
  have Ux:H s.heap.objs.size=none:=I.hok.fresh (abl _)
  have hT2:h2.get? s.heap.objs.size=some {cls:=.type "tuple",data:=.seq #[.int i tk,y]}:=(GV.2 _ Qt).trans hT
  let hM:=s.heap.push {cls:=.type "tuple",data:=.seq #[.int i tk,y]}
  have Qs:hM.get? s.heap.objs.size=some {cls:=.type "tuple",data:=.seq #[.int i tk,y]}:=abz _ rfl
  have I1:Inv X pins σ (upd H s.heap.objs.size (.tup [.int i,x])) {s with heap:=hM,toks:=tk+1}:=
   I.laid (λb o z=>abp _ z) (abl _) ⟨by show 2<=sizeLine;decide,[.int i tk,y],.cons ⟨_,rfl⟩ (.cons ru .nil),_,Qs,rfl,rfl,_,rfl⟩
  have f1:∀ b,b∈[e,it]->jb X pins (upd H s.heap.objs.size (.tup [.int i,x])) b:=λb hb=>by
   have fb:=hf b hb
   have Y5:b≠s.heap.objs.size:=by
    have:b=e\/b=it:=by simpa using hb
    rcases this with rfl | rfl
    ·exact acd Qt
    ·exact acd nT
   exact⟨by rw[ax Y5];exact fb.1,fb.2⟩
  have I2:Inv X pins σ (upd H s.heap.objs.size (.tup [.int i,x])) {s with heap:=h2,toks:=tk+1}:=
   I1.JP (s:={s with heap:=hM,toks:=tk+1}) (t':=tk+1) (λb o n1 n2 z=>by
    by_cases hb:b=s.heap.objs.size
    ·subst hb;rw[Qs]at z;cases z;exact hT2
    ·have z':s.heap.get? b=some o:=by
      rw[show hM=s.heap.push _ from rfl,Heap.get?_push_ne _ _ _ hb]at z;exact z
     exact(GV.2 b n1).trans (hk b o n1 n2 z')) (f1 e (by simp)) (f1 it (by simp))
  refine⟨.ref s.heap.objs.size,_,I2,rfl,⟨_,rfl,Ux,x,λys hy=>by rw[I.wK hy hq];exact hx,rfl⟩,⟨Zm,⟨_,by simpa using Sz⟩,?_⟩,λb hb=>(f1 b hb).1⟩
  exact hs'.at λo q=>(GV.2 it (acd ne)).trans q
 done:=by
  intro X hP hw hK hc i pins s σ H E I hf st hg
  subst hP hw hK
  obtain⟨xs,hq,hxn,hx⟩:=hg
  obtain⟨its,rv,p,hz⟩:=I.list hq
  obtain⟨hle,⟨old,z1⟩,z2⟩:=st
  have fe:=hf e (by simp);have fi:=hf it (by simp)
  have hl:=rv.length
  have hn:its.toArray.size=i:=by simp;lia
  exact wpAny_pyNext_enum_end (I.ok.hd hc) z1 z2 p.isList (by rw[Array.getElem?_eq_none (by lia)]) λh' eb=>⟨rfl,I.turned (t':=s.toks) (λb o hb q=>eb b o hb q) fi.1 fi.2.1 fi.2.2.2.1 fi.2.2.2.2.1 fi.2.2.2.2.2⟩
 self:=λA i s Q E st h=>by
  obtain⟨_,⟨old,z1⟩,_⟩:=st
  exact EN.ua z1 h
def Mf (K:PySem.W.Frag)(ta:TA):TI:=λσ H R=>ta σ H λvs H1=>∃ a xs,vs=[.ref a]/\fh K H1 a xs/\R (G4 K a xs.length) H1
theorem Nt {X}{elts}{k}{p0}{a}{ta}{p pos}(hm:X.mg "enumerate" = none)(ha:PA X [a] ta)(hg:Gl X "enumerate")(hs:starEach [a] X.env=[(false,eval a X.env)]) :
  PI X (.Tuple elts k p0) (.Call (.Name "enumerate" p) [a] [] pos) (Mf X.K ta):=by
 intro pins s σ H R I h
 refine Call_ (mR I hg hm EN.Bj (PyProof.Rows.callWith_type1 (bK (ha pos pins s σ H _ I h) λus s1 ⟨vs,H1,I1,r1,q1⟩=>?_) hs rfl))
 obtain⟨b,xs,e,hq,q⟩:=q1
 subst e
 obtain⟨u,rfl,ru⟩:=vals1 r1
 cases ru
 obtain⟨its,rv,pt,hz⟩:=I1.list hq
 refine call_enumerate_list pt.isList λh' he hi _ kk=>?_
 refine EN.ua (s:={s1 with heap:=h'}) he ?_
 have hb:b<s1.heap.objs.size:=by obtain⟨o,z,_⟩:=pt.isList;exact abx z
 have I2:Inv X pins σ H1 {s1 with heap:=h'}:=I1.kept (t':=s1.toks) kk
 refine⟨s1.heap.objs.size+1,[s1.heap.objs.size+1,s1.heap.objs.size],_,G4 X.K b xs.length,H1,rfl,I2,zI b _ _ _ (Nat.succ_ne_self _) (abI hb) (abI (Nat.lt_succ_of_lt hb)),⟨abO _,⟨_,he⟩,hi⟩,λc hc=>?_,q⟩
 have:c=s1.heap.objs.size+1\/c=s1.heap.objs.size:=by simpa using hc
 rcases this with rfl | rfl
 ·exact I1.qO (Nat.le_succ _) (I1.hok.fresh (Nat.le_succ _))
 ·exact I1.qO (abl _) (I1.hok.fresh (abl _))
end L2
namespace S
open PySem L2
variable [kf:KF]
def yV (a:MA):MI:=λσ h=>(a σ h).bind λp=>match p.1 with
 |[.lst us]=>some (BN us,p.2)
 |_=>none
theorem Mn (hr:aE ι H h)(na:a∉ι)(e:H a=some (.lst vs))(r:aH ι H us vs):sy ι H (G4 kf.K a vs.length) (BN us):=by
 intro ι' H' h' i x r'
 have e':=((x.kp hr).dat na e).1
 have rr:=r.mono (x.kp hr)
 refine⟨λz=>⟨vs,fh.of e',rfl,?_⟩,λu z=>?_⟩
 ·have z':(us[i]?.map λu=>U.tup [.int i,u])=none:=abD z
  rw[Option.map_eq_none_iff]at z'
  rw[<-r.length];exact ab5.mp z'
 ·have z':(us[i]?.map λu=>U.tup [.int i,u])=some u:=abD z
  obtain⟨y,hy,ZK⟩:=ab6.mp z'
  subst ZK
  obtain⟨v,hv,k⟩:=rr.get hy
  refine⟨⟨vs,v,fh.of e',rfl,hv⟩,λv2 H2 yy=>?_⟩
  obtain⟨p,rfl,hp,x2,hx,rfl⟩:=yy
  have:=hx vs (fh.of e')
  rw[hv]at this;cases this
  obtain⟨z1,z2,z3⟩:=jB r' hp (us:=[.int i,y]) (vs:=[.int i,v]) (.cons .int (.cons k .nil))
  exact⟨z1,z2,z3⟩
instance Wg {t:TA}{a:MA}[A:SA t a]:SI (Mf kf.K t) (yV a):=⟨λ{σ H R σu ι h it h'} hs hr e q=>by
 obtain⟨⟨us,h1⟩,e1,e⟩:=bind_some e
 dsimp only at e
 rcases us with _ | ⟨u1,_ | ⟨b,r⟩⟩
 ·cases e
 ·cases u1 with
  |lst ws=>
   cases e
   refine A.go hs hr e1 λι1 H1 v1 x1 r1 k1=>?_
   obtain _ | ⟨k1,_ | _⟩:=k1
   cases k1 with
   |lst na ha ks=>exact⟨_,_,rfl,fh.of ha,q _ _ _ x1 r1 (Mn r1 na ha ks)⟩
  |_=>cases e
 ·cases u1<;>cases e⟩
def zD:TS:=λ_ _ _=>False
noncomputable def bO:MS:=λ_ _=>none
instance RV:SS zD bO:=⟨λ{D σ H σu ι h f h'} hs hr e q=>nk e⟩
theorem Fn:PS X s zD:=λpins s' σ H D I h=>h.elim
end S
namespace DV
open PySem PyProof.Rows
section
variable {prog:Program}{w:World}{A:Around}{E:Value->Shared->Prop}{s:Shared}{it d:Addr}{od:Obj}{es:Array DictEntry}{i ep:Nat}
theorem tK {Q:Value->Shared->Prop}(hd:(d == sysModules)=false)(ho:s.heap.get? d=some od)(hx:od.ExactDict)(jN:od.data=.dict es ep)
  (hQ:Q (.ref s.heap.objs.size) {s with heap:=s.heap.push {cls:=.type "dict_keyiterator",data:=.fields #[.ref d,.int 0 0,.int es.size 0,.int ep 0]}}):wpAny (model prog w) A (pyIter (.ref d)) Q E s:=by
 have hT:s.TypeIs (.ref d) "dict":=DI.nj ho hx
 refine wpAny_pyIter_slot hT F.slot_dict_iter (aco F.slot_dict_iter hT F.entry_dict_iter ?_ (F.args_dict_iter_1 _))
 unfold Builtin.«dict.__iter__»
 refine abk ?_
 unfold Builtin.Dict.dictSlotNone
 refine abk (wpAny_notOrdered_dict hT ?_);show wpAny _ _ (pure (Value.ref d)) _ _ s
 refine abm ?_;show wpAny _ _ (Builtin.Dict.showsAll d >>= _) _ _ s
 unfold Builtin.Dict.showsAll
 rw[abo (by rw[hd];exact abA)];refine abk (abm (abk (wpAny_dictEntries ho jN (abk (wpAny_dictEpoch ho jN ?_)))))
 refine abk (abX (abm ⟨_,rfl,"dict_keyiterator",_,⟨_,abz _ rfl,rfl⟩,acs.lookup,?_⟩));simpa [rawInt]using hQ
theorem wY {e:DictEntry}{Q:Option Value->Shared->Prop}(hit:s.heap.IsKeyIter it d i es.size ep)(Ed:s.heap.get? d=some od)(D9:od.data=.dict es ep)(hx:es[i]?=some e)
  (hQ:∀ h',h'.IsKeyIter it d (i+1) es.size ep->Heap.SameBut it s.heap h'->Q (some e.key) {s with heap:=h'}):wpAny (model prog w) A (pyNext (.ref it)) Q E s:=by
 obtain⟨o,ho,hc,hd⟩:=id hit
 unfold pyNext
 refine abk (wpAny_attempt (acu (name:=Str.ofString "__next__") hit.typeIs acs (aco acs hit.typeIs F.entry_dict_keyiterator_next ?_ (F.args_dict_keyiterator_next_1 _))))
 refine abk (abm (abk (abk ?_)));first | refine abk (wpAny_typeNameOfWhole_keyiter hit.typeIs (abm ?_)) | refine abk (wpAny_typeNameOf_keyiter hit.typeIs (abm ?_))
 refine abk (wpAny_fieldsOf ho hd ?_);simp only[show Builtin.Dict_items.ownsTuple "dict_keyiterator" = false by decide,ab2,acb]
 show wpAny _ _ (if (Value.ref d == Value.none)=true then _ else _) _ _ s;rw[abo (show ¬ ((Value.ref d == Value.none)=true) from abA)]
 refine abk (abm (abk (wpAny_dictEntries Ed D9 ?_)));rw[abo (by simp)];refine abk (abm (abk (wpAny_dictEpoch Ed D9 ?_)));rw[abo (by simp)];refine abm ?_
 simp only[show ¬ ((i:Int)<0) from by lia,acb,acp,hx];refine abk ?_
 first | refine abk (wpAny_typeNameOfWhole_keyiter hit.typeIs (abm ?_)) | refine abk (wpAny_typeNameOf_keyiter hit.typeIs (abm ?_))
 refine abk (wpAny_isOneOf_keyiter hit.typeIs ?_);show wpAny _ _ (setField (.ref it) 1 (rawInt ((i:Int)+1)) >>= _) _ _ s
 refine abk (wpAny_setField ho hd (by simp) ?_)
 have uP:(s.heap.update it (Obj.mapFields (·.setIfInBounds 1 (rawInt ((i:Int)+1))))).IsKeyIter it d (i+1) es.size ep:=⟨_,Heap.get?_update_self _ ho (Obj.isFreed_of_fields (Obj.data_mapFields hd _)),(Obj.cls_mapFields ..).trans hc,by rw[Obj.data_mapFields hd];simp[rawInt]⟩
 refine abk (wpAny_holding ?_);refine abk (wpAny_isOneOf_keyiter (s:={s with heap:=s.heap.update it (Obj.mapFields (·.setIfInBounds 1 (rawInt ((i:Int)+1))))}) uP.typeIs ?_)
 show wpAny _ _ (pure e.key) _ _ _;exact abm (abm ⟨_,rfl,abm (hQ _ uP (Heap.SameBut.update ..))⟩)
theorem Ad {Q:Option Value->Shared->Prop}(hh:A.handled=none)(hit:s.heap.IsKeyIter it d i es.size ep)(Ed:s.heap.get? d=some od)(D9:od.data=.dict es ep)(hx:es[i]?=none)
  (hQ:∀ h',Heap.ExtBut it s.heap h'->Q none {s with heap:=h'}):wpAny (model prog w) A (pyNext (.ref it)) Q E s:=by
 obtain⟨o,ho,hc,hd⟩:=id hit
 unfold pyNext
 refine abk (wpAny_attempt (acu (name:=Str.ofString "__next__") hit.typeIs acs (aco acs hit.typeIs F.entry_dict_keyiterator_next ?_ (F.args_dict_keyiterator_next_1 _))))
 refine abk (abm (abk (abk ?_)));first | refine abk (wpAny_typeNameOfWhole_keyiter hit.typeIs (abm ?_)) | refine abk (wpAny_typeNameOf_keyiter hit.typeIs (abm ?_))
 refine abk (wpAny_fieldsOf ho hd ?_);simp only[show Builtin.Dict_items.ownsTuple "dict_keyiterator" = false by decide,ab2,acb]
 show wpAny _ _ (if (Value.ref d == Value.none)=true then _ else _) _ _ s;rw[abo (show ¬ ((Value.ref d == Value.none)=true) from abA)]
 refine abk (abm (abk (wpAny_dictEntries Ed D9 ?_)));rw[abo (by simp)];refine abk (abm (abk (wpAny_dictEpoch Ed D9 ?_)));rw[abo (by simp)];refine abm ?_
 simp only[show ¬ ((i:Int)<0) from by lia,acb,acp,hx];refine abk ?_
 first | refine abk (wpAny_typeNameOfWhole_keyiter hit.typeIs (abm ?_)) | refine abk (wpAny_typeNameOf_keyiter hit.typeIs (abm ?_))
 show wpAny _ _ (setField (.ref it) 0 .none >>= _) _ _ s;refine abk (wpAny_setField ho hd (by simp) ?_)
 show wpAny _ _ (newExc (.type "StopIteration") [] >>= _) _ _ _;refine abk ?_
 simp only[newExc,newTuple];refine abk (abX ?_ (by size_fits))
 refine abk (m:=firstArgMember _ _) (wpAny_of_eq (a:=Value.none) (by first | rfl | (simp only[firstArgMember];rfl)) (abX ?_ (by size_fits)))
 simp only[raiseNew];refine abk (wpAny_handled ?_);rw[show A.in1.handled=none from hh];refine abk (abm (wpAny_throw ?_))
 refine abk (wpAny_isInstance (T:="StopIteration") (b:=true) ⟨_,abz _ rfl,rfl⟩ isSubtype_stop ?_);exact abm (hQ _ (((Heap.SameBut.update ..).extBut.push _).push _))
end
end DV
namespace L2
open PySem PySem.Spec PyProof.Rows
noncomputable def TQ (d:Addr)(o:Obj)(u:HO)(xs:List V):It:=⟨λi H=>H d=some (.dE o u)/\i<xs.length,λi H v H'=>H'=H/\xs[i]?=some v,λi H=>H d=some (.dE o u)/\xs.length<=i⟩
section
variable {P:Program}{w:World}{K:PySem.W.Frag}{tg:Expr}{d it:Addr}{o:Obj}{u:HO}{ep:Nat}{ps:List (V×V)}
theorem CD (CP:uu o ep ps)(ne:d≠it):Turn P w K tg (TQ d o u (ps.map (·.1))) [it] it (λi h=>i<=ps.length/\h.IsKeyIter it d i ps.length ep) where
 mem:=by simp
 obj:=λi h st b hb=>by
  have e:b=it:=by simpa using hb
  subst e
  obtain⟨_,ob,e,c,dd⟩:=st
  exact⟨ob,e,λv z=>by rw[dd]at z;cases z⟩
 keep:=λi h h' st kk=>⟨st.1,let ⟨ob,e,r⟩:=st.2;⟨ob,kk it (by simp) ob e,r⟩⟩
 item:=by
  intro X hP hw hK hc i pins s σ H E I hf st hg
  subst hP hw hK
  obtain⟨hd,vB⟩:=hg
  have Ma:i<ps.length:=by simpa using vB
  obtain⟨es,hx,jN,pr⟩:=id CP
  obtain⟨ho,_⟩:=(show bD X.prog X.w H s.heap d (.dE o u) from I.hok d _ hd)
  have hsz:es.size=ps.length:=by have:=Paired.len pr;simpa using this
  obtain⟨e,he,r1,r2⟩:=Paired.at pr i ps[i] (abw Ma)
  have he':es[i]?=some e:=by simpa using he
  obtain⟨f0,f1,f2,f3,f4,f5⟩:=hf it (by simp)
  refine DV.wY (es:=es) (by rw[hsz];exact st.2) ho jN he' λh' uP sb=>?_
  have I1:Inv X pins σ H {s with heap:=h'}:=I.turned (t':=s.toks) (λb ob hb e=>sb.extBut b ob hb e) f0 f1 f3 f4 f5
  obtain⟨ob,e1,oc,od⟩:=id uP
  exact⟨_,rfl,wx (s:={s with heap:=h'}) e1 oc od (by decide) ⟨ps[i].1,H,I1,r1,⟨rfl,by rw[abG,abw Ma];rfl⟩,⟨Ma,by rw[<-hsz];exact uP⟩,λb hb=>(hf b hb).1⟩⟩
 done:=by
  intro X hP hw hK hc i pins s σ H E I hf st hg
  subst hP hw hK
  obtain⟨hd,hle⟩:=hg
  obtain⟨es,hx,jN,pr⟩:=id CP
  obtain⟨ho,_⟩:=(show bD X.prog X.w H s.heap d (.dE o u) from I.hok d _ hd)
  have hsz:es.size=ps.length:=by have:=Paired.len pr;simpa using this
  have Zr:ps.length<=i:=by simpa using hle
  obtain⟨f0,f1,f2,f3,f4,f5⟩:=hf it (by simp)
  exact DV.Ad (es:=es) (I.ok.hd hc) (by rw[hsz];exact st.2) ho jN (by simp;lia) λh' eb=>⟨rfl,I.turned (t':=s.toks) (λb o hb e=>eb b o hb e) f0 f1 f3 f4 f5⟩
 self:=λA i s Q E st h=>wpAny_pyIter_keyiter st.2 h
end
inductive Hw where
 |keys | vals | items
def Hw.it:Hw->Addr->Obj->HO->List (V×V)->It
 |.keys,d,o,u,ps=>TQ d o u (ps.map (·.1))
 |.vals,d,o,u,ps=>TQ d o u (ps.map (·.2))
 |.items,d,o,u,ps=>TN d o u ps
def wB (k:Hw)(te:TE):TI:=λσ H R=>te σ H λx H1=>∃ d vs,x=.ref d/\H1 d=some (.dT vs)/\∀ o ps,Bf H1 (.dT vs) ps->R (k.it d o (.dT vs) ps) (upd H1 d (.dE o (.dT vs)))
section
variable {X:Cx}{tg oe:Expr}{te:TE}{apos b7:Pos}
theorem IW (ho:PE X oe te):PI X tg oe (wB .keys te):=by
 intro pins s σ H R I h
 refine bK (ho pins s σ H _ I h) λv s1 ⟨x,H1,I1,r1,q1⟩=>?_
 obtain⟨d,vs,e,hd,q⟩:=q1
 subst e
 cases r1
 obtain⟨o,ep,ps,h1,h2,h3,h4⟩:=I1.items hd (u:=.dT vs) trivial
 obtain⟨es,x1,x2,x3⟩:=id h2
 have hsz:es.size=ps.length:=by have:=Paired.len x3;simpa using this
 refine DV.tK (es:=es) h4 h1 x1 x2 ?_
 have I2:=I1.hold hd (u:=.dT vs) trivial h1
 refine⟨s1.heap.objs.size,[s1.heap.objs.size],_,_,_,rfl,I2.kept (t':=s1.toks) (λb ob z=>abp _ z),CD h2 (abI (abx h1)),⟨abO _,⟨_,abz _ rfl,rfl,by rw[hsz];rfl⟩⟩,λb hb=>?_,q o ps h3⟩
 have e:b=s1.heap.objs.size:=by simpa using hb
 subst e
 exact I2.qO (abl _) (I2.hok.fresh (abl _))
theorem Ce (ho:PE X oe te)(hb:attributeBase oe "items" X.env (eval oe X.env)=eval oe X.env)(hl:(apos.endLine == b7.line)=true):PI X (.Tuple elts k p0) (.Call (.Attribute oe "items" apos) [] [] b7) (wB .items te):=by
 intro pins s σ H R I h
 refine wpAny_Call_method (T:="dict") (id:="dict.items") hb rfl hl F.plainAttrs_dict F.slot_dict_items F.type_dict_items (bK (ho pins s σ H _ I h) λv s1 ⟨x,H1,I1,r1,q1⟩=>?_)
 obtain⟨d,vs,e,hd,q⟩:=q1
 subst e
 cases r1
 obtain⟨o,ep,ps,h1,h2,h3,h4⟩:=I1.items hd (u:=.dT vs) trivial
 obtain⟨es,x1,x2,x3⟩:=id h2
 have hsz:es.size=ps.length:=by have:=Paired.len x3;simpa using this
 have hT:s1.TypeIs (.ref d) "dict":=DI.nj h1 x1
 refine⟨hT,λb e=>⟨o,by cases e;exact h1,x1.2.1⟩,?_⟩
 show wpAny _ _ (callWith b7 (.builtin "dict.items") [.ref d] [] []) _ _ s1
 refine method_meetsIn F.slot_dict_items F.entry_dict_items rfl (PySem.evalArgs_none ⟨rfl,hT,F.args_dict_items_1 _,_,DI.meets d h4,hT,?_⟩)
 have k1:∀ b ob,s1.heap.get? b=some ob->(s1.heap.push {cls:=.type "dict_items",data:=.fields #[.ref d]}).get? b=some ob:=λb ob z=>abp _ z
 have Xx:(s1.heap.push {cls:=.type "dict_items",data:=.fields #[.ref d]}).objs.size=s1.heap.objs.size+1:=Heap.size_push ..
 show wpAny _ _ (pyIter (.ref s1.heap.objs.size)) _ _ _
 refine DI.BO (es:=es) (ep:=ep) ⟨_,abz _ rfl,rfl,rfl⟩ (k1 _ _ h1) x2 ?_
 have I2:=I1.hold hd (u:=.dT vs) trivial h1
 have HS:d≠s1.heap.objs.size+1:=abI (Nat.lt_succ_of_lt (abx h1))
 dsimp only
 rw[Xx]
 refine⟨s1.heap.objs.size+1,[s1.heap.objs.size+1],_,TN d o (.dT vs) ps,_,rfl,I2.kept (t':=s1.toks) (λb ob z=>abp _ (k1 b ob z)),zJ h2 HS,⟨abO _,_,_,by rw[<-hsz,<-Xx];exact abz _ rfl⟩,λb hb=>?_,q o ps h3⟩
 have e:b=s1.heap.objs.size+1:=by simpa using hb
 subst e
 exact I2.qO (Nat.le_succ _) (I2.hok.fresh (Nat.le_succ _))
noncomputable def Vl (H0:Hp)(D:Ends):Ends:=
 {nx:=λσ H=>∃ d o u,H d=some (.dE o u)/\IsDict u/\(∀ o u,H0 d≠some (.dE o u))/\D.nx σ (upd H d u),rt:=λv H=>∃ d o u,H d=some (.dE o u)/\IsDict u/\(∀ o u,H0 d≠some (.dE o u))/\D.rt v (upd H d u),
  bk:=λσ H=>∃ d o u,H d=some (.dE o u)/\IsDict u/\(∀ o u,H0 d≠some (.dE o u))/\D.bk σ (upd H d u),ct:=λσ H=>∃ d o u,H d=some (.dE o u)/\IsDict u/\(∀ o u,H0 d≠some (.dE o u))/\D.ct σ (upd H d u)}
def Gj (wi:TI)(g:TG)(tb:TS):TS:=λD σ H=>Gi wi g tb (Vl H D) σ H
theorem Jd (hp:PassesOwn (model X.prog X.w) X.A X.env X.xe)(hc:X.calm=true)(hi:PI X tg iter wi)(hg:PG X tg g)(hb:xT X body tb)(hs:∀ x,foldedSetIterable iter X.env x=pure x):PS X (.For tg iter body [] pos) (Gj wi g tb):=by
 intro pins s σ H D I h
 have hz:∀ {d:Addr},(∀ o u,H d≠some (.dE o u))->∀ o u,X.H₀ d≠some (.dE o u):=λz o u q=>z o u (I.base.frzs _ o u q)
 refine bK (Fj hp hc hi hg hb hs pins s σ H _ I h) λf s1 q=>?_
 cases f with
 |next=>obtain⟨σ1,H1,I1,d,o,u,e,hu,z,q⟩:=q;exact⟨σ1,_,I1.loose e hu (hz z),q⟩
 |brk=>obtain⟨σ1,H1,I1,d,o,u,e,hu,z,q⟩:=q;exact⟨σ1,_,I1.loose e hu (hz z),q⟩
 |cont=>obtain⟨σ1,H1,I1,d,o,u,e,hu,z,q⟩:=q;exact⟨σ1,_,I1.loose e hu (hz z),q⟩
 |ret v=>obtain⟨w,σ1,H1,I1,r1,d,o,u,e,hu,z,q⟩:=q;exact⟨w,σ1,_,I1.loose e hu (hz z),r1,q⟩
def Ow (te:TE):TE:=λσ H Q=>te σ H λv H1=>∃ d o u,H1 d=some (.dE o u)/\IsDict u/\(∀ o u,H d≠some (.dE o u))/\Q v (upd H1 d u)
theorem Nh (h:PE X e t):PE X e (Ow t):=by
 intro pins s σ H Q I q
 refine bK (h pins s σ H _ I q) λv s1 ⟨x,H1,I1,r1,d,o,u,e,hu,z,q⟩=>⟨x,_,I1.loose e hu (λo u y=>z o u (I.base.frzs _ o u y)),r1,q⟩
end
end L2
namespace S
open PySem L2
variable [kf:KF]
section
theorem HV (r:aE ι H h)(hn:ι[n]?=some d)(eo:h[n]?=some (.dT kvs)):∃ vs,H d=some (.dT vs)/\aX ι H kvs vs/\∀ o,Ext ι H ι (upd H d (.dE o (.dT vs)))/\aE ι (upd H d (.dE o (.dT vs))) (h.set n (.fT kvs)):=by
 obtain⟨vs,e,p⟩:=r.obj n d _ hn eo
 refine⟨vs,e,p,λo=>?_⟩
 have x:=nq (H:=H) hn (λ_ _ z=>by rw[e]at z;cases z) (.dE o (.dT vs))
 exact r.put hn (u:=.dE o (.dT vs)) (o:=.fT kvs) (λ_ z=>by rw[e]at z;cases z) (λ_ _ z=>by rw[e]at z;cases z) ⟨o,vs,bF,p.mono (x.kp r)⟩
theorem Ah (hr:aE ι H h)(x:Ext ι H ι' H')(r:aE ι' H' h2)(hz:∀ k,h[n]?≠some (.fT k))(e2:h2[n]?=some (.fT kvs)) :
  ∃ d o vs,H' d=some (.dE o (.dT vs))/\(∀ o u,H d≠some (.dE o u))/\Ext ι H ι' (upd H' d (.dT vs))/\aE ι' (upd H' d (.dT vs)) (h2.set n (.dT kvs))/\Kp ι' H' ι' (upd H' d (.dT vs)):=by
 have hl:n<ι'.length:=by rw[r.len];exact(abn.mp e2).1
 obtain⟨d,hd⟩:∃ d,ι'[n]?=some d:=⟨_,abw hl⟩
 obtain⟨o,vs,e,p⟩:=r.obj n d _ hd e2
 have md:d∈ι':=abY hd
 have fz:∀ o u,H d≠some (.dE o u):=λo' u' z=>by
  by_cases m:d∈ι
  ·obtain⟨k,ob,k1,k2,mo⟩:=hr.has m
   have k3:ι'[k]?=some d:=x.at k1
   have hk:k=n:=(List.getElem?_inj (abn.mp k3).1 r.nd).mp (k3.trans hd.symm)
   subst hk
   cases ob with
   |lst us=>obtain⟨_,q,_⟩:=mo;rw[z]at q;cases q
   |dK us=>obtain⟨_,q,_⟩:=mo;rw[z]at q;cases q
   |dT us=>obtain⟨_,q,_⟩:=mo;rw[z]at q;cases q
   |fT us=>exact hz _ k2
   |ins C fs=>obtain⟨_,_,q,_⟩:=mo;rw[z]at q;cases q
  ·rw[x.fresh d md m]at z;cases z
 have kp:Kp ι' H' ι' (upd H' d (.dT vs)):=⟨λq=>q,λ{a _} q=>by rw[ax (λz=>by subst z;rw[e]at q;cases q)];exact q,λ{a _} m q=>⟨by rw[ax (λz=>m (by rw[z];exact md))];exact q,m⟩⟩
 refine⟨d,o,vs,e,fz,⟨x.pre,λa ob m q=>?_,x.fresh,λa ob u q=>?_⟩,⟨by simp[r.len],r.nd,λk a ob h1 h3=>?_⟩,kp⟩
 ·rw[ax (λz=>by subst z;rw[x.fresh a md m]at q;cases q)];exact x.keep a ob m q
 ·rw[ax (λz=>by subst z;exact fz _ _ q)];exact x.dE a ob u q
 ·by_cases hk:k=n
  ·subst hk
   rw[hd]at h1;cases h1
   rw[abR (by rw[<-r.len];exact hl)]at h3
   cases h3
   exact⟨vs,bF,p.mono kp⟩
  ·rw[abF (λz=>hk z.symm)]at h3
   refine(r.obj k a ob h1 h3).mono kp ?_
   rw[ax]
   intro z
   subst z
   exact hk ((List.getElem?_inj (abn.mp h1).1 r.nd).mp (h1.trans hd.symm))
theorem wb (pr:aX ι H kvs vs)(z:Bf H (.dT vs) ps):Paired (λ(p:NK.KD×U) (q:V×V)=>Rel ι H (ae p.1) q.1/\Rel ι H p.2 q.2) kvs ps:=by
 cases z with
 |dT _ _ pp=>
  induction pr generalizing ps with
  |nil=>cases pp;exact .nil
  |cons a b ih=>
   cases pp with
   |cons f t=>exact .cons ⟨xc f.1,by rw[f.2];exact a⟩ (ih t)
end
theorem Paired.fst {α β:Type}{F:α->β->Prop}:∀ {l:List α}{r:List β},Paired F l r->∀ (i:Nat) (a:α),l[i]?=some a->∃ b,r[i]?=some b/\F a b
 |_,_,.nil,i,b,e=>by simp at e
 |_,_,.cons f _,0,b,e=>by simp at e;subst e;exact⟨_,rfl,f⟩
 |_,_,.cons _ t,i+1,b,e=>by
  obtain⟨a,h1,h2⟩:=Paired.fst t i b (by simpa using e)
  exact⟨a,by simpa using h1,h2⟩
theorem Paired.imp {α β:Type}{F G:α->β->Prop}(f:∀ a b,F a b->G a b):∀ {l:List α}{r:List β},Paired F l r->Paired G l r
 |_,_,.nil=>.nil
 |_,_,.cons a t=>.cons (f _ _ a) (Paired.imp f t)
noncomputable def iP:Hw->NK.KD×U->U
 |.keys,q=>ae q.1
 |.vals,q=>q.2
 |.items,q=>.tup [ae q.1,q.2]
def cO (k:Hw)(a:ME):MI:=λσ h=>(a σ h).bind λp=>match p.1 with
 |.ref n=>match p.2[n]? with
  |some (.dT kvs)=>some (lQ (kvs.map (iP k)),p.2.set n (.fT kvs))
  |_=>none
 |_=>none
theorem Ia (hr:aE ι H h)(e:H d=some (.dE o (.dT vs)))(pr:Paired (λ(p:NK.KD×U) (q:V×V)=>Rel ι H (ae p.1) q.1/\Rel ι H p.2 q.2) kvs ps) :
  sy ι H (k.it d o (.dT vs) ps) (lQ (kvs.map (iP k))):=by
 intro ι' H' h' i x r'
 have fd:=x.dE d o _ e
 have hl:kvs.length=ps.length:=L2.Paired.len pr
 refine⟨λq=>?_,λu q=>?_⟩
 ·have q':(kvs.map (iP k))[i]?=none:=abD q
  rw[ab5,ab1,hl]at q'
  cases k<;>exact⟨fd,by simpa using q'⟩
 ·have q':(kvs.map (iP k))[i]?=some u:=abD q
  rw[abG]at q'
  obtain⟨p,hp,rfl⟩:=ab6.mp q'
  have hi:i<ps.length:=by rw[<-hl];exact(abn.mp hp).1
  obtain⟨⟨vx,vy⟩,h1,h2,h3⟩:=Paired.fst pr i p hp
  have g2:=h2.mono (x.kp hr)
  have g3:=h3.mono (x.kp hr)
  cases k with
  |keys=>
   refine⟨⟨fd,by simpa using hi⟩,λv H2 y=>?_⟩
   obtain⟨rfl,y⟩:=y
   rw[abG,h1]at y
   cases y
   exact⟨.refl,r',g2⟩
  |vals=>
   refine⟨⟨fd,by simpa using hi⟩,λv H2 y=>?_⟩
   obtain⟨rfl,y⟩:=y
   rw[abG,h1]at y
   cases y
   exact⟨.refl,r',g3⟩
  |items=>
   refine⟨⟨fd,hi⟩,λv H2 y=>?_⟩
   obtain⟨p',a,b,rfl,ZD,Xv,rfl⟩:=y
   rw[h1]at Xv
   cases Xv
   exact jB r' ZD (.cons g2 (.cons g3 .nil))
instance Tt {k:Hw}{te:TE}{a:ME}[A:SE te a]:SI (wB k te) (cO k a):=⟨λ{σ H R σu ι h it h'} hs hr e q=>by
 obtain⟨⟨u,h1⟩,e1,e⟩:=bind_some e
 refine A.go hs hr e1 λι1 H1 v1 x1 r1 k1=>?_
 cases k1 with
 |@ref n d hn=>
  cases eo:h1[n]? with
  |none=>dsimp only at e;rw[eo]at e;cases e
  |some ob=>
   dsimp only at e
   rw[eo]at e
   cases ob with
   |dT kvs=>
    cases e
    obtain⟨vs,hd,pr,hz⟩:=HV r1 hn eo
    refine⟨d,vs,rfl,hd,λo ps hp=>?_⟩
    obtain⟨x2,r2⟩:=hz o
    have Z9:=wb pr hp
    exact q _ _ _ (x1.trans x2) r2 (Ia r2 bF (Paired.imp (λ_ _ z=>⟨z.1.mono (x2.kp r1),z.2.mono (x2.kp r1)⟩) Z9))
   |_=>cases e
 |_=>first | exact nk e | cases e⟩
noncomputable def rk (h:MH)(n:Nat)(h2:MH):Option MH:=match h[n]? with
 |some (.fT _)=>none
 |_=>match h2[n]? with
  |some (.fT kvs)=>some (h2.set n (.dT kvs))
  |_=>none
theorem tM (e:rk h n h2=some h3):(∀ k,h[n]?≠some (.fT k))/\∃ kvs,h2[n]?=some (.fT kvs)/\h3=h2.set n (.dT kvs):=by
 unfold rk at e
 split at e
 ·cases e
 ·rename_i hz
  split at e
  ·rename_i kvs YX
   cases e
   exact⟨λk z=>hz k z,kvs,YX,rfl⟩
  ·cases e
noncomputable def Av (a m:ME):ME:=λσ h=>(a σ h).bind λp=>match p.1 with
 |.ref n=>(m σ h).bind λq=>(rk h n q.2).bind λh3=>some (q.1,h3)
 |_=>none
theorem N6 (A:SE t m):SE (Ow t) (Av a m):=⟨λ{σ H Q σu ι h u h'} hs hr e q=>by
 obtain⟨⟨z,h1⟩,e1,e⟩:=bind_some e
 cases z with
 |ref n=>
  obtain⟨⟨w,h2⟩,e2,e⟩:=bind_some (show(m σu h).bind _=some _ from e)
  obtain⟨h3,e3,e⟩:=bind_some e
  cases e
  obtain⟨hz,kvs,e4,rfl⟩:=tM e3
  refine A.go hs hr e2 λι1 H1 v1 x1 r1 k1=>?_
  obtain⟨d,o,vs,g1,g2,g3,g4,g5⟩:=Ah hr x1 r1 hz e4
  exact⟨d,o,_,g1,trivial,g2,q _ _ _ g3 g4 (k1.mono g5)⟩
 |_=>first | exact nk e | cases e⟩
noncomputable def iA (a:ME)(m:MS):MS:=λσ h=>(a σ h).bind λp=>match p.1 with
 |.ref n=>(m σ h).bind λq=>(rk h n q.2).bind λh3=>some (q.1,h3)
 |_=>none
theorem Ol (A:SS (Gi wi g tb) m):SS (Gj wi g tb) (iA a m):=⟨λ{D σ H σu ι h f h'} hs hr e q=>by
 obtain⟨⟨z,h1⟩,e1,e⟩:=bind_some e
 cases z with
 |ref n=>
  obtain⟨⟨w,h2⟩,e2,e⟩:=bind_some (show(m σu h).bind _=some _ from e)
  obtain⟨h3,e3,e⟩:=bind_some e
  cases e
  obtain⟨hz,kvs,e4,rfl⟩:=tM e3
  refine A.go hs hr e2 λι1 H1 x1 r1=>?_
  obtain⟨d,o,vs,g1,g2,g3,g4,g5⟩:=Ah hr x1 r1 hz e4
  have qq:=q _ _ g3 g4
  cases w with
  |nx σ1=>exact λσ2 s2=>⟨d,o,_,g1,trivial,g2,qq σ2 (s2.mono g5)⟩
  |bk σ1=>exact λσ2 s2=>⟨d,o,_,g1,trivial,g2,qq σ2 (s2.mono g5)⟩
  |ct σ1=>exact λσ2 s2=>⟨d,o,_,g1,trivial,g2,qq σ2 (s2.mono g5)⟩
  |rt u1=>exact λv2 k2=>⟨d,o,_,g1,trivial,g2,qq v2 (k2.mono g5)⟩
 |_=>first | exact nk e | cases e⟩
end S
namespace DV
open PySem PyProof.Rows
section
variable {prog:Program}{w:World}{A:Around}{d:Addr}{od:Obj}{es:Array DictEntry}{ep:Nat}
theorem CI (hh:A.handled=none)(I:Addr)(HS:d≠I)(hd:od.data=.dict es ep):Walks prog w A I [I,d] [I] es.size (λi v=>∃ e,es[i]?=some e/\v=e.key) (λi h=>h.IsKeyIter I d i es.size ep/\h.get? d=some od) where
 sub:=λb hb=>by simp at hb;simp[hb]
 frame:=λ_ _ _ st hk=>⟨st.1.at λo e=>hk I (by simp) o e,hk d (by simp) _ st.2⟩
 item:=λi s Q E hi st hQ=>by
  obtain⟨e,he⟩:∃ e,es[i]?=some e:=⟨es[i],by simp[hi]⟩
  refine wY st.1 st.2 hd he λh' uP hs'=>?_
  exact hQ e.key h' s.toks ⟨e,he,rfl⟩ ⟨uP,hs'.extBut d od HS st.2⟩ λb o hb e=>hs'.extBut b o (λh=>hb (by simp[h])) e
 done:=λs Q E st hQ=>Ad hh st.1 st.2 hd (by simp) λh' he'=>hQ h' s.toks λb o hb e=>he' b o (λh=>hb (by simp[h])) e
 self:=λ_ _ _ _ st hQ=>wpAny_pyIter_keyiter st.1 hQ
theorem F5 (lo:(d == sysModules)=false)(hx:od.ExactDict)(hd:od.data=.dict es ep):PySem.W.KdlSrc prog w "dict" d d es.size (λi v=>∃ e,es[i]?=some e/\v=e.key) (λh=>h.get? d=some od) where
 type:=λ_ hm=>DI.nj hm hx
 there:=λ_ hm=>⟨abx hm,abx hm⟩
 keep:=λ_ _ hm hk=>hk d (.inl rfl) _ hm
 notList:=by decide
 notTuple:=by decide
 hint:=λ_ _ _ _ hm hq=>PySem.W.kdl_hint_dict (DI.nj hm hx) hq
 iter:=λ_ _ hh hm=>⟨_,_,(λ_ _ hq=>tK lo hm hx hd hq),CI hh _ (abI (abx hm)) hd,⟨⟨_,abz _ rfl,rfl,rfl⟩,abp _ hm⟩⟩
end
end DV
namespace L2
open PySem PySem.Spec PyProof.Rows
variable {X:Cx}
theorem Ba:∀ {xs:List V}{vs:List Value},xs.length=vs.length->(∀ (i:Nat) (x:V) (v:Value),xs[i]?=some x->vs[i]?=some v->RelV x v)->Vals xs vs
 |[],[],_,_=>.nil
 |x::xs,v::vs,e,h=>.cons (h 0 x v rfl rfl) (Ba (by simpa using e) λi y w a b=>h (i+1) y w (by simpa using a) (by simpa using b))
 |[],_::_,e,_=>nomatch e
 |_::_,[],e,_=>nomatch e
def Fx:List V->Hp->VK->Prop:=λxs H Q=>∃ p vs,xs=[.ref p]/\H p=some (.dT vs)/\vs.length<=sizeLine/\∀ ps,Bf H (.dT vs) ps->∀ l,H l=none->Q (.ref l) (upd H l (.lst (ps.map (·.1))))
theorem yk (hc:X.calm=true):eC X (.type "list") Fx:=by
 intro pins s σ H xs us Q I r h
 obtain⟨p,vs,rfl,hp,hz,q⟩:=h
 obtain⟨u,rfl,rx⟩:=vals1 r
 cases rx
 obtain⟨o,ep,ps,h1,h2,h3,h4⟩:=I.items hp (u:=.dT vs) trivial
 obtain⟨es,x1,x2,x3⟩:=id h2
 have hsz:es.size=ps.length:=by have:=Paired.len x3;simpa using this
 have wA:vs.length=ps.length:=by cases h3 with | dT _ _ pp=>exact Paired.len pp
 refine PySem.W.kdl_call (DV.F5 h4 x1 x2) (I.ok.hd hc) h1 (by rw[hsz,<-wA];exact hz) λh' tk PM c' kp e ju=>?_
 have hv:Vals (ps.map (·.1)) PM.toList:=Ba (by have:=ju.1;simp;lia) λi x v a b=>by
  rw[Array.getElem?_toList]at b
  obtain⟨en,he,rfl⟩:=ju.2 i v b
  rw[abG]at a
  obtain⟨pr,ZE,rfl⟩:=ab6.mp a
  obtain⟨e2,Sz,r1,_⟩:=Paired.at x3 i pr ZE
  rw[Array.getElem?_toList,he]at Sz
  cases Sz
  exact r1
 exact⟨.ref s.heap.objs.size,_,I.laid (t':=tk) kp (abl _) (show bD X.prog X.w _ h' _ (.lst (ps.map (·.1))) from⟨by rw[ab1,<-wA];exact hz,PM.toList,c',hv,by rw[Array.toArray_toList];exact e⟩),rfl,q ps h3 _ (I.hok.fresh (abl _))⟩
end L2
namespace S
open PySem L2
variable [kf:KF]
noncomputable def iG (f g:MF):MF:=λus h=>match f us h with
 |some r=>some r
 |none=>g us h
theorem K9 {r r':List V->Hp->VK->Prop}(A:SC r f)(B:SC r' g):SC (λxs H Q=>r xs H Q\/r' xs H Q) (iG f g):=⟨λ{xs H Q us ι h u h'} hr k e q=>by
 unfold iG at e
 cases ef:f us h with
 |some z=>rw[ef]at e;cases e;exact .inl (A.go hr k ef q)
 |none=>rw[ef]at e;exact .inr (B.go hr k e q)⟩
noncomputable def mT:MF:=λus h=>match us with
 |[.ref n]=>match h[n]? with
  |some (.dT kvs)=>if kvs.length<=sizeLine then some (.ref h.length,h++[.lst (kvs.map λp=>ae p.1)]) else none
  |_=>none
 |_=>none
theorem IG {us:List U}{h:MH}{f:Nat->Option (U×MH)}{r:U×MH}(e:(match us with | [.ref n]=>f n | _=>none)=some r):∃ n,us=[.ref n]/\f n=some r:=by
 split at e
 ·exact⟨_,rfl,e⟩
 ·cases e
theorem wI:∀ {kvs:List (NK.KD×U)}{ps:List (V×V)},Paired (λ(p:NK.KD×U) (q:V×V)=>Rel ι H (ae p.1) q.1/\Rel ι H p.2 q.2) kvs ps->aH ι H (kvs.map λp=>ae p.1) (ps.map (·.1))
 |_,_,.nil=>.nil
 |_,_,.cons a t=>.cons a.1 (wI t)
instance FP:SC Fx mT:=⟨λ{xs H Q us ι h u h'} hr k e q=>by
 obtain⟨n,rfl,e2⟩:=IG (h:=h) e
 clear e
 have e:=e2
 clear e2
 cases k with
 |cons ka kb=>
  cases kb
  cases ka with
  |@ref m a hn=>
   cases eo:h[n]? with
   |none=>rw[eo]at e;cases e
   |some o=>
    rw[eo]at e
    cases o with
    |dT kvs=>
     obtain⟨hz,e⟩:=ao e
     cases e
     obtain⟨vs,hv,pr⟩:=hr.ref hn eo
     refine⟨a,vs,rfl,hv,by rw[<-pr.length];exact hz,λps CP l hl=>?_⟩
     obtain⟨z1,z2,z3⟩:=eY hr hl (wI (wb pr CP))
     exact q _ _ _ z1 z2 z3
    |_=>cases e⟩
def Ac (h:MH)(d y:U):Option (U×MH):=match d with
 |.ref n=>match h[n]? with
  |some (.dK kvs)=>(ic y).bind λk=>(b6 kvs k).bind λu=>some (u,h.set n (.dK (kvs.filter λkv=>decide (kv.1≠k))))
  |_=>none
 |_=>none
theorem HE (hr:aE ι H h)(kd:Rel ι H d x)(ky:Rel ι H y z)(e:Ac h d y=some (u,h')) :
  ∃ a kvs k v,x=.ref a/\H a=some (.dK kvs)/\z=kV k/\lZ kvs k=some v/\Ext ι H ι (upd H a (.dK (iV kvs k)))/\aE ι (upd H a (.dK (iV kvs k))) h'/\Rel ι (upd H a (.dK (iV kvs k))) u v:=by
 cases kd with
 |@ref n a hn=>
  unfold Ac at e
  dsimp only at e
  cases eo:h[n]? with
  |none=>rw[eo]at e;cases e
  |some ob=>
   rw[eo]at e
   have mo:=hr.ref hn eo
   cases ob with
   |dK kvs=>
    obtain⟨k,e1,e2⟩:=bind_some e
    obtain⟨u',e3,e4⟩:=bind_some e2
    cases e4
    obtain⟨aF,q,r⟩:=mo
    have ez:=nJ ky e1
    subst ez
    have x:=nq (H:=H) hn (λ_ _ z=>by rw[q]at z;cases z) (.dK (iV aF k))
    obtain⟨v,ev,kv⟩:=(r.val k).2 u e3
    obtain⟨_,O6⟩:=hr.put hn (u:=.dK (iV aF k)) (o:=.dK (kvs.filter λkv=>decide (kv.1≠k))) (λvs y=>by rw[q]at y;cases y) (λ_ _ y=>by rw[q]at y;cases y) ⟨_,bF,(r.mono (x.kp hr)).drop k⟩
    exact⟨a,aF,k,v,rfl,q,rfl,ev,x,O6,kv.mono (x.kp hr)⟩
   |_=>first | exact nk e | cases e
 |_=>first | exact nk e | cases e
def oM (d y:ME):ME:=λσ h=>(d σ h).bind λp=>if aZ p.2 p.1=true then(y σ p.2).bind λq=>Ac q.2 p.1 q.1 else none
theorem FW (A:SE td d)(B:SE ty y):SE (zC td ty) (oM d y):=⟨λ{σ H Q σu ι h u h'} hs hr e q=>by
 obtain⟨⟨x,h1⟩,e1,e⟩:=bind_some e
 obtain⟨hd,e⟩:=ao e
 obtain⟨⟨z,h2⟩,e2,e⟩:=bind_some e
 refine A.go hs hr e1 λι1 H1 v1 x1 r1 k1=>?_
 obtain⟨a,ea,ia⟩:=Mi r1 k1 hd
 subst ea
 refine⟨a,rfl,ia,B.go (hs.mono (x1.kp hr)) r1 e2 λι2 H2 v2 x2 r2 k2=>?_⟩
 obtain⟨a',kvs,k,v,ea,g1,g2,g3,g4,g5,g6⟩:=HE r2 (k1.mono (x2.kp r1)) k2 e
 cases ea
 exact⟨kvs,k,v,g1,g2,g3,q _ _ _ ((x1.trans x2).trans g4) g5 g6⟩⟩
end S
namespace L2
open PySem
section
def vd:V->List V->Hp->VK->Prop:=λx vs H Q=>∃ l xs i y,x=.ref l/\vs=[.int i,y]/\H l=some (.lst xs)/\0<=i/\i<=(xs.length:Int)/\xs.length<sizeLine/\Q .aq (upd H l (.lst (xs.take i.toNat++y::xs.drop i.toNat)))
theorem B2:Pz X "list.insert" vd:=by
 intro pins s σ H x vs v us Q I rx rv h
 obtain⟨l,xs,i,y,rfl,rfl,hH,h0,h1,hz,q⟩:=h
 cases rx
 obtain⟨u,w,rfl,ru,xq⟩:=rv.two
 obtain⟨t,rfl⟩:=ru
 obtain⟨z,its,n,r,hl,e⟩:=I.wN hH
 have sz:sizeLine<2 ^ 62:=by rw[ab0];decide
 have fit:¬ (!Builtin.List.listFitsIndex i)=true:=by
  rw[fitsIndex_both (by lia) (by lia)];exact abA
 refine call_meets F.slot_list_insert ⟨_,e,rfl⟩ F.entry_list_insert (F.args_list_insert_3 _ _ _) (AutoSeq1.list_insert_list_int_val_1 l its.toArray n i t w fit (by rw[abv];lia)) ⟨e,?_⟩
 have cut:i.toNat<=its.length:=by lia
 refine⟨.aq,_,I.EC (its':=its.take i.toNat++w::its.drop i.toNat) hH e ?_ ((r.take _).append (.cons xq (r.drop _))) ?_,rfl,q⟩
 ·have h2:¬ i<0:=by lia
  simp[h2,acv cut,List.drop_take]
  exact acy (by simp)
 ·simp only[aby,acz,abC,List.length_drop];lia
end
end L2
namespace S
open PySem L2
variable [kf:KF]
noncomputable def qh:U->List U->MH->Option (U×MH):=λa us h=>match us with
 |[.int i,y]=>(bE h a).bind λp=>if 0<=i/\i<=(p.2.length:Int)/\p.2.length<sizeLine then some (.aq,h.set p.1 (.lst (p.2.take i.toNat++y::p.2.drop i.toNat))) else none
 |_=>none
instance Pn:SM vd qh:=⟨λ{x xs H Q a us ι h u h'} hr ka ks e q=>by
 rcases us with _ | ⟨u1,_ | ⟨y,_ | ⟨_,_⟩⟩⟩
 ·cases e
 ·cases u1<;>cases e
 rotate_left
 ·cases u1<;>cases e
 obtain _ | ⟨k1,_ | ⟨ky,_ | _⟩⟩:=ks
 cases k1 with
 |@int i=>
  obtain⟨⟨n,ws⟩,e1,e⟩:=bind_some (show(bE h a).bind _=some _ from e)
  obtain⟨⟨h0,h1,h2⟩,e⟩:=ao e
  cases e
  obtain⟨p,vs,rfl,rfl,hp,q1,r1⟩:=jv hr ka e1
  obtain⟨z1,z2⟩:=hV hr hp q1 ((r1.take i.toNat).append (.cons ky (r1.drop i.toNat)))
  have hl:=r1.length
  exact⟨p,vs,i,_,rfl,rfl,q1,h0,by rw[<-hl];exact h1,by rw[<-hl];exact h2,q _ _ _ z1 z2 .aq⟩
 |_=>cases e⟩
end S
namespace L2
open PySem PySem.Spec PyProof.Rows
theorem zH (h1:-(2^63)<=k)(h2:k<2^63)(hc:o.cls=.type "tuple")(hd:o.data=.seq items n)(hz:items.size*k.toNat<=sizeLine)
  (hf:(List.foldl (λx1 x2=>x1++x2) #[] (List.replicate k.toNat items)).size<=sizeLine) :
  Meets (Builtin.«tuple.__mul__» ⟨[.ref a,.int k t],[]⟩) λA R s=>s.heap.get? a=some o/\((items.isEmpty || k == 1)=true->R (.ok (.ret (.ref a))) s)/\
   ((items.isEmpty || k == 1)=false->R (.ok (.ret (.ref s.heap.objs.size))) {s with heap:=s.heap.push {cls:=.type "tuple",data:=.seq (List.foldl (λx1 x2=>x1++x2) #[] (List.replicate k.toNat items))}}):=by
 refine Meets.of_wp λprog w A R s h=>?_
 obtain⟨he,h,h'⟩:=h
 refine acw (by simp;lia) ?_
 refine abk (wpAny_tupleItemsOf he hd ?_)
 by_cases c:(items.isEmpty || k == 1)=true
 ·refine wpAny_ite_true (by simp only[c];rfl) (abk (abk (wpAny_typeOf_ref he (abm ?_))))
  rw[hc]
  exact wpAny_ite_true rfl (abk (wpAny_rule (abm ⟨_,rfl,h c⟩)))
 ·rw[Bool.not_eq_true]at c
  refine acw (by simp only[c];rfl) ?_
  have ne:items.isEmpty=false:=by revert c;cases items.isEmpty<;>simp
  by_cases k0:k<=0
  ·refine wpAny_ite_true (by simp[k0]) (abk (abX (abm ⟨_,rfl,?_⟩) (by exact abO _)))
   have z:k.toNat=0:=by lia
   have h':=h' c
   rw[z]at h'
   exact h'
  ·refine acw (by simp[k0,ne]) ?_
   have sz:sizeLine<2 ^ 59:=by rw[ab0];decide
   have e:(items.size:Int)*k=((items.size*k.toNat:Nat):Int):=by
    rw[Int.natCast_mul,Int.toNat_of_nonneg (by lia)]
   refine acw (by rw[decide_eq_false_iff_not,e];lia) ?_
   refine acw (by show decide (decide _=true)=false;rw[e,decide_eq_false_iff_not,decide_eq_true_eq];lia) ?_
   exact abk (abX (abm ⟨_,rfl,h' c⟩) hf)
theorem oQ:fillsNumberSlot (.type "tuple") "mul" = pure false:=PySem.fillsNumberSlot_seq F.slot_tuple_mul.lookup rfl F.slot_tuple_rmul.lookup rfl
theorem ve:seqRepeat? (.type "tuple")=pure (some (.builtin "tuple.__mul__")):=by
 unfold seqRepeat?
 rw[show Str.ofString "__mul__" = dunder "mul" from rfl,PySem.seqSlot_of F.slot_tuple_mul.lookup rfl,show Str.ofString "__rmul__" = dunderR "mul" from rfl,PySem.seqSlot_of F.slot_tuple_rmul.lookup rfl]
 rfl
theorem zo (hc:o.cls=.type "tuple")(hd:o.data=.seq items n):Meets (Builtin.«int.__rmul__» ⟨[.int k t,.ref a],[]⟩) λ_ R s=>s.heap.get? a=some o/\R (.ok (.ret .notImplemented)) s:=
 Meets.of_wp λprog w A R s h=>by
  obtain⟨he,h⟩:=h
  cases s
  refine abk ?_
  unfold slotArgs
  refine acw rfl ?_
  refine acw rfl ?_
  refine abm ?_
  refine abk ?_
  refine abk ?_
  refine abm (abm ?_)
  refine abk ?_
  refine abk (wpAny_load' he ?_)
  rw[hd]
  exact abm (abk (wpAny_rule (abm ⟨_,rfl,h⟩)))
section
def Fy (K:PySem.W.Frag):R2:=λx y H Q=>∃ a k xs,x=.ref a/\y=.int k/\i8 K H a xs/\xs≠[]/\0<=k/\k<2 ^ 62/\xs.length*k.toNat<=sizeLine/\(k=1->Q (.ref a) H)/\(k≠1->∀ p,H p=none->Q (.ref p) (upd H p (.tup (List.replicate k.toNat xs).flatten)))
theorem IM:lV X (binaryOp .Mult) (Fy X.K):=by
 intro pins s σ H x y v u Q I rx ry h
 obtain⟨a,k,xs,rfl,rfl,ha,hx,h0,h1,hz,q1,q2⟩:=h
 cases rx
 obtain⟨t,rfl⟩:=ry
 obtain⟨its,r1,p1,_⟩:=I.tuple ha
 obtain⟨o,ho,hc,n,hd⟩:=id p1
 have hl:=r1.length
 have ne:its≠[]:=λz=>hx (r1.nR.mp z)
 have BI:List.foldl (λx1 x2=>x1++x2) #[] (List.replicate k.toNat its.toArray)=(List.replicate k.toNat its).flatten.toArray:=by
  have:=foldl_rep its k.toNat []
  rw[List.nil_append]at this
  exact this
 have hsz:(List.replicate k.toNat its).flatten.length<=sizeLine:=by rw[len_rep,Nat.mul_comm,<-hl];exact hz
 refine wpAny_binaryOp_repeat_ref (T:="tuple") (U:="int") (by decide) ⟨_,ho,hc⟩ (λs'=>typeIs_int s' k t) oQ F.fills_int_mul F.slot_int_rmul ve F.slot_int_index.lookup
  (call_meets F.slot_int_rmul (typeIs_int s k t) F.entry_int_rmul (F.args_int_rmul_2 _ _) (zo hc hd)
   ⟨ho,rfl,⟨_,ho,hc⟩,call_meets F.slot_tuple_mul ⟨_,ho,hc⟩ F.entry_tuple_mul (F.args_tuple_mul_2 _ _) (zH (by lia) (by lia) hc hd (by rw[abv,<-hl];exact hz) (by rw[BI,abv];exact hsz)) ⟨ho,λz=>?_,λz=>?_⟩⟩)
 ·have k1:k=1:=by
   cases its with
   |nil=>exact absurd rfl ne
   |cons b r=>simpa using z
  exact⟨.ref a,H,I,rfl,q1 k1⟩
 ·have k1:k≠1:=by
   intro e;subst e;simp at z
  rw[BI]
  refine⟨.ref s.heap.objs.size,_,I.laid (t':=s.toks) (o:=.tup (List.replicate k.toNat xs).flatten) (λb ob q=>abp _ q) (abl _) ?_,rfl,q2 k1 _ (I.hok.fresh (abl _))⟩
  exact⟨by rw[len_rep,Nat.mul_comm];exact hz,_,r1.rep k.toNat,f9.new _ _⟩
end
end L2
namespace S
open PySem L2
variable [kf:KF]
theorem aH.rep (h:aH ι H us vs):∀ k:Nat,aH ι H (List.replicate k us).flatten (List.replicate k vs).flatten
 |0=>.nil
 |k+1=>by
  rw[ach,ach,List.flatten_cons,List.flatten_cons]
  exact h.append (aH.rep h k)
noncomputable def dU:M2:=λa b h=>match a,b with
 |.tup us,.int k=>if us≠[]/\0<=k/\k<2 ^ 62/\us.length*k.toNat<=sizeLine then some (.tup (List.replicate k.toNat us).flatten,h) else none
 |_,_=>none
theorem Jv:SO (Fy kf.K) dU:=⟨λ{x y H Q a b ι h u h'} hr ka kb e q=>by
 cases ka with
 |tup ha ks=>
  cases kb with
  |int=>
   obtain⟨⟨h0,h1,h2,hz⟩,e⟩:=ao (show(if _ then _ else none)=some _ from e)
   cases e
   refine⟨_,_,_,rfl,rfl,i8.of ha,λz=>h0 (by subst z;cases ks;rfl),h1,h2,by rw[<-ks.length];exact hz,λk1=>?_,λ_ p hp=>?_⟩
   ·subst k1
    have e1:∀ us:List U,(List.replicate (1:Int).toNat us).flatten=us:=λus=>by
     show(List.replicate 1 us).flatten=us
     rw[List.replicate_one,List.flatten_singleton]
    rw[e1]at q
    exact q _ _ _ .refl hr (.tup ha ks)
   ·obtain⟨z1,z2,z3⟩:=jB hr hp (ks.rep _)
    exact q _ _ _ z1 z2 z3
  |_=>exact nk e
 |_=>exact nk e⟩
end S
namespace L2
open PySem PySem.Spec PyProof.Rows
def Eg (ta:TA):TI:=λσ H R=>ta σ H λvs H1=>∃ i j:Int,vs=[.int i,.int j,.int (-1)]/\-(2 ^ 62)<=i/\i<2 ^ 62/\-(2 ^ 62)<=j/\j<2 ^ 62/\R (TR i (-1) (i-j).toNat) H1
theorem pU (a b):Builtin.Range.rangeSize a b (-1)=((a-b).toNat:Int):=by
 unfold Builtin.Range.rangeSize
 rw[abo (by lia),show -(-1:Int)=1 from rfl,Int.ediv_one]
 split<;>lia
theorem Ji (h1:-(2 ^ 62)<=i)(h2:i<2 ^ 62)(h3:-(2 ^ 62)<=j)(h4:j<2 ^ 62):Builtin.Range.small i j (-1)=true:=by
 unfold Builtin.Range.small
 rw[pU]
 have f:∀ x:Int,-(2 ^ 63)<=x->x<2 ^ 63->Builtin.Range.rangeFitsLong x=true:=λx a b=>by
  unfold Builtin.Range.rangeFitsLong
  simp;lia
 rw[f i (by lia) (by lia),f j (by lia) (by lia),f (-1) (by lia) (by lia),f _ (by lia) (by lia),abo (by lia),f (j+(-1+1)) (by lia) (by lia)]
 simp
section
theorem Cg (hm:X.mg "range" = none)(ha:PA X [a,b,c] ta)(hg:Gl X "range")
  (hs:starEach [a,b,c] X.env=(false,eval a X.env)::starEach [b,c] X.env) (wA:(backTo pos (starEach [b,c] X.env)).any (·.1)=false) :
  PI X tg (.Call (.Name "range" p) [a,b,c] [] pos) (Eg ta):=by
 intro pins s σ H R I h
 refine Call_ (mR I hg hm boot_range (PyProof.Rows.callWith_type1 (bK (ha pos pins s σ H _ I h) λus s1 ⟨vs,H1,I1,r1,q1⟩=>?_) hs wA))
 obtain⟨i,j,e,b1,b2,b3,b4,q⟩:=q1
 subst e
 cases r1 with
 |cons r rr=>
  cases rr with
  |cons r' rr=>
   cases rr with
   |cons r'' rr=>
    cases rr
    obtain⟨t,rfl⟩:=r
    obtain⟨t',rfl⟩:=r'
    obtain⟨Tx,rfl⟩:=r''
    refine call_range_3 (by lia) ?_ (.inl (PyProof.noPylong_small (by lia)))
    refine wpAny_pyIter_range (IsRange.new ..) (Ji b1 b2 b3 b4) ?_
    have I2:Inv X pins σ H1 {s1 with heap:=s1.heap.push {cls:=.type "range",data:=.fields #[.int i t,.int j t',.int (-1) Tx]},toks:=s1.toks}:=I1.kept λb o e=>abp _ e
    refine⟨(s1.heap.push {cls:=.type "range",data:=.fields #[.int i t,.int j t',.int (-1) Tx]}).objs.size,[(s1.heap.push {cls:=.type "range",data:=.fields #[.int i t,.int j t',.int (-1) Tx]}).objs.size],_,_,H1,rfl,
     I2.kept (t':=s1.toks) λb o e=>abp _ e,xM _ i (-1) (i-j).toNat,?_,λb hb=>?_,q⟩
    ·have e1:i+((0:Nat):Int)*(-1)=i:=by simp
     have e2:(((i-j).toNat:Nat):Int)-((0:Nat):Int)=Builtin.Range.rangeSize i j (-1):=by rw[pU];lia
     show IsRangeIter _ _ (i+((0:Nat):Int)*(-1)) ((((i-j).toNat:Nat):Int)-((0:Nat):Int)) (-1)
     rw[e1,e2]
     exact abz _ rfl
    ·have e:b=(s1.heap.push {cls:=.type "range",data:=.fields #[.int i t,.int j t',.int (-1) Tx]}).objs.size:=by simpa using hb
     subst e
     exact I2.qO (abl _) (I2.hok.fresh (abl _))
end
end L2
namespace S
open PySem L2
variable [kf:KF]
noncomputable def Pc (lo:Int)(n:Nat):mZ:=λi _=>if i<n then some (some (.int (lo+i*(-1)))) else some none
theorem Ie:sy ι H (TR lo (-1) n) (Pc lo n):=by
 intro ι' H' h' i x r'
 unfold Pc
 by_cases hi:i<n
 ·rw[abr hi]
  refine⟨(λq=>nomatch q),λu q=>?_⟩
  cases q
  refine⟨hi,λv H2 y=>?_⟩
  obtain⟨e,y⟩:=y
  subst e;subst y
  exact⟨.refl,r',.int⟩
 ·rw[abo hi]
  exact⟨λ_=>Nat.le_of_not_lt hi,(λu q=>nomatch q)⟩
def rq (a:MA):MI:=λσ h=>(a σ h).bind λp=>match p.1 with
 |[.int i,.int j,.int k]=>if k=-1/\-(2 ^ 62)<=i/\i<2 ^ 62/\-(2 ^ 62)<=j/\j<2 ^ 62 then some (Pc i (i-j).toNat,p.2) else none
 |_=>none
theorem Js (A:SA t a):SI (Eg t) (rq a):=⟨λ{σ H R σu ι h it h'} hs hr e q=>by
 obtain⟨⟨us,h1⟩,e1,e⟩:=bind_some e
 refine A.go hs hr e1 λι1 H1 v1 x1 r1 k1=>?_
 dsimp only at e
 split at e
 ·rename_i i j k
  obtain⟨⟨ek,hz⟩,e2⟩:=ao e
  clear e
  cases e2
  subst ek
  obtain _ | ⟨k1,_ | ⟨k2,_ | ⟨k3,_ | _⟩⟩⟩:=k1
  cases k1;cases k2;cases k3
  exact⟨_,_,rfl,hz.1,hz.2.1,hz.2.2.1,hz.2.2.2,q _ _ _ x1 r1 Ie⟩
 ·exact nk e⟩
structure fM [kf:KF] where
 cl:CL
 ok:Bc kf.K cl
noncomputable def Vq:fM:=⟨λ_ _=>False,⟨λ_ _ h=>h.elim⟩⟩
structure Ga [kf:KF] where
 N:List Str
 nm:List (Str×NameKind)
 fs:List (Str×Nat×MF)
 bl:List Str
 tb:List (Str×List (Str×List Int)):=[]
 cs:List (Str×Addr×Nat×MF):=[]
 ms:List (Str×Addr×Nat×MF):=[]
 ck:fM:=Vq
 dt:List Str:=[]
 em:Nat:=0
noncomputable def qm (t:List (Str×List Int))(a:ME):ME:=λσ h=>(a σ h).bind λp=>match p.1 with
 |.str z=>(t.lookup z).bind λns=>some (.iY (ns.map .int),p.2)
 |_=>none
theorem wC {ι:List Addr}{H:Hp}:∀ ns:List Int,aH ι H (ns.map .int) (ns.map V.int)
 |[]=>.nil
 |_::r=>.cons .int (wC r)
instance Pk {t:List (Str×List Int)}{te:TE}{a:ME}[A:SE te a]:SE (vm kf.K t te) (qm t a):=⟨λ{σ H Q σu ι h u h'} hs hr e q=>by
 obtain⟨⟨x,h1⟩,e1,e⟩:=bind_some e
 refine A.go hs hr e1 λι1 H1 v1 x1 r1 k1=>?_
 cases k1 with
 |str=>
  obtain⟨ns,e2,e⟩:=bind_some e
  cases e
  exact⟨_,ns,rfl,e2,λb hb=>q _ _ _ x1 r1 (.iY hb (wC ns))⟩
 |_=>first | exact nk e | cases e⟩
structure lL (K:PySem.W.Frag)(G:Ga)(X:Cx):Prop where
 hK:X.K=kf.K
 hN:X.N=G.N
 nd:X.N.Nodup
 calm:X.calm=true
 kind:X.env.scope.kind=.function
 vis:∀ x,(G.nm.lookup x=some .local\/G.nm.lookup x=some .cell\/G.nm.lookup x=some .free)->T1 X.env.scope x
 loc:∀ x,G.nm.lookup x=some .local->X.env.scope.names.lookup x=some .local
 cel:∀ x,G.nm.lookup x=some .cell->X.env.scope.names.lookup x=some .cell/\X.fn x=true
 fre:∀ x,G.nm.lookup x=some .free->X.env.scope.names.lookup x=some .cell\/X.env.scope.names.lookup x=some .free
 gl:∀ x,G.nm.lookup x=some .globalImplicit->Gl X x
 fs:∀ x n f,G.fs.lookup x=some (n,f)->∃ k ps,Kn X.prog X.w X.K X.mg X.base k x ps (oh n f)/\d3 k X.A
 bl:∀ x∈G.bl,X.mg x=none
 un:X.A.units+64<cLine
 rm:∃ k,d3 k X.A
 po:PassesOwn (model X.prog X.w) X.A X.env X.xe
 tb:∀ x t,G.tb.lookup x=some t->C9 X.prog X.w X.K X.mg x t
 cs:∀ x C n f,G.cs.lookup x=some (C,n,f)->∃ k ps fa fd,Mk X.K C fa/\dA X.prog X.w X.K X.mg X.base sx k fa fd ps (oh n f)/\d3 (k+1) X.A/\X.mg x=some (.ref C)/\Binds X.K fd ps []
 ms:∀ m C n f,G.ms.lookup m=some (C,n,f)->∃ k ps fa fd,p8 X.K C/\Meth X.K C m fa/\dA X.prog X.w X.K X.mg X.base sx k fa fd ps (oh n f)/\d3 k X.A/\Binds X.K fd ps []
def lU (K:PySem.W.Frag)(G:Ga)(e:Expr)(m:ME):Prop:=∃ t,SE t m/\∀ X,lL K G X->PE X e t
def Sm (K:PySem.W.Frag)(G:Ga)(e:Expr)(m:MT):Prop:=∃ t,ST t m/\∀ X,lL K G X->PT X e t
def Yv (K:PySem.W.Frag)(G:Ga)(es:List Expr)(m:MA):Prop:=∃ t,SA t m/\∀ X,lL K G X->PA X es t
def PB (K:PySem.W.Frag)(G:Ga)(tg e:Expr)(m:MI):Prop:=∃ t,SI t m/\∀ X,lL K G X->PI X tg e t
def Yw (K:PySem.W.Frag)(G:Ga)(e:Expr)(m:MG):Prop:=∃ t,SG t m/\∀ X,lL K G X->PG X e t
def OU (K:PySem.W.Frag)(G:Ga)(e:Stmt)(m:MS):Prop:=∃ t,SS t m/\∀ X,lL K G X->PS X e t
def TV (K:PySem.W.Frag)(G:Ga)(e:List Stmt)(m:MS):Prop:=∃ t,SS t m/\∀ X,lL K G X->xT X e t
noncomputable def bad (x:Str):Bool:=x == "__debug__" || (x == "__classdict__" || x == "__name__")
theorem zW {x:Str}(h:bad x=false):(x == ("__debug__":Str))=false/\(x == ("__classdict__":Str))=false/\x≠"__name__":=by
 unfold bad at h
 rw[Bool.or_eq_false_iff,Bool.or_eq_false_iff]at h
 exact⟨h.1,h.2.1,λe=>by rw[e]at h;exact absurd h.2.2 (by decide)⟩
noncomputable def idx (x:Str):List Str->Option Nat
 |[]=>none
 |y::r=>if x=y then some 0 else(idx x r).bind λi=>some (i+1)
theorem oF {x:Str}:∀ {N:List Str}{i:Nat},idx x N=some i->N[i]?=some x
 |[],_,e=>by cases e
 |y::r,i,e=>by
  unfold idx at e
  split at e
  ·rename_i h;cases e;rw[h];rfl
  ·obtain⟨j,e1,e2⟩:=bind_some e
   cases e2
   rw[abB]
   exact oF e1
noncomputable def JS:Option NameKind->Bool
 |some .local=>true
 |some .cell=>true
 |some .free=>true
 |_=>false
noncomputable def Ut:Option NameKind->Bool
 |some .globalImplicit=>true
 |_=>false
theorem JT {k:Option NameKind}(h:JS k=true):k=some .local\/k=some .cell\/k=some .free:=by
 unfold JS at h
 split at h<;>first | exact .inl rfl | exact .inr (.inl rfl) | exact .inr (.inr rfl) | cases h
theorem L5 {k:Option NameKind}(h:Ut k=true):k=some .globalImplicit:=by
 unfold Ut at h
 split at h
 ·rfl
 ·cases h
def Ga.slot (G:Ga)(x:Str):Option Nat:=if JS (G.nm.lookup x)=true/\bad x=false then idx x G.N else none
def Ga.glob (G:Ga)(x:Str):Bool:=Ut (G.nm.lookup x)&&!bad x
noncomputable def EI (x:Str):List Str->Bool
 |[]=>false
 |y::r=>if x=y then true else EI x r
theorem Ax {x:Str}:∀ {l:List Str},EI x l=true->x∈l
 |[],h=>by cases h
 |y::r,h=>by
  unfold EI at h
  split at h
  ·rename_i e;rw[e];exact acn
  ·exact abS _ (Ax h)
def Ga.blt (G:Ga)(x:Str):Bool:=G.glob x&&EI x G.bl
theorem nF {G:Ga}{X:Cx}(h:lL kf.K G X){x:Str}(e:G.glob x=true):Gl X x/\(x == ("__debug__":Str))=false/\x≠"__name__":=by
 unfold Ga.glob at e
 rw[abL]at e
 have hb:=zW (x:=x) (by simpa using e.2)
 exact⟨h.gl x (L5 e.1),hb.1,hb.2.2⟩
theorem mK {G:Ga}{X:Cx}(h:lL kf.K G X){x:Str}(e:G.blt x=true):Gl X x/\X.mg x=none/\(x == ("__debug__":Str))=false/\x≠"__name__":=by
 unfold Ga.blt at e
 rw[abL]at e
 obtain⟨a,b,c⟩:=nF h e.1
 exact⟨a,h.bl x (Ax e.2),b,c⟩
def J8 (G:Ga)(x:Str):Option ME:=(G.slot x).bind λi=>some (aa i)
theorem Dt {G:Ga}{x:Str}{pos:Pos}{m:ME}(e:J8 G x=some m):lU kf.K G (.Name x pos) m:=by
 obtain⟨i,e1,e⟩:=bind_some e
 cases e
 obtain⟨hv,e3⟩:=ao (show(if JS (G.nm.lookup x)=true/\bad x=false then idx x G.N else none)=some i from e1)
 have hb:=zW hv.2
 exact⟨OD i,inferInstance,λX ok=>Np (by rw[ok.hN];exact oF e3) (ok.vis x (JT hv.1)) hb.1 hb.2.1⟩
noncomputable def notStar:Expr->Bool
 |.Starred _ _=>false
 |_=>true
theorem aG {e:Expr}{es:List Expr}{env:Env}(h:notStar e=true):starEach (e::es) env=(false,eval e env)::starEach es env:=by
 cases e<;>first | rfl | cases h
theorem i6 {pos:Pos}{env:Env}:∀ {es:List Expr},es.all notStar=true->(backTo pos (starEach es env)).any (·.1)=false
 |[],_=>rfl
 |e::es,h=>by
  rw[ab7,abL]at h
  rw[aG h.1]
  show(false || (backTo pos (starEach es env)).any (·.1))=false
  rw[i6 h.2];rfl
noncomputable def jC:Expr->Bool
 |.Set _ _ _=>false
 |_=>true
theorem fJ {b:Expr}(op:CmpOp)(h:jC b=true):behindInMarks op b=false:=by
 cases b<;>first | rfl | cases h
theorem lO {e:Expr}{env:Env}(h:jC e=true):∀ x,foldedSetIterable e env x=pure x:=λx=>by
 cases e<;>first | rfl | cases h
noncomputable def nU:Expr->Bool
 |.Slice _ _ _ _=>false
 |_=>true
theorem rL {b:Expr}(h:nU b=true):zT b:=λo i=>by
 cases b<;>first | rfl | cases h
noncomputable def plainT:Expr->Bool
 |.UnaryOp .Not _ _=>false
 |.BoolOp _ _ _=>false
 |.IfExp _ _ _ _=>false
 |.Compare _ _ _ _=>false
 |_=>true
theorem Cj {e:Expr}{env:Env}(h:plainT e=true):∀ whole,isTrue e env whole=(do let v←whole;standAt e.pos;holding [v] (truthy v)):=λwhole=>by
 cases e with
 |UnaryOp op a p=>cases op<;>first | rfl | cases h
 |_=>first | rfl | cases h
structure R where
 e:Ga->Expr->Option ME
 t:Ga->Expr->Option MT
def mI (K:PySem.W.Frag)(r:R):Prop:=(∀ G e m,r.e G e=some m->lU K G e m)/\∀ G e m,r.t G e=some m->Sm K G e m
section
variable {G:Ga}{r:R}
noncomputable def cA (r:R)(G:Ga):List Expr->Option MA
 |[]=>some af
 |e::es=>if notStar e=true then(r.e G e).bind λa=>(cA r G es).bind λb=>some (ab a b) else none
theorem px (h:mI kf.K r):∀ {es:List Expr}{m:MA},cA r G es=some m->Yv kf.K G es m/\es.all notStar=true
 |[],m,e=>by cases e;exact⟨⟨rX,inferInstance,λX _=>rH⟩,rfl⟩
 |x::es,m,e=>by
  unfold cA at e
  obtain⟨hs,e⟩:=ao e
  obtain⟨a,e1,e⟩:=bind_some e
  obtain⟨b,e2,e⟩:=bind_some e
  cases e
  obtain⟨ta,sa,pa⟩:=h.1 G x a e1
  obtain⟨⟨tb,sb,pb⟩,hb⟩:=px h e2
  exact⟨⟨nY ta tb,inferInstance,λX ok=>jD (pa X ok) (pb X ok) (aG hs)⟩,by rw[ab7,hs,hb];rfl⟩
noncomputable def Vv:Operator->Option M2
 |.Add=>some aI
 |.Sub=>some rW
 |.Mult=>some (d7 ik dU)
 |.Mod=>some jO
 |.FloorDiv=>some tE
 |.Pow=>some Fg
 |_=>none
theorem MY {op:Operator}{g:M2}(e:Vv op=some g):∃ q,SO q g/\∀ X:Cx,X.K=kf.K->lV X (binaryOp op) q:=by
 cases op<;>first
  |(cases e;exact⟨_,Od,λX _=>II⟩)
  |(cases e;exact⟨_,RO (f:=λi j=>i-j),λX _=>Na⟩)
  |(cases e;exact⟨λx y H Q=>rI CZ (λi j=>.int (i*j)) x y H Q\/Fy kf.K x y H Q,RP (A:=Og) (B:=Jv),λX hK=>M7.or (hK▸IM)⟩)
  |(cases e;exact⟨_,Of,λX _=>M6⟩)
  |(cases e;exact⟨_,Ju,λX _=>IL⟩)
  |(cases e;exact⟨_,Oh,λX _=>M9⟩)
  |cases e
def LH:CmpOp->Option M2
 |.Eq=>some (c6 false)
 |.NotEq=>some (c6 true)
 |.Lt=>some QW
 |.LtE=>some Vi
 |.Gt=>some Sx
 |.GtE=>some Us
 |.Is=>some (oG false)
 |_=>none
theorem Hv {op:CmpOp}{g:M2}(e:LH op=some g):∃ q,SO q g/\∀ X:Cx,X.A.units+64<cLine->lV X (compareOp op) q:=by
 cases op<;>first
  |(cases e;exact⟨_,Le,λX hu=>M4 hu⟩)
  |(cases e;exact⟨_,Le,λX hu=>M8 hu⟩)
  |(cases e;exact⟨_,AR (f:=λi j=>decide (i<j)),λX _=>Q9⟩)
  |(cases e;exact⟨_,AR (f:=λi j=>decide (i<=j)),λX _=>Q8⟩)
  |(cases e;exact⟨_,AR (f:=λi j=>decide (j<i)),λX _=>Q7⟩)
  |(cases e;exact⟨_,AR (f:=λi j=>decide (j<=i)),λX _=>Q6⟩)
  |(cases e;exact⟨_,Oe,λX _=>M5⟩)
  |cases e
end
section
def xJ (t u:TE):TE:=λσ H Q=>t σ H Q\/u σ H Q
def R5 (t u:TT):TT:=λσ H Q=>t σ H Q\/u σ H Q
def JF (t u:TS):TS:=λD σ H=>t D σ H\/u D σ H
theorem xm (a:PE X e t)(b:PE X e u):PE X e (xJ t u):=λpins s σ H Q I h=>h.elim (a pins s σ H Q I) (b pins s σ H Q I)
theorem KZ (a:PT X e t)(b:PT X e u):PT X e (R5 t u):=λpins s σ H Q I h=>h.elim (a pins s σ H Q I) (b pins s σ H Q I)
theorem KY (a:PS X e t)(b:PS X e u):PS X e (JF t u):=λpins s σ H D I h=>h.elim (a pins s σ H D I) (b pins s σ H D I)
def ah (a b:ME):ME:=λσ h=>(a σ h).bind λp=>(b σ p.2).bind λq=>if aZ q.2 p.1=true then(bP q.2 p.1 q.1).bind λo=>o.bind λu=>some (u,q.2) else sJ p.1 q.1 q.2
theorem N5 (A:SE ta a)(B:SE tb b):SE (xJ (Gg ta tb) (CY (Rn kf.K) ta tb)) (ah a b):=⟨λ{σ H Q σu ι h u h'} hs hr e q=>by
 obtain⟨⟨x,h1⟩,e1,e2⟩:=bind_some e
 obtain⟨⟨y,h2⟩,e3,e4⟩:=bind_some e2
 by_cases c:aZ h2 x=true
 ·rw[abr c]at e4
  exact .inl ((Jq (td:=ta) (ty:=tb)).go hs hr (show ED a b σu h=some (u,h') by unfold ED;rw[e1];show(b σu h1).bind _=_;rw[e3];exact e4) q)
 ·rw[abo c]at e4
  exact .inr ((AO (r:=Rn kf.K) (ta:=ta) (tb:=tb)).go hs hr (show ay sJ a b σu h=some (u,h') by unfold ay;rw[e1];show(b σu h1).bind _=_;rw[e3];exact e4) q)⟩
def dS (neg:Bool)(a b:ME):ME:=λσ h=>(a σ h).bind λp=>(b σ p.2).bind λq=>if aZ q.2 q.1=true then(bP q.2 q.1 p.1).bind λo=>some (.bl (if neg then !o.isSome else o.isSome),q.2) else Ak neg p.1 q.1 q.2
theorem N2 (A:SE ta a)(B:SE tb b):SE (xJ (Ot ta tb) (CY (zj false) ta tb)) (dS false a b):=⟨λ{σ H Q σu ι h u h'} hs hr e q=>by
 obtain⟨⟨x,h1⟩,e1,e2⟩:=bind_some e
 obtain⟨⟨y,h2⟩,e3,e4⟩:=bind_some e2
 by_cases c:aZ h2 y=true
 ·rw[abr c]at e4
  exact .inl ((N0 (ty:=ta) (td:=tb)).go hs hr (show BY false a b σu h=some (u,h') by unfold BY;rw[e1];show(b σu h1).bind _=_;rw[e3];exact e4) q)
 ·rw[abo c]at e4
  exact .inr ((AO (r:=zj false) (ta:=ta) (tb:=tb)).go hs hr (show ay (Ak false) a b σu h=some (u,h') by unfold ay;rw[e1];show(b σu h1).bind _=_;rw[e3];exact e4) q)⟩
theorem Cr (A:SE ta a)(B:SE tb b):SE (xJ (vk ta tb) (CY (zj true) ta tb)) (dS true a b):=⟨λ{σ H Q σu ι h u h'} hs hr e q=>by
 obtain⟨⟨x,h1⟩,e1,e2⟩:=bind_some e
 obtain⟨⟨y,h2⟩,e3,e4⟩:=bind_some e2
 by_cases c:aZ h2 y=true
 ·rw[abr c]at e4
  exact .inl ((Cq (ty:=ta) (td:=tb)).go hs hr (show BY true a b σu h=some (u,h') by unfold BY;rw[e1];show(b σu h1).bind _=_;rw[e3];exact e4) q)
 ·rw[abo c]at e4
  exact .inr ((AO (r:=zj true) (ta:=ta) (tb:=tb)).go hs hr (show ay (Ak true) a b σu h=some (u,h') by unfold ay;rw[e1];show(b σu h1).bind _=_;rw[e3];exact e4) q)⟩
theorem F7 (A:SE (xJ t u) m):ST (R5 (tB t) (tB u)) (mB m):=⟨λ{σ H Q σu ι h b h'} hs hr e q=>by
 obtain⟨⟨x,h1⟩,e1,e2⟩:=bind_some e
 refine A.go (Q:=λx H1=>∃ c,x=.bl c/\Q c H1) hs hr e1 λι1 H1 v1 x1 r1 k1=>?_
 cases k1 with
 |bl=>cases e2;exact⟨_,rfl,q _ _ x1 r1⟩
 |_=>cases e2⟩
def Lz (op:CmpOp)(a b:ME):Option ME:=match op with
 |.In=>some (dS false a b)
 |.NotIn=>some (dS true a b)
 |op=>(LH op).bind λg=>some (ay g a b)
theorem zY (ha:lU kf.K G x a)(hb:lU kf.K G y b)(hs:jC y=true)(e:Lz op a b=some m):lU kf.K G (.Compare x [op] [y] pos) m/\Sm kf.K G (.Compare x [op] [y] pos) (mB m):=by
 obtain⟨ta,sa,pa⟩:=ha
 obtain⟨tb,sb,pb⟩:=hb
 have other:((LH op).bind λg=>some (ay g a b))=some m->lU kf.K G (.Compare x [op] [y] pos) m/\Sm kf.K G (.Compare x [op] [y] pos) (mB m):=λe=>by
  obtain⟨g,e1,e2⟩:=bind_some e
  cases e2
  obtain⟨q,so,hq⟩:=Hv e1
  have s1:SE (CY q ta tb) (ay g a b):=AO (G:=so) (A:=sa) (B:=sb)
  exact⟨⟨CY q ta tb,s1,λX ok=>u4 (hq X ok.un) (pa X ok) (pb X ok) (fJ op hs)⟩,⟨Gn (CY q ta tb),JA (A:=s1),λX ok=>u7 (hq X ok.un) (pa X ok) (pb X ok) (fJ op hs)⟩⟩
 cases op with
 |In=>
  cases e
  have s1:=N2 (ta:=ta) (tb:=tb) sa sb
  refine⟨⟨_,s1,λX ok=>xm (E3 (EW ok.un (pa X ok) (pb X ok)) (fJ _ hs)) (u4 (ET ok.un) (pa X ok) (pb X ok) (fJ _ hs))⟩,⟨_,F7 s1,λX ok=>?_⟩⟩
  exact KZ (Fq (EW ok.un (pa X ok) (pb X ok)) (fJ _ hs)) (u7 (ET ok.un) (pa X ok) (pb X ok) (fJ _ hs))
 |NotIn=>
  cases e
  have s1:=Cr (ta:=ta) (tb:=tb) sa sb
  refine⟨⟨_,s1,λX ok=>xm (E3 (tZ ok.un (pa X ok) (pb X ok)) (fJ _ hs)) (u4 (tX ok.un) (pa X ok) (pb X ok) (fJ _ hs))⟩,⟨_,F7 s1,λX ok=>?_⟩⟩
  exact KZ (Fq (tZ ok.un (pa X ok) (pb X ok)) (fJ _ hs)) (u7 (tX ok.un) (pa X ok) (pb X ok) (fJ _ hs))
 |_=>exact other e
def vR (G:Ga)(x:Str):Option MG:=match G.nm.lookup x with
 |some .local=>(idx x G.N).bind λi=>some (nName i)
 |some .cell=>(idx x G.N).bind λi=>some (nName i)
 |_=>none
theorem z6 (e:vR G x=some m):∃ i,m=nName i/\SG (nu i) m/\∀ X,lL kf.K G X->PG X (.Name x pos) (nu i):=by
 unfold vR at e
 split at e
 ·rename_i hl
  obtain⟨i,e1,e2⟩:=bind_some e
  cases e2
  exact⟨i,rfl,inferInstance,λX ok=>AE ok.nd (by rw[ok.hN];exact oF e1) (.inl (ok.loc x hl)) (.inr (ok.loc x hl))⟩
 ·rename_i hl
  obtain⟨i,e1,e2⟩:=bind_some e
  cases e2
  obtain⟨c1,c2⟩:=And.intro (λX ok=>(lL.cel (G:=G) (X:=X) ok x hl).1) (λX ok=>(lL.cel (G:=G) (X:=X) ok x hl).2)
  exact⟨i,rfl,inferInstance,λX ok=>AE ok.nd (by rw[ok.hN];exact oF e1) (.inr (c1 X ok)) (.inl (c2 X ok))⟩
 ·cases e
noncomputable def LC (G:Ga):List Expr->Option G6
 |[]=>some fV
 |.Name x _::es=>(vR G x).bind λg=>(LC G es).bind λgs=>some (aM g gs)
 |_=>none
theorem z7:∀ {es}{m:G6},LC G es=some m->∃ t,PH t m/\∀ X,lL kf.K G X->PD X es t/\(assignEach es X.env).length=es.length/\(assignEach es X.env).findIdx? (·.1)=none
 |[],m,e=>by cases e;exact⟨L1,inferInstance,λX _=>⟨IV,rfl,rfl⟩⟩
 |a::es,m,e=>by
  cases a<;>first | exact nk e | skip
  rename_i x p
  obtain⟨g,e1,e2⟩:=bind_some (show(vR G x).bind _=some _ from e)
  obtain⟨gs,e3,e4⟩:=bind_some e2
  cases e4
  obtain⟨i,rfl,sg,pg⟩:=z6 (pos:=p) e1
  obtain⟨t,st,pt⟩:=z7 e3
  refine⟨DW (nu i) t,inferInstance,λX ok=>?_⟩
  obtain⟨h1,h2,h3⟩:=pt X ok
  refine⟨Fd (pg X ok) h1,?_,?_⟩
  ·show(assignEach es X.env).length+1=_;rw[h2];rfl
  ·show List.findIdx? (·.1) ((false,_)::assignEach es X.env)=none
   rw[List.findIdx?_cons,h3];rfl
def P4 (G:Ga):Expr->Option MG
 |.Name x _=>vR G x
 |.Tuple es _ _=>(LC G es).bind λgs=>some (fW es.length gs)
 |_=>none
theorem yi (h:P4 G e=some m):Yw kf.K G e m:=by
 unfold P4 at h
 split at h
 ·obtain⟨i,_,sg,pg⟩:=z6 h
  exact⟨_,sg,pg⟩
 ·obtain⟨gs,e1,e2⟩:=bind_some h
  cases e2
  obtain⟨t,st,pt⟩:=z7 e1
  refine⟨L3 kf.K _ t,inferInstance,λX ok=>?_⟩
  obtain⟨h1,h2,h3⟩:=pt X ok
  rw[<-ok.hK]
  exact Nr ok.calm h1 h2 h3
 ·cases h
noncomputable def Em:Expr->Bool
 |.Tuple _ _ _=>true
 |_=>false
def cI (r:R)(G:Ga)(tg e:Expr):Option MI:=match e with
 |.Call (.Name x _) args [] _=>if x = "enumerate" then(match args with
   |[a]=>if G.blt "enumerate" = true/\Em tg=true then(cA r G [a]).bind λm=>some (yV m) else none
   |_=>none) else if x = "range" then(match args with
   |[a]=>if G.blt "range" = true then(cA r G [a]).bind λm=>some (bQ m) else none
   |[a,b,c]=>if G.blt "range" = true then(cA r G [a,b,c]).bind λm=>some (rq m) else none
   |_=>none) else(r.e G e).bind λa=>some (aD a)
 |e=>(r.e G e).bind λa=>some (aD a)
theorem FX (h:mI kf.K r)(q:((r.e G e).bind λa=>some (aD a))=some m):PB kf.K G tg e m:=by
 obtain⟨a,e1,e2⟩:=bind_some q
 cases e2
 obtain⟨t,st,pt⟩:=h.1 G e a e1
 exact⟨Mg kf.K t,inferInstance,λX ok=>by rw[<-ok.hK];exact Nu (pt X ok)⟩
theorem Dn (h:mI kf.K r)(q:cI r G tg e=some m):PB kf.K G tg e m:=by
 unfold cI at q
 split at q
 ·rename_i x p args pos
  split at q
  ·rename_i hx
   subst hx
   split at q
   ·rename_i a
    obtain⟨⟨hb,ht⟩,q⟩:=ao q
    obtain⟨ma,e1,e2⟩:=bind_some q
    cases e2
    obtain⟨⟨t,st,pt⟩,hs⟩:=px h e1
    cases tg with
    |Tuple elts k p0=>
     refine⟨Mf kf.K t,inferInstance,λX ok=>?_⟩
     obtain⟨g1,g2,_,_⟩:=mK ok hb
     rw[ab7,abL]at hs
     rw[<-ok.hK]
     exact Nt g2 (pt X ok) g1 (aG hs.1)
    |_=>cases ht
   ·cases q
  split at q
  ·rename_i _ hx
   subst hx
   split at q
   ·rename_i a
    obtain⟨hb,q⟩:=ao q
    obtain⟨ma,e1,e2⟩:=bind_some q
    cases e2
    obtain⟨⟨t,st,pt⟩,hs⟩:=px h e1
    refine⟨Ef t,inferInstance,λX ok=>?_⟩
    obtain⟨g1,g2,_,_⟩:=mK ok hb
    rw[ab7,abL]at hs
    exact Cf g1 g2 (pt X ok) (aG hs.1)
   ·rename_i a b c
    obtain⟨hb,q⟩:=ao q
    obtain⟨ma,e1,e2⟩:=bind_some q
    cases e2
    obtain⟨⟨t,st,pt⟩,hs⟩:=px h e1
    refine⟨Eg t,Js st,λX ok=>?_⟩
    obtain⟨g1,g2,_,_⟩:=mK ok hb
    rw[ab7,ab7,ab7,abL,abL,abL]at hs
    exact Cg g2 (pt X ok) g1 (aG hs.1) (by rw[aG hs.2.1,aG hs.2.2.1];rfl)
   ·cases q
  ·exact FX h q
 ·exact FX h q
end
end S
namespace L2
open PySem
theorem Bz (hd:(d == sysModules)=false)(jN:o.data=.dict es ep) :
  MeetsIn prog w (Builtin.«dict.__len__» ⟨[.ref d],[]⟩) λ_ R s=>s.heap.get? d=some o/\R (.ok (.ret (.int es.size s.toks))) {s with toks:=s.toks+1}:=
 MeetsIn.of_wp λA R s ⟨ho,h⟩=>by
  show wpAny _ _ (dictSize d >>= λn=>Builtin.Dict.pendingCount d >>= λm=>retInt ((n:Int)+(m:Int))) _ _ _
  refine abk (abk (wpAny_dictEntries ho jN (abm (abk (wpAny_pendingCount_other hd (wpAny_ret_mkInt ?_))))))
  have e:((es.size:Int)+((0:Nat):Int))=es.size:=by simp
  rw[e]
  exact h
theorem BV {E:Value->Shared->Prop}{Q:Value->Shared->Prop}(hd:(d == sysModules)=false)(ho:s.heap.get? d=some o)(hc:o.cls=.type "dict")(jN:o.data=.dict es ep)(Zg:(es.size:Int)<2 ^ 63)
  (h:Q (.int es.size (s.toks+1)) {s with toks:=s.toks+1+1}):wpAny (model prog w) A (call (.builtin "len") [.ref d]) Q E s:=by
 refine Calls.call_function_entry kind_len plain_len entry_len (args_len1 (.ref d)) (abk (abm (abk (acu ⟨_,ho,hc⟩ F.slot_dict_len (call_meetsIn F.slot_dict_len ⟨_,ho,hc⟩ F.entry_dict_len (F.args_dict_len_1 (.ref d)) (Bz hd jN) ⟨ho,?_⟩)))))
 refine abk (wpAny_holding (abm (abk (wpAny_letGo ?_))))
 refine acw (by rw[decide_eq_false_iff_not];lia) (acw (by rw[decide_eq_false_iff_not];lia) ?_)
 exact abk (wpAny_mkInt (abm ⟨_,rfl,h⟩))
section
def K4:List V->Hp->VK->Prop:=λxs H Q=>∃ a kvs,xs=[.ref a]/\Rd H a (.dT kvs)/\Q (.int kvs.length) H
theorem Bs:eC X (.builtin "len") K4:=by
 intro pins s σ H xs us Q I r h
 obtain⟨a,kvs,rfl,ha,q⟩:=h
 obtain⟨u,rfl,ru⟩:=vals1 r
 cases ru
 obtain⟨z,hd,vs,rel,dd⟩:=qI I.hok ha
 obtain⟨o,es,ep,ho,hc,jN,he,_⟩:=dd
 have el:es.size=kvs.length:=by rw[<-Array.length_toList,he,ab1,rel.length]
 refine BV hd ho hc.1 jN (by rw[el];rw[ab0]at z;lia) ?_
 rw[el]
 exact⟨.int kvs.length,H,I.tok _,⟨_,rfl⟩,q⟩
end
end L2
namespace S
open PySem L2
variable [kf:KF]
noncomputable def cN:MF:=λus h=>match us with
 |[.ref n]=>match h[n]? with
  |some (.dT kvs)=>some (.int kvs.length,h)
  |_=>none
 |[.dT kvs]=>some (.int kvs.length,h)
 |_=>none
theorem Jn:SC K4 cN:=⟨λ{xs H Q us ι h u h'} hr k e q=>by
 rcases us with _ | ⟨u1,_ | ⟨u2,_⟩⟩
 ·cases e
 rotate_left
 ·cases u1<;>exact nk e
 obtain _ | ⟨k1,_ | _⟩:=k
 cases k1 with
 |dT na ha ek ks=>cases e;refine⟨_,_,rfl,.inl ha,?_⟩;rw[<-(aX.of ek ks).length];exact q _ _ _ .refl hr .int
 |@ref n a hn=>
  unfold cN at e
  dsimp only at e
  cases eo:h[n]? with
  |none=>rw[eo]at e;cases e
  |some o=>
   rw[eo]at e
   have mo:=hr.ref hn eo
   cases o with
   |dT kvs=>cases e;obtain⟨vs,z,r⟩:=mo;refine⟨_,_,rfl,.inl z,?_⟩;rw[<-r.length];exact q _ _ _ .refl hr .int
   |_=>first | exact nk e | cases e
 |_=>first | exact nk e | cases e⟩
noncomputable def zG (h:MH):U->Option String
 |.aq=>some "NoneType"
 |.bl _=>some "bool"
 |.int _=>some "int"
 |.str _=>some "str"
 |.tup _=>some "tuple"
 |.lst _=>some "list"
 |.dK _=>some "dict"
 |.dT _=>some "dict"
 |.eA _=>none
 |.iY _=>none
 |.ref n=>match h[n]? with
  |some (.lst _)=>some "list"
  |some (.dK _)=>some "dict"
  |some (.dT _)=>some "dict"
  |_=>none
noncomputable def yM (A T:String):Bool:=A == T || (A == "bool"&&T == "int")
noncomputable def tags:List String:=["NoneType","bool","int","str","tuple","list","dict"]
noncomputable def JQ:List String:=["bool","int","str","tuple","list","dict"]
theorem Au (K:PySem.W.Frag):∀ A∈tags,∀ T∈JQ,PySem.W.kitOne K (.type A) (.type T)=some (yM A T):=by
 intro A hA T hT
 simp only[tags,JQ,abW,List.not_mem_nil,or_false]at hA hT
 rcases hA with rfl | rfl | rfl | rfl | rfl | rfl | rfl<;>rcases hT with rfl | rfl | rfl | rfl | rfl | rfl<;>first | rfl | decide +kernel
theorem Gq (hr:aE ι H h)(k:Rel ι H u v)(e:zG h u=some A):mJ kf.K H v (.type A)/\A∈tags:=by
 cases k with
 |aq=>cases e;exact⟨.aq,by decide⟩
 |bl=>cases e;exact⟨.bl _,by decide⟩
 |int=>cases e;exact⟨.int _,by decide⟩
 |str=>cases e;exact⟨.str _,by decide⟩
 |tup ha ks=>cases e;exact⟨.tup ha,by decide⟩
 |lst na ha ks=>cases e;exact⟨.lst ha,by decide⟩
 |dK na ha ek ks=>cases e;exact⟨.dK ha,by decide⟩
 |dT na ha ek ks=>cases e;exact⟨.dT ha,by decide⟩
 |eA _ _=>cases e
 |iY _ _=>cases e
 |@ref n a hn=>
  unfold zG at e
  dsimp only at e
  cases eo:h[n]? with
  |none=>rw[eo]at e;cases e
  |some o=>
   rw[eo]at e
   have mo:=hr.ref hn eo
   cases o with
   |lst us=>cases e;obtain⟨vs,q,r⟩:=mo;exact⟨.lst q,by decide⟩
   |dK us=>cases e;obtain⟨vs,q,r⟩:=mo;exact⟨.dK q,by decide⟩
   |dT us=>cases e;obtain⟨vs,q,r⟩:=mo;exact⟨.dT q,by decide⟩
   |fT kvs=>cases e
   |ins C fs=>cases e
def uU (T:String)(a:ME):ME:=λσ h=>(a σ h).bind λp=>(zG p.2 p.1).bind λA=>some (.bl (yM A T),p.2)
theorem N4 (hT:T∈JQ)(A:SE t a):SE (xJ (Ov true T t kf.K) (Ov false T t kf.K)) (uU T a):=⟨λ{σ H Q σu ι h u h'} hs hr e q=>by
 obtain⟨⟨x,h1⟩,e1,e2⟩:=bind_some e
 obtain⟨B,e3,e4⟩:=bind_some e2
 cases e4
 cases c:yM B T with
 |true=>
  refine .inl (A.go hs hr e1 λι1 H1 v1 x1 r1 k1=>?_)
  obtain⟨ty,hB⟩:=Gq r1 k1 e3
  exact⟨rfl,⟨_,ty,by rw[Au kf.K B hB T hT,c]⟩,by rw[<-c];exact q _ _ _ x1 r1 .bl⟩
 |false=>
  refine .inr (A.go hs hr e1 λι1 H1 v1 x1 r1 k1=>?_)
  obtain⟨ty,hB⟩:=Gq r1 k1 e3
  exact⟨rfl,⟨_,ty,by rw[Au kf.K B hB T hT,c]⟩,by rw[<-c];exact q _ _ _ x1 r1 .bl⟩⟩
section
noncomputable def GA (c:Str):Option String:=if c = "int" then some "int" else if c = "str" then some "str" else if c = "tuple" then some "tuple" else if c = "list" then some "list" else if c = "dict" then some "dict" else if c = "bool" then some "bool" else none
theorem Bk:bootBuiltins "str" = some (.type "str"):=by decide +kernel
theorem yb:bootBuiltins "bool" = some (.type "bool"):=by decide +kernel
theorem GB (e:GA c=some T):T∈JQ/\bootBuiltins c=some (.type T):=by
 unfold GA at e
 split at e
 ·rename_i h;cases e;subst h;exact⟨by decide,PyProof.Rows.boot_int⟩
 split at e
 ·rename_i h;cases e;subst h;exact⟨by decide,Bk⟩
 split at e
 ·rename_i h;cases e;subst h;exact⟨by decide,PyProof.Rows.boot_tuple⟩
 split at e
 ·rename_i h;cases e;subst h;exact⟨by decide,PyProof.Rows.boot_list⟩
 split at e
 ·rename_i h;cases e;subst h;exact⟨by decide,PyProof.Rows.boot_dict⟩
 split at e
 ·rename_i h;cases e;subst h;exact⟨by decide,yb⟩
 ·cases e
def P2 (r:R)(G:Ga)(e:Expr)(c:Str):Option ME:=if G.blt "isinstance" = true/\G.blt c=true/\notStar e=true then(GA c).bind λT=>(r.e G e).bind λa=>some (uU T a) else none
theorem Hq (h:mI kf.K r)(q:P2 r G e c=some m):lU kf.K G (.Call (.Name "isinstance" p) [e,.Name c p2] [] pos) m:=by
 obtain⟨⟨b1,b2,b3⟩,q⟩:=ao q
 obtain⟨T,e1,q⟩:=bind_some q
 obtain⟨a,e2,q⟩:=bind_some q
 cases q
 obtain⟨hT,hb⟩:=GB e1
 obtain⟨t,st,pt⟩:=h.1 G e a e2
 refine⟨_,N4 hT st,λX ok=>?_⟩
 obtain⟨g1,g2,_,_⟩:=mK ok b1
 obtain⟨g3,g4,g5,g6⟩:=mK ok b2
 rw[<-ok.hK]
 exact xm (E8 (pt X ok) g2 g4 hb g1 g3 g6 g5 (aG b3)) (E8 (pt X ok) g2 g4 hb g1 g3 g6 g5 (aG b3))
def Ly (x:Str):Option MF:=
 if x = "len" then some (iG eV cN) else if x = "list" then some (iG eW mT) else if x = "tuple" then some cp else if x = "int" then some Ej else if x = "all" then some Hg else if x = "dict" then some nc else none
theorem Bt:eC X (.builtin "len") (Rt X.K):=uy.or (uz.or Br)
theorem Hm (q:Ly x=some f)(st:SA t m)(pt:∀ X,lL kf.K G X->PA X (e::es) t)(hb:G.blt x=true)(hs:(e::es).all notStar=true) :
  lU kf.K G (.Call (.Name x p) (e::es) [] pos) (ig f m):=by
 rw[ab7,abL]at hs
 have go:∀ {rr:List V->Hp->VK->Prop}{id:String},SC rr f->bootBuiltins x=some (.builtin id)->(∀ X,lL kf.K G X->eC X (.builtin id) rr)->lU kf.K G (.Call (.Name x p) (e::es) [] pos) (ig f m):=λ{rr id} sc hv hc=>
  ⟨R0 rr t,La (F:=sc) (A:=st),λX ok=>let ⟨g1,g2,g3,g4⟩:=mK ok hb;E2 (hc X ok) g1 g2 hv (pt X ok) g4 g3 (aG hs.1) (i6 hs.2)⟩
 have Sw:∀ {rr:List V->Hp->VK->Prop}{id:String},SC rr f->bootBuiltins x=some (.type id)->(∀ X,lL kf.K G X->eC X (.type id) rr)->lU kf.K G (.Call (.Name x p) (e::es) [] pos) (ig f m):=λ{rr id} sc hv hc=>
  ⟨R0 rr t,La (F:=sc) (A:=st),λX ok=>let ⟨g1,g2,g3,g4⟩:=mK ok hb;B9 (hc X ok) g1 g2 hv (pt X ok) g4 g3 (aG hs.1) (i6 hs.2)⟩
 unfold Ly at q
 split at q
 ·rename_i h;cases q;subst h;exact go (K9 NX Jn) PySem.boot_len λX ok=>by rw[<-ok.hK];exact Bt.or Bs
 split at q
 ·rename_i h;cases q;subst h;exact Sw (K9 Jo FP) PyProof.Rows.boot_list λX ok=>by rw[<-ok.hK];exact uA.or (yk ok.calm)
 split at q
 ·rename_i h;cases q;subst h;exact Sw (NY) PyProof.Rows.boot_tuple λX ok=>by rw[<-ok.hK];exact sC
 split at q
 ·rename_i h;cases q;subst h;exact Sw NW PyProof.Rows.boot_int λX ok=>Bq
 split at q
 ·rename_i h;cases q;subst h;exact go (NV) PyProof.Rows.boot_all λX ok=>by rw[<-ok.hK];exact qD ok.calm
 split at q
 ·rename_i h;cases q;subst h;exact Sw Jm PyProof.Rows.boot_dict λX ok=>yj ok.calm
 ·cases q
def Dg (r:R)(G:Ga)(x:Str)(args:List Expr):Option ME:=match args with
 |[]=>if G.glob x=true then(match G.cs.lookup x with
   |some (C,n,f)=>some (lA C n f af)
   |none=>none) else none
 |e::es=>(cA r G (e::es)).bind λm=>if G.glob x=true then(match G.fs.lookup x with
   |some (n,f)=>some (au n f m)
   |none=>match G.cs.lookup x with
    |some (C,n,f)=>some (lA C n f m)
    |none=>if G.blt x=true then(Ly x).bind λf=>some (ig f m) else none) else none
theorem Dh (h:mI kf.K r)(q:Dg r G x args=some m):lU kf.K G (.Call (.Name x p) args [] pos) m:=by
 unfold Dg at q
 split at q
 ·obtain⟨hg,q⟩:=ao q
  split at q
  ·rename_i C n f hl
   cases q
   refine⟨xH C (oh n f) [] E0 rX,inferInstance,λX ok=>?_⟩
   obtain⟨k,ps,fa,fd,M,F,hr,hm,hb⟩:=ok.cs x C n f hl
   obtain⟨g1,g2,_⟩:=nF ok hg
   exact E9 M F hr g1 hm hb .nil xj g2
  ·cases q
 ·rename_i e es
  obtain⟨a,e1,q⟩:=bind_some q
  obtain⟨hg,q⟩:=ao q
  obtain⟨⟨t,st,pt⟩,hs⟩:=px h e1
  split at q
  ·rename_i n f hl
   cases q
   have hs':=hs
   rw[ab7,abL]at hs'
   refine⟨AW (oh n f) [] E0 t,inferInstance,λX ok=>?_⟩
   obtain⟨k,ps,G1,hr⟩:=ok.fs x n f hl
   obtain⟨g1,g2,_⟩:=nF ok hg
   exact Rc G1 hr (pt X ok) g1 g2 (aG hs'.1) (i6 hs'.2)
  ·split at q
   ·rename_i C n f hl
    cases q
    have hs':=hs
    rw[ab7,abL]at hs'
    refine⟨xH C (oh n f) [] E0 t,inferInstance,λX ok=>?_⟩
    obtain⟨k,ps,fa,fd,M,F,hr,hm,hb⟩:=ok.cs x C n f hl
    obtain⟨g1,g2,_⟩:=nF ok hg
    exact IU M F hr g1 hm hb .nil xj (pt X ok) g2 (aG hs'.1) (i6 hs'.2)
   ·obtain⟨hb,q⟩:=ao q
    obtain⟨f,e2,q⟩:=bind_some q
    cases q
    exact Hm e2 st pt hb hs
noncomputable def eZ:Expr->Bool
 |.Call _ (_::_) _ _=>true
 |.Call _ _ _ _=>false
 |_=>true
theorem dC (h:eZ o=true):attributeBase o f env (eval o env)=eval o env:=by
 cases o with
 |Call g args XD p=>
  cases args with
  |nil=>cases h
  |cons a as=>cases g<;>rfl
 |_=>rfl
noncomputable def KC (x:Str):Option (U->List U->MH->Option (U×MH)):=if x = "append" then some aV else if x = "extend" then some gD else none
noncomputable def KA (x:Str):Option (U->List U->MH->Option (U×MH)):=if x = "pop" then some mV else if x = "reverse" then some i5 else none
def Dq (r:R)(G:Ga)(a:ME)(x:Str)(e:Expr):Option ME:=if notStar e=true then(KC x).bind λg=>(r.e G e).bind λb=>some (i9 g a (ab b af)) else none
def J9 (r:R)(G:Ga)(a:ME)(e:Expr):Option ME:=if notStar e=true then(r.e G e).bind λb=>some (oM a b) else none
def P1 (r:R)(G:Ga)(a:ME)(e f:Expr):Option ME:=if notStar e=true/\notStar f=true then(r.e G e).bind λb=>(r.e G f).bind λc=>some (i9 qh a (ab b (ab c af))) else none
def Dr (r:R)(G:Ga)(a:ME)(x:Str)(args:List Expr):Option ME:=match args with
 |[]=>(KA x).bind λg=>some (i9 g a af)
 |[e]=>if x = "pop" then J9 r G a e else Dq r G a x e
 |[e,f]=>if x = "insert" then P1 r G a e f else none
 |_=>none
def LA (r:R)(G:Ga)(a:ME)(x:Str)(args:List Expr)(C:Addr)(n:Nat)(f:MF):Option ME:=match args with
 |[]=>some (bJ C x n f a af)
 |e::es=>if (e::es).length<29 then(cA r G (e::es)).bind λm=>some (bJ C x n f a m) else none
def J7 (r:R)(G:Ga)(o:Expr)(x:Str)(args:List Expr)(apos b7:Pos):Option ME:=
 if (apos.endLine == b7.line)=true/\eZ o=true then(r.e G o).bind λa=>match G.ms.lookup x with
  |some (C,n,f)=>LA r G a x args C n f
  |none=>Dr r G a x args else none
theorem xu:∀ {es},es.all notStar=true->(backTo pos (starEach es env)).all (λx=>!x.1)=true
 |[],_=>rfl
 |e::es,h=>by
  rw[ab7,abL]at h
  rw[aG h.1]
  show(true&&(backTo pos (starEach es env)).all (λx=>!x.1))=true
  rw[xu h.2];rfl
theorem Hr (h:mI kf.K r)(hl:(apos.endLine == b7.line)=true)(hn:eZ o=true)(ho:lU kf.K G o a)(SK:G.ms.lookup x=some (C,n,f))(q:LA r G a x args C n f=some m):lU kf.K G (.Call (.Attribute o x apos) args [] b7) m:=by
 obtain⟨t,st,pt⟩:=ho
 unfold LA at q
 split at q
 ·cases q
  refine⟨xI C x (oh n f) [] E0 t rX,inferInstance,λX ok=>?_⟩
  obtain⟨k,ps,fa,fd,c,hm,F,hr,hb⟩:=ok.ms x C n f SK
  exact Ca (pt X ok) c hm F hr hb .nil xj (dC hn) hl
 ·rename_i e es
  obtain⟨hlen,q1⟩:=ao q
  obtain⟨b,e2,q2⟩:=bind_some q1
  cases q2
  obtain⟨⟨tb,sb,pb⟩,hs⟩:=px h e2
  refine⟨xI C x (oh n f) [] E0 t tb,inferInstance,λX ok=>?_⟩
  obtain⟨k,ps,fa,fd,c,hm,F,hr,hb⟩:=ok.ms x C n f SK
  have hs':=hs
  rw[ab7,abL]at hs'
  refine Fb (pt X ok) c hm F hr hb .nil xj (pb X ok) (dC hn) ?_ hl (aG hs'.1) (i6 hs'.2)
  rw[xu hs]
  show(true&&true&&decide ((e::es).length+0+0<30))=true
  rw[decide_eq_true (by lia)];rfl
theorem Bo (h:mI kf.K r)(hl:(apos.endLine == b7.line)=true)(hn:eZ o=true)(ho:lU kf.K G o a)(q:Dq r G a x e=some m):lU kf.K G (.Call (.Attribute o x apos) [e] [] b7) m:=by
 obtain⟨t,st,pt⟩:=ho
 obtain⟨hs,q1⟩:=ao q
 obtain⟨g,e2,q2⟩:=bind_some q1
 obtain⟨b,e3,q3⟩:=bind_some q2
 cases q3
 obtain⟨tb,sb,pb⟩:=h.1 G e b e3
 have GO:∀ (X:Cx),((backTo b7 (starEach [e] X.env)).all (λx=>!x.1)&&(backToKw b7 (keywordEach [] X.env)).all (λx=>x.1.isSome)&&decide (([e]:List Expr).length+([]:List Keyword).length+(if ([]:List Keyword).isEmpty then 0 else 1)<30))=true:=λX=>by
  rw[aG hs];rfl
 unfold KC at e2
 split at e2
 ·rename_i hx;cases e2;subst hx
  exact⟨RZ kf.K "list" vb t (nY tb rX),inferInstance,λX ok=>by rw[<-ok.hK];exact EY PySem.F.plainAttrs_list PySem.F.slot_list_append PySem.F.type_list_append oO (pt X ok) (jD (pb X ok) rH (aG hs)) (dC hn) (GO X) hl (aG hs) rfl⟩
 split at e2
 ·rename_i hx;cases e2;subst hx
  exact⟨RZ kf.K "list" vc t (nY tb rX),inferInstance,λX ok=>by rw[<-ok.hK];exact EY PySem.F.plainAttrs_list PySem.F.slot_list_extend PySem.F.type_list_extend B1 (pt X ok) (jD (pb X ok) rH (aG hs)) (dC hn) (GO X) hl (aG hs) rfl⟩
 ·cases e2
theorem Dv (h:mI kf.K r)(hl:(apos.endLine == b7.line)=true)(hn:eZ o=true)(ho:lU kf.K G o a)(q:J9 r G a e=some m):lU kf.K G (.Call (.Attribute o "pop" apos) [e] [] b7) m:=by
 obtain⟨t,st,pt⟩:=ho
 obtain⟨hs,q1⟩:=ao q
 obtain⟨b,e2,q2⟩:=bind_some q1
 cases q2
 obtain⟨tb,sb,pb⟩:=h.1 G e b e2
 have h1:∀ X:Cx,starEach [e] X.env=[(false,eval e X.env)]:=λX=>by rw[aG hs];rfl
 refine⟨zC t tb,FW st sb,λX ok=>E6 (pt X ok) (pb X ok) ⟨dC hn,?_,hl,?_⟩⟩
 ·rw[h1 X];rfl
 ·rw[h1 X];rfl
theorem Ho (h:mI kf.K r)(hl:(apos.endLine == b7.line)=true)(hn:eZ o=true)(ho:lU kf.K G o a)(q:P1 r G a e f=some m):lU kf.K G (.Call (.Attribute o "insert" apos) [e,f] [] b7) m:=by
 obtain⟨t,st,pt⟩:=ho
 obtain⟨⟨hs,O7⟩,q1⟩:=ao q
 obtain⟨b,e2,q2⟩:=bind_some q1
 obtain⟨c,e3,q3⟩:=bind_some q2
 cases q3
 obtain⟨tb,sb,pb⟩:=h.1 G e b e2
 obtain⟨tc,sc,pc⟩:=h.1 G f c e3
 have GO:∀ (X:Cx),((backTo b7 (starEach [e,f] X.env)).all (λx=>!x.1)&&(backToKw b7 (keywordEach [] X.env)).all (λx=>x.1.isSome)&&decide (([e,f]:List Expr).length+([]:List Keyword).length+(if ([]:List Keyword).isEmpty then 0 else 1)<30))=true:=λX=>by
  rw[aG hs,aG O7];rfl
 exact⟨RZ kf.K "list" vd t (nY tb (nY tc rX)),inferInstance,λX ok=>by rw[<-ok.hK];exact EY PySem.F.plainAttrs_list PySem.F.slot_list_insert PySem.F.type_list_insert B2 (pt X ok) (jD (pb X ok) (jD (pc X ok) rH (aG O7)) (aG hs)) (dC hn) (GO X) hl (aG hs) (by rw[aG O7];rfl)⟩
theorem Ds (h:mI kf.K r)(q:J7 r G o x args apos b7=some m):lU kf.K G (.Call (.Attribute o x apos) args [] b7) m:=by
 obtain⟨⟨hl,hn⟩,q1⟩:=ao q
 obtain⟨a,e1,q2⟩:=bind_some q1
 have ho:=h.1 G o a e1
 split at q2
 ·rename_i C n f SK
  exact Hr h hl hn ho SK q2
 unfold Dr at q2
 split at q2
 ·obtain⟨t,st,pt⟩:=ho
  obtain⟨g,e2,q3⟩:=bind_some q2
  cases q3
  unfold KA at e2
  split at e2
  ·rename_i hx;cases e2;subst hx
   exact⟨JE kf.K "list" NF t,inferInstance,λX ok=>by rw[<-ok.hK];exact EZ PySem.F.plainAttrs_list PySem.F.slot_list_pop PySem.F.type_list_pop MQ (pt X ok) (dC hn) hl⟩
  split at e2
  ·rename_i hx;cases e2;subst hx
   exact⟨JE kf.K "list" rO t,inferInstance,λX ok=>by rw[<-ok.hK];exact EZ PySem.F.plainAttrs_list PySem.F.slot_list_reverse PySem.F.type_list_reverse yZ (pt X ok) (dC hn) hl⟩
  ·cases e2
 ·split at q2
  ·rename_i hx;subst hx;exact Dv h hl hn ho q2
  ·exact Bo h hl hn ho q2
 ·split at q2
  ·rename_i hx;subst hx;exact Ho h hl hn ho q2
  ·cases q2
 ·cases q2
def Dk (G:Ga)(ks:List (Option Expr))(vs:List Expr):Option ME:=match ks,vs with
 |[],[]=>some (if G.em=1 then cj else uT)
 |_,_=>none
theorem Dl (q:Dk G ks vs=some m):lU kf.K G (.Dict ks vs pos) m:=by
 unfold Dk at q
 split at q
 ·cases q
  by_cases h:G.em=1
  ·rw[abr h];exact⟨vj,FV,λ_ _=>xl⟩
  ·rw[abo h];exact⟨zB,FT,λ_ _=>E5⟩
 ·cases q
end
section
noncomputable def isFree:NameKind->Bool
 |.free=>true
 |_=>false
noncomputable def uK:List (Str×NameKind)->List Str
 |[]=>[]
 |(n,k)::r=>if isFree k=true then n::uK r else uK r
noncomputable def JJ:Expr->List Str
 |.Name x _=>[x]
 |.Tuple es _ _=>es.flatMap λe=>match e with | .Name x _=>[x] | _=>[]
 |_=>[]
def LK (G:Ga)(scope:Scope)(N':List Str):List (Option Nat):=N'.map λx=>match scope.names.lookup x with
 |some .free=>idx x G.N
 |_=>none
def pf (G:Ga)(scope:Scope)(N':List Str)(ix:List (Option Nat)):Prop:=scope.kind=.function/\(∀ y∈scope.names,y.2≠.cell)/\(∀ y∈scope.names,y.2=.local->scope.names.lookup y.1=some .local)/\
 (∀ y∈scope.names,y.2=.free->G.nm.lookup y.1=some .cell\/G.nm.lookup y.1=some .free)/\ix.length=N'.length/\N'.Nodup/\QK G.N N' scope ix=true
instance {G:Ga}{scope:Scope}{N':List Str}{ix:List (Option Nat)}:Decidable (pf G scope N' ix):=by unfold pf;infer_instance
theorem pf.ok (h:pf G scope N' ix)(ok:lL kf.K G X):iI X.N X.env.scope N' scope ix:=by
 obtain⟨a,b,c,d,e,f,g⟩:=h
 refine⟨a,b,c,λy hy hf=>?_,e,f,by rw[ok.hN];exact g⟩
 rcases d y hy hf with z | z
 ·exact .inl (ok.cel _ z).1
 ·exact ok.fre _ z
theorem fL {env:Env}:∀ {names:List (Str×NameKind)}{x:Str}{k:NameKind},k≠.free->names.lookup x=some k->
  (names.map λ(n,k)=>if (k == NameKind.free&&env.scope.kind == .function&&env.kindOf n == some .cell) then(n,NameKind.cell) else(n,k)).lookup x=some k
 |[],_,_,_,h=>by simp at h
 |(n,k0)::r,x,k,hk,h=>by
  have ih:=@fL env r x k hk
  rw[abH]
  rw[abM]at h
  cases hx:x == n with
  |false=>
   rw[hx]at h
   by_cases hq:(k0 == NameKind.free&&env.scope.kind == .function&&env.kindOf n == some .cell)=true
   ·simp only[hq,if_true,abM,hx];exact ih h
   ·simp only[Bool.eq_false_iff.mpr hq,acb,abM,hx,ab2];exact ih h
  |true=>
   rw[hx]at h
   have h':k0=k:=abD h
   subst h'
   have hq:(k0 == NameKind.free)=false:=by simpa using hk
   simp only[hq,Bool.false_and,acb,abM,hx,ab2]
theorem lL.comp (ok:lL kf.K G X)(h:pf G scope N' ix)(cl:List (Str×Addr))(C)(s)(H)(ex) :
  lL kf.K {G with N:=N',nm:=scope.names} (bx X N' scope cl C s H ex):=by
 obtain⟨a,b,c,d,e,f,g⟩:=h
 refine⟨ok.hK,rfl,f,ok.calm,a,λx hx=>?_,λx hx=>fL (by decide) hx,λx hx=>absurd rfl (b (x,.cell) (ab_ hx)),λx hx=>gJ hx,λx hx=>fL (by decide) hx,ok.fs,ok.bl,ok.un,ok.rm,PassesOwn.never,ok.tb,ok.cs,ok.ms⟩
 rcases hx with z | z | z
 ·exact .inl (fL (by decide) z)
 ·exact absurd rfl (b (x,.cell) (ab_ z))
 ·exact .inr (gJ z)
noncomputable def P0 (r:R)(G:Ga):List Expr->Option (Option MT)
 |[]=>some none
 |[c]=>(r.t G c).bind λm=>some (some m)
 |_=>none
noncomputable def nI:Expr->Hw×Expr×Option (Pos×Pos)
 |.Call (.Attribute o x apos) [] [] b7=>if x = "items" then(.items,o,some (apos,b7)) else(.keys,.Call (.Attribute o x apos) [] [] b7,none)
 |e=>(.keys,e,none)
noncomputable def tq (r:R)(G:Ga)(tg e:Expr):Option (Hw×ME):=match nI e with
 |(.keys,o,none)=>(r.e G o).bind λa=>some (.keys,a)
 |(.items,o,some (apos,b7))=>if (apos.endLine == b7.line)=true/\eZ o=true/\Em tg=true then(r.e G o).bind λa=>some (.items,a) else none
 |_=>none
theorem BJ (h:nI e=(.keys,o,x)):o=e:=by
 unfold nI at h
 split at h
 ·split at h
  ·cases h
  ·cases h;rfl
 ·cases h;rfl
theorem yH (h:nI e=(.items,o,some (apos,b7))):e=.Call (.Attribute o "items" apos) [] [] b7:=by
 unfold nI at h
 split at h
 ·split at h
  ·rename_i hx;cases h;rw[hx]
  ·cases h
 ·cases h
theorem vP (h:mI kf.K r)(q:tq r G tg e=some z):PB kf.K G tg e (cO z.1 z.2):=by
 unfold tq at q
 split at q
 ·rename_i o ho
  obtain⟨a,e1,q⟩:=bind_some q
  cases q
  have:=BJ ho
  subst this
  obtain⟨t,st,pt⟩:=h.1 G _ a e1
  exact⟨wB .keys t,inferInstance,λX ok=>IW (pt X ok)⟩
 ·rename_i o apos b7 ho
  obtain⟨⟨h1,h2,h3⟩,q⟩:=ao q
  obtain⟨a,e1,q⟩:=bind_some q
  cases q
  rw[yH ho]
  obtain⟨t,st,pt⟩:=h.1 G _ a e1
  cases tg with
  |Tuple elts k p0=>exact⟨wB .items t,inferInstance,λX ok=>Ce (pt X ok) (dC h2) h1⟩
  |_=>cases h3
 ·cases q
noncomputable def Ph (m n:ME):ME:=λσ h=>match m σ h with
 |some r=>some r
 |none=>n σ h
theorem RJ (A:SE t m)(B:SE u n):SE (xJ t u) (Ph m n):=⟨λ{σ H Q σu ι h u h'} hs hr e q=>by
 unfold Ph at e
 cases ef:m σu h with
 |some z=>rw[ef]at e;cases e;exact .inl (A.go hs hr ef q)
 |none=>rw[ef]at e;exact .inr (B.go hs hr e q)⟩
def qC (r:R)(G:Ga)(elt tg iter:Expr)(ifs:List Expr)(scope:Scope)(oi:Option MI):Option ME:=
 let N':=JJ tg++uK scope.names
 let ix:=LK G scope N'
 if pf G scope N' ix/\jC iter=true then oi.bind λmi=>(P4 {G with N:=N',nm:=scope.names} tg).bind λg=>(r.e {G with N:=N',nm:=scope.names} elt).bind λa=>
  (P0 r {G with N:=N',nm:=scope.names} ifs).bind λc=>some (bY ix mi g (c.getD bS) a)
 else none
inductive TH (G:Ga)(elt tg iter:Expr)(scope:Scope)(m:ME):List Expr->Prop
 |a (N':List Str) (ix:List (Option Nat)) (wi:TI) (g:TG) (te:TE):pf G scope N' ix->jC iter=true->SE (xG ix wi g te) m->(∀ X,lL kf.K G X->PI X tg iter wi)->(∀ X,lL kf.K {G with N:=N',nm:=scope.names} X->PG X tg g)->(∀ X,lL kf.K {G with N:=N',nm:=scope.names} X->PE X elt te)->TH G elt tg iter scope m []
 |b (N':List Str) (ix:List (Option Nat)) (wi:TI) (g:TG) (tc:TT) (te:TE) (c:Expr):pf G scope N' ix->jC iter=true->SE (zA ix wi g tc te) m->(∀ X,lL kf.K G X->PI X tg iter wi)->(∀ X,lL kf.K {G with N:=N',nm:=scope.names} X->PG X tg g)->(∀ X,lL kf.K {G with N:=N',nm:=scope.names} X->PT X c tc)->(∀ X,lL kf.K {G with N:=N',nm:=scope.names} X->PE X elt te)->TH G elt tg iter scope m [c]
theorem tm (h:mI kf.K r)(hi:∀ mi,oi=some mi->PB kf.K G tg iter mi)(q:qC r G elt tg iter ifs scope oi=some m):TH G elt tg iter scope m ifs:=by
 unfold qC at q
 dsimp only at q
 obtain⟨⟨hc,hs⟩,q1⟩:=ao q
 obtain⟨mi,e1,q2⟩:=bind_some q1
 obtain⟨g,e2,q3⟩:=bind_some q2
 obtain⟨a,e3,q4⟩:=bind_some q3
 obtain⟨c,e4,q5⟩:=bind_some q4
 cases q5
 obtain⟨wi,si,pi⟩:=hi _ e1
 obtain⟨R9,sg,pg⟩:=yi e2
 obtain⟨te,se,pe⟩:=h.1 _ _ _ e3
 unfold P0 at e4
 split at e4
 ·cases e4
  exact .a _ _ wi R9 te hc hs inferInstance pi pg pe
 ·obtain⟨mc,e5,e6⟩:=bind_some e4
  cases e6
  obtain⟨tc,sc,pc⟩:=h.2 _ _ _ e5
  exact .b _ _ wi R9 tc te _ hc hs inferInstance pi pg pc pe
 ·cases e4
def J5 (r:R)(G:Ga)(elt tg iter:Expr)(ifs:List Expr)(scope:Scope):Option ME:=qC r G elt tg iter ifs scope (cI r G tg iter)
theorem tj (h:mI kf.K r)(hi:∀ mi,oi=some mi->PB kf.K G tg iter mi)(q:qC r G elt tg iter ifs scope oi=some m):lU kf.K G (.ListComp elt [⟨tg,iter,ifs,0⟩] scope pos) m:=by
 rcases tm h hi q with⟨N',ix,wi,g,te,hc,hs,se,pi,pg,pe⟩ | ⟨N',ix,wi,g,tc,te,c,hc,hs,se,pi,pg,pt,pe⟩
 ·exact⟨_,se,λX ok=>AD ok.calm (hc.ok ok) (pi X ok) (λcl C s H ex=>pg _ (ok.comp hc cl C s H ex)) (λcl C s H ex=>pe _ (ok.comp hc cl C s H ex)) (lO hs)⟩
 ·exact⟨_,se,λX ok=>E4 ok.calm (hc.ok ok) (pi X ok) (λcl C s H ex=>pg _ (ok.comp hc cl C s H ex)) (λcl C s H ex=>pt _ (ok.comp hc cl C s H ex)) (λcl C s H ex=>pe _ (ok.comp hc cl C s H ex)) (lO hs)⟩
def cC (ix:List (Option Nat))(mi:MI)(k:Hw)(d:ME)(g:MG)(c:MT)(a:ME):ME:=Ph (bY ix mi g c a) (Av d (bY ix (cO k d) g c a))
def yf (r:R)(G:Ga)(elt tg iter:Expr)(ifs:List Expr)(scope:Scope):Option ME:=(tq r G tg iter).bind λz=>(qC r G elt tg iter ifs scope (some (cO z.1 z.2))).bind λm=>some (Av z.2 m)
def ye (r:R)(G:Ga)(elt tg iter:Expr)(ifs:List Expr)(scope:Scope):Option ME:=match J5 r G elt tg iter ifs scope with
 |some m=>match yf r G elt tg iter ifs scope with
  |some n=>some (Ph m n)
  |none=>some m
 |none=>yf r G elt tg iter ifs scope
theorem tf (h:mI kf.K r)(q:yf r G elt tg iter ifs scope=some m):lU kf.K G (.ListComp elt [⟨tg,iter,ifs,0⟩] scope pos) m:=by
 obtain⟨z,e1,q⟩:=bind_some q
 obtain⟨x,e2,q⟩:=bind_some q
 cases q
 obtain⟨t,st,pt⟩:=tj (pos:=pos) h (λmi e=>by cases e;exact vP h e1) e2
 exact⟨Ow t,N6 st,λX ok=>Nh (pt X ok)⟩
theorem Bm (h:mI kf.K r)(q:ye r G elt tg iter ifs scope=some m):lU kf.K G (.ListComp elt [⟨tg,iter,ifs,0⟩] scope pos) m:=by
 unfold ye at q
 split at q
 ·rename_i x ex
  have o1:=tj (pos:=pos) h (λ_ e=>Dn h e) ex
  split at q
  ·rename_i y ey
   cases q
   obtain⟨t,st,pt⟩:=o1
   obtain⟨t2,CU,pt2⟩:=tf (pos:=pos) h ey
   exact⟨xJ t t2,RJ st CU,λX ok=>xm (pt X ok) (pt2 X ok)⟩
  ·cases q;exact o1
 ·exact tf h q
noncomputable def cBool (r:R)(G:Ga)(op:BoolOp):List Expr->Option ME
 |[]=>none
 |[a]=>r.e G a
 |a::b=>(r.e G a).bind λx=>(cBool r G op b).bind λy=>match op with | .And=>some (pK x y) | .Or=>none
theorem vO (h:mI kf.K r):∀ {vs}{m},cBool r G op vs=some m->lU kf.K G (.BoolOp op vs pos) m
 |[],m,e=>by cases e
 |[a],m,e=>by
  obtain⟨t,st,pt⟩:=h.1 G a m e
  exact⟨t,st,λX ok=>Nl (pt X ok)⟩
 |a::b::c,m,e=>by
  obtain⟨x,e1,e⟩:=bind_some (show(r.e G a).bind _=some _ from e)
  obtain⟨y,e2,e⟩:=bind_some e
  obtain⟨t,st,pt⟩:=h.1 G a x e1
  obtain⟨u,su,pu⟩:=vO (op:=op) (pos:=pos) h e2
  cases op with
  |And=>cases e;exact⟨Gf t u,inferInstance,λX ok=>Nd (pt X ok) (pu X ok)⟩
  |Or=>cases e
noncomputable def yd (r:R)(G:Ga)(op:BoolOp):List Expr->Option MT
 |[]=>none
 |[a]=>r.t G a
 |a::b=>(r.t G a).bind λx=>(yd r G op b).bind λy=>some (match op with | .And=>wO x y | .Or=>uV x y)
theorem sZ (h:mI kf.K r):∀ {vs}{m},yd r G op vs=some m->∃ t,ST t m/\∀ X,lL kf.K G X->PW X (.BoolOp op vs pos) t
 |[],m,e=>by cases e
 |[a],m,e=>by
  obtain⟨t,st,pt⟩:=h.2 G a m e
  cases op with
  |And=>exact⟨t,st,λX ok=>pw_and1 (pt X ok)⟩
  |Or=>exact⟨t,st,λX ok=>pw_or1 (pt X ok)⟩
 |a::b::c,m,e=>by
  obtain⟨x,e1,e⟩:=bind_some (show(r.t G a).bind _=some _ from e)
  obtain⟨y,e2,e⟩:=bind_some e
  cases e
  obtain⟨t,st,pt⟩:=h.2 G a x e1
  obtain⟨u,su,pu⟩:=sZ (op:=op) (pos:=pos) h e2
  cases op with
  |And=>exact⟨Oq t u,inferInstance,λX ok=>pw_and (pt X ok) (pu X ok)⟩
  |Or=>exact⟨Wv t u,inferInstance,λX ok=>pw_or (pt X ok) (pu X ok)⟩
def Du (r:R)(G:Ga):Option Expr->Option G7
 |none=>some bz
 |some e=>(r.e G e).bind λa=>some (cJ a)
theorem vQ (h:mI kf.K r):∀ {o}{m:G7},Du r G o=some m->∃ t,OV t m/\∀ X,lL kf.K G X->PO X o t
 |none,m,e=>by cases e;exact⟨jH,inferInstance,λX _=>u5⟩
 |some x,m,e=>by
  obtain⟨a,e1,e⟩:=bind_some (show(r.e G x).bind _=some _ from e)
  cases e
  obtain⟨t,st,pt⟩:=h.1 G x a e1
  exact⟨AX t,inferInstance,λX ok=>AG (pt X ok)⟩
def LB (r:R)(G:Ga)(a s:Expr):Option ME:=(r.e G a).bind λx=>match s with
 |.Slice lo hi none _=>(Du r G lo).bind λl=>(Du r G hi).bind λu=>some (sm x l u)
 |.Slice none none (some st) _=>(r.e G st).bind λy=>some (rz x (cJ y))
 |.Slice _ _ _ _=>none
 |i=>(r.e G i).bind λy=>some (ah x y)
theorem z5 (h:mI kf.K r)(q:LB r G a s=some m):lU kf.K G (.Subscript a s pos) m:=by
 obtain⟨x,e1,q1⟩:=bind_some q
 obtain⟨t,st,pt⟩:=h.1 G a x e1
 split at q1
 ·obtain⟨l,e2,q2⟩:=bind_some q1
  obtain⟨u,e3,q3⟩:=bind_some q2
  cases q3
  obtain⟨tl,sl,pl⟩:=vQ h e2
  obtain⟨tu,su,pu⟩:=vQ h e3
  exact⟨Ww (Jh kf.K) t tl tu,inferInstance,λX ok=>by rw[<-ok.hK];exact Fc N9 (pt X ok) (pl X ok) (pu X ok)⟩
 ·obtain⟨y,e2,q2⟩:=bind_some q1
  cases q2
  obtain⟨tb,sb,pb⟩:=h.1 G _ y e2
  exact⟨OB (zk kf.K) t jH jH (AX tb),inferInstance,λX ok=>by rw[<-ok.hK];exact Cc F0 (pt X ok) u5 u5 (AG (pb X ok))⟩
 ·cases q1
 ·rename_i i h1 h2 h3
  obtain⟨y,e2,q2⟩:=bind_some q1
  cases q2
  obtain⟨tb,sb,pb⟩:=h.1 G _ y e2
  have hn:nU s=true:=by
   cases s<;>first | rfl | exact absurd rfl (h3 _ _ _ _)
  exact⟨_,N5 st sb,λX ok=>by rw[<-ok.hK];exact S.xm (IT ok.un (pt X ok) (pb X ok) (rL hn)) (Rf Mj (pt X ok) (pb X ok) (rL hn))⟩
def Dy (r:R)(G:Ga)(a s:Expr):Option ME:=match a with
 |.Name x _=>(match G.tb.lookup x with
  |some t=>if G.glob x=true/\nU s=true then(r.e G s).bind λy=>some (qm t y) else none
  |none=>LB r G a s)
 |a=>LB r G a s
theorem Dz (h:mI kf.K r)(q:Dy r G a s=some m):lU kf.K G (.Subscript a s pos) m:=by
 unfold Dy at q
 split at q
 ·split at q
  ·rename_i t ht
   obtain⟨⟨hg,hn⟩,q1⟩:=ao q
   obtain⟨y,e1,q2⟩:=bind_some q1
   cases q2
   obtain⟨tb,sb,pb⟩:=h.1 G _ y e1
   refine⟨vm kf.K t tb,inferInstance,λX ok=>?_⟩
   obtain⟨g1,g2,_⟩:=nF ok hg
   rw[<-ok.hK]
   exact Cd (ok.tb _ _ ht) g1 g2 (pb X ok) (rL hn)
  ·exact z5 h q
 ·exact z5 h q
def J4 (r:R)(G:Ga)(a:Expr)(op:CmpOp)(b:Expr):Option ME:=if jC b=true then(r.e G a).bind λx=>(r.e G b).bind λy=>Lz op x y else none
theorem Di (h:mI kf.K r)(q:J4 r G a op b=some m):lU kf.K G (.Compare a [op] [b] pos) m:=by
 obtain⟨hs,q1⟩:=ao q
 obtain⟨x,e2,q2⟩:=bind_some q1
 obtain⟨y,e3,q3⟩:=bind_some q2
 exact(zY (h.1 G _ x e2) (h.1 G _ y e3) hs q3).1
end
section
def Dj:Const->Option ME
 |.int i=>some (mC (.int i))
 |.bool b=>some (mC (.bl b))
 |.none=>some (mC .aq)
 |.str x=>some (mC (.str x))
 |_=>none
theorem Bn (q:Dj c=some m):lU kf.K G (.Constant c k pos) m:=by
 cases c<;>first
  |(cases q;exact⟨_,N3,λX _=>Ng⟩)
  |(cases q;exact⟨_,RH,λX _=>Rb⟩)
  |(cases q;exact⟨_,N7,λX _=>Nj⟩)
  |(cases q;exact⟨_,N8,λX _=>Nm⟩)
  |cases q
def WL (op:UnaryOp)(x:ME):Option ME:=match op with
 |.Not=>some (Aw x)
 |.USub=>some (ba jP x)
 |_=>none
theorem LD (h:lU kf.K G a x)(q:WL op x=some m):lU kf.K G (.UnaryOp op a pos) m:=by
 obtain⟨t,st,pt⟩:=h
 cases op<;>first
  |(cases q;exact⟨Gm t,inferInstance,λX ok=>Nk (pt X ok)⟩)
  |(cases q;exact⟨Wx _ t,RK (G:=Oo) (A:=st),λX ok=>Rh OP (pt X ok)⟩)
  |cases q
def T5 (r:R)(G:Ga)(elt:Expr)(gens:List Comprehension)(scope:Scope):Option ME:=match gens with
 |[⟨tg,iter,ifs,0⟩]=>ye r G elt tg iter ifs scope
 |_=>none
def Lh (r:R)(G:Ga):Expr->Option ME
 |.Constant c _ _=>Dj c
 |.Name x _=>J8 G x
 |.BinOp a op b _=>(Vv op).bind λg=>(r.e G a).bind λx=>(r.e G b).bind λy=>some (ay g x y)
 |.UnaryOp op a _=>(r.e G a).bind λx=>WL op x
 |.BoolOp op vs _=>cBool r G op vs
 |.IfExp c a b _=>(r.t G c).bind λk=>(r.e G a).bind λx=>(r.e G b).bind λy=>some (S3 k x y)
 |.Compare a [op] [b] _=>J4 r G a op b
 |.Tuple es _ _=>(cA r G es).bind λm=>some (av m)
 |.List es _=>(cA r G es).bind λm=>some (bZ m)
 |.Subscript a s _=>Dy r G a s
 |.Attribute o f _=>if eZ o=true then(r.e G o).bind λa=>some (ba (aj G.ck.cl f) a) else none
 |.Call (.Name x _) args [] _=>if x = "isinstance" then(match args with
   |[e,.Name c _]=>P2 r G e c
   |_=>none) else Dg r G x args
 |.Call (.Attribute o x apos) args [] b7=>J7 r G o x args apos b7
 |.Dict ks vs _=>Dk G ks vs
 |.ListComp elt gens scope _=>T5 r G elt gens scope
 |_=>none
theorem F8 (h:mI kf.K r)(q:Lh r G e=some m):lU kf.K G e m:=by
 cases e with
 |Constant c k p=>exact Bn q
 |Name x p=>exact Dt q
 |BinOp a op b p=>
  obtain⟨g,e1,q1⟩:=bind_some (show(Vv op).bind _=some _ from q)
  obtain⟨x,e2,q2⟩:=bind_some q1
  obtain⟨y,e3,q3⟩:=bind_some q2
  cases q3
  obtain⟨rr,so,hq⟩:=MY e1
  obtain⟨t,st,pt⟩:=h.1 G _ x e2
  obtain⟨u,su,pu⟩:=h.1 G _ y e3
  exact⟨CY rr t u,inferInstance,λX ok=>Rg (hq X ok.hK) (pt X ok) (pu X ok)⟩
 |UnaryOp op a p=>
  obtain⟨x,e2,q2⟩:=bind_some (show(r.e G a).bind _=some _ from q)
  exact LD (h.1 G _ x e2) q2
 |BoolOp op vs p=>exact vO h q
 |IfExp c a b p=>
  obtain⟨k,e1,q1⟩:=bind_some (show(r.t G c).bind _=some _ from q)
  obtain⟨x,e2,q2⟩:=bind_some q1
  obtain⟨y,e3,q3⟩:=bind_some q2
  cases q3
  obtain⟨tc,sc,pc⟩:=h.2 G _ k e1
  obtain⟨t,st,pt⟩:=h.1 G _ x e2
  obtain⟨u,su,pu⟩:=h.1 G _ y e3
  exact⟨Wu tc t u,inferInstance,λX ok=>E7 (pc X ok) (pt X ok) (pu X ok)⟩
 |Compare a ops bs p=>
  rcases ops with _ | ⟨op,_ | ⟨op',_⟩⟩
  ·exact nk q
  ·rcases bs with _ | ⟨b,_ | ⟨_,_⟩⟩
   ·exact nk q
   ·exact Di h q
   ·exact nk q
  ·exact nk q
 |Tuple es k p=>
  obtain⟨x,e2,q2⟩:=bind_some (show(cA r G es).bind _=some _ from q)
  cases q2
  obtain⟨⟨t,st,pt⟩,_⟩:=px h e2
  exact⟨OC t,inferInstance,λX ok=>Nn (pt X ok)⟩
 |List es p=>
  obtain⟨x,e2,q2⟩:=bind_some (show(cA r G es).bind _=some _ from q)
  cases q2
  obtain⟨⟨t,st,pt⟩,_⟩:=px h e2
  exact⟨Ox t,inferInstance,λX ok=>Ni (pt X ok)⟩
 |Subscript a s p=>exact Dz h q
 |Attribute o f p=>
  obtain⟨hn,q1⟩:=ao (show(if eZ o=true then _ else none)=some _ from q)
  obtain⟨x,e2,q2⟩:=bind_some q1
  cases q2
  obtain⟨t,st,pt⟩:=h.1 G _ x e2
  exact⟨_,N1 G.ck.ok st _,λX ok=>by rw[<-ok.hK];exact Nf (pt X ok) (dC hn)⟩
 |Call f args XD p=>
  cases XD with
  |cons _ _=>cases f<;>exact nk q
  |nil=>
   cases f with
   |Name x p2=>
    by_cases hx:x = "isinstance"
    ·subst hx
     rcases args with _ | ⟨e,_ | ⟨c,_ | ⟨_,_⟩⟩⟩
     ·cases q
     ·cases q
     ·cases c<;>first | exact nk q | exact Hq h q
     ·cases c<;>exact nk q
    ·exact Dh h ((abo hx).symm.trans q)
   |Attribute o x apos=>exact Ds h q
   |_=>first | exact nk q | cases q
 |Dict ks vs p=>exact Dl q
 |ListComp elt gens scope p=>
  have q':T5 r G elt gens scope=some m:=q
  clear q
  unfold T5 at q'
  split at q'
  ·exact Bm h q'
  ·cases q'
 |_=>first | exact nk q | cases q
def stepT (r:R)(G:Ga):Expr->Option MT
 |.UnaryOp .Not a _=>(r.t G a).bind λx=>some (sM x)
 |.BoolOp op vs _=>yd r G op vs
 |.Compare a [op] [b] _=>if jC b=true then(r.e G a).bind λx=>(r.e G b).bind λy=>(Lz op x y).bind λm=>some (mB m) else none
 |e=>if plainT e=true then(r.e G e).bind λx=>some (ij x) else none
theorem Gb (h:mI kf.K r)(q:stepT r G e=some m):Sm kf.K G e m:=by
 unfold stepT at q
 split at q
 ·obtain⟨x,e2,q2⟩:=bind_some q
  cases q2
  obtain⟨t,st,pt⟩:=h.2 G _ x e2
  exact⟨Oy t,inferInstance,λX ok=>NC (pt X ok)⟩
 ·obtain⟨t,st,pt⟩:=sZ h q
  exact⟨t,st,λX ok=>(pt X ok).pt⟩
 ·obtain⟨hs,q1⟩:=ao q
  obtain⟨x,e2,q2⟩:=bind_some q1
  obtain⟨y,e3,q3⟩:=bind_some q2
  obtain⟨m',e4,q4⟩:=bind_some q3
  cases q4
  exact(zY (h.1 G _ x e2) (h.1 G _ y e3) hs e4).2
 ·obtain⟨hp,q1⟩:=ao q
  obtain⟨x,e2,q2⟩:=bind_some q1
  cases q2
  obtain⟨t,st,pt⟩:=h.1 G _ x e2
  exact⟨R6 kf.K t,inferInstance,λX ok=>by rw[<-ok.hK];exact Fs (pt X ok) (Cj hp)⟩
noncomputable def cR:Nat->R
 |0=>⟨λ_ _=>none,λ_ _=>none⟩
 |n+1=>⟨Lh (cR n),stepT (cR n)⟩
theorem Dw:∀ n,mI kf.K (cR n)
 |0=>⟨λ_ _ _ e=>(nomatch e),λ_ _ _ e=>(nomatch e)⟩
 |n+1=>⟨λ_ _ _ e=>F8 (Dw n) e,λ_ _ _ e=>Gb (Dw n) e⟩
noncomputable def nS:Expr->Bool
 |.ListComp _ _ _ _=>false
 |.SetComp _ _ _ _=>false
 |.DictComp _ _ _ _ _=>false
 |_=>true
theorem oZ (h:nS e=true):swapsWith e o n env=pure false:=by
 cases e<;>first | rfl | cases h
noncomputable def notTuple:Expr->Bool
 |.Tuple _ _ _=>false
 |_=>true
theorem zy (h:notTuple e=true):swappedStores [.Tuple es k p] e env=pure none:=by
 cases e<;>first | rfl | cases h
noncomputable def Yo (G:Ga)(x:Str)(p:Pos)(scope:Scope)(q:Pos):Bool:=(G.nm.lookup x == some .local)&&p.line == q.line&&!(scope.names.any λ(n,k)=>n == x&&(k == .local || k == .cell))
def vM (r:R)(G:Ga)(x:Str)(p:Pos)(v:Expr):Option MS:=(vR G x).bind λg=>match v with
 |.ListComp elt [⟨tg,iter,[],0⟩] scope q=>(J5 r G elt tg iter [] scope).bind λm=>some (ak m g)
 |v=>if nS v=true then(r.e G v).bind λm=>some (ak m g) else none
theorem MK (e:vR G x=some m):∃ i,m=nName i/\(∀ X,lL kf.K G X->X.N[i]?=some x/\Loc X.env.scope x/\(X.fn x=true\/X.env.scope.names.lookup x=some .local)):=by
 unfold vR at e
 split at e
 ·rename_i hl
  obtain⟨i,e1,e2⟩:=bind_some e
  cases e2
  exact⟨i,rfl,λX ok=>⟨by rw[ok.hN];exact oF e1,.inl (ok.loc x hl),.inr (ok.loc x hl)⟩⟩
 ·rename_i hl
  obtain⟨i,e1,e2⟩:=bind_some e
  cases e2
  exact⟨i,rfl,λX ok=>⟨by rw[ok.hN];exact oF e1,.inr (ok.cel x hl).1,.inl (ok.cel x hl).2⟩⟩
 ·cases e
theorem Ge (ok:lL kf.K G X):swapsWith (.ListComp elt gens scope q) (some (.Name x p)) n X.env=pure (X.env.kindOf x == some .local&&p.line == q.line&&!(scope.names.any λ(n,k)=>n == x&&(k == .local || k == .cell))):=by
 have hk:X.env.blockKind=.function:=by unfold Env.blockKind;rw[ok.kind];rfl
 show(pure (X.env.blockKind == .function&&X.env.kindOf x == some .local&&p.line == q.line&&!(scope.names.any λ(n,k)=>n == x&&(k == .local || k == .cell))):Sem Bool)=_
 rw[hk];rfl
theorem vN (h:mI kf.K r)(q:vM r G x p v=some m):OU kf.K G (.Assign [.Name x p] v pos) m:=by
 obtain⟨g,e1,q1⟩:=bind_some q
 obtain⟨i,rfl,hx⟩:=MK e1
 split at q1
 ·rename_i elt tg iter scope qq
  obtain⟨mm,e2,q2⟩:=bind_some q1
  cases q2
  rcases tm h (λ_ e=>Dn h e) e2 with⟨N',ix,wi,g,te,hc,hs,se,pi,pg,pe⟩
  ·refine⟨xF (xG ix wi g te) (nu i),inferInstance,λX ok=>?_⟩
   obtain⟨h1,h2,h3⟩:=hx X ok
   have sv:=Ge (X:=X) ok (elt:=elt) (gens:=[⟨tg,iter,[],0⟩]) (scope:=scope) (q:=qq) (p:=p) (n:=pos.line) (x:=x)
   cases hb:(X.env.kindOf x == some .local&&p.line == qq.line&&!(scope.names.any λ(n,k)=>n == x&&(k == .local || k == .cell))) with
   |true=>
    rw[hb]at sv
    have hl:X.env.scope.names.lookup x=some .local:=by
     rw[abL,abL]at hb
     exact eq_of_beq hb.1.1
    exact zi ok.calm ok.nd h1 hl (hc.ok ok) (pi X ok) (λcl C s H ex=>pg _ (ok.comp hc cl C s H ex)) (λcl C s H ex=>pe _ (ok.comp hc cl C s H ex)) sv (lO hs)
   |false=>
    rw[hb]at sv
    exact Fm ok.nd h1 h2 (AD ok.calm (hc.ok ok) (pi X ok) (λcl C s H ex=>pg _ (ok.comp hc cl C s H ex)) (λcl C s H ex=>pe _ (ok.comp hc cl C s H ex)) (lO hs)) sv h3
 ·obtain⟨hn,q2⟩:=ao q1
  obtain⟨mm,e2,q3⟩:=bind_some q2
  cases q3
  obtain⟨t,st,pt⟩:=h.1 G v mm e2
  refine⟨xF t (nu i),inferInstance,λX ok=>?_⟩
  obtain⟨h1,h2,h3⟩:=hx X ok
  exact Fm ok.nd h1 h2 (pt X ok) (oZ hn) h3
end
section
def az (d y v:ME):MS:=λσ h=>(v σ h).bind λp=>(d σ p.2).bind λq=>(y σ q.2).bind λs=>if aZ s.2 q.1=true then(ed s.2 q.1 s.1 p.1).bind λh'=>some (.nx σ,h') else(FY q.1 s.1 p.1 s.2).bind λh'=>some (.nx σ,h')
theorem Cv (A:SE tv v)(B:SE td d)(C:SE ty y):SS (JF (FN td ty tv) (xF tv (Qp td ty Fz))) (az d y v):=⟨λ{D σ H σu ι h f h'} hs hr e q=>by
 obtain⟨⟨x,h1⟩,e1,q1⟩:=bind_some e
 obtain⟨⟨z,h2⟩,e2,q2⟩:=bind_some q1
 obtain⟨⟨w,h3⟩,e3,q3⟩:=bind_some q2
 by_cases c:aZ h3 z=true
 ·rw[abr c]at q3
  refine .inl ((Jz (td:=td) (ty:=ty) (tv:=tv)).go hs hr (show EE d y v σu h=some (f,h') from ?_) q)
  unfold EE
  rw[e1];show(d σu h1).bind _=_
  rw[e2];show(y σu h2).bind _=_
  rw[e3];exact q3
 ·rw[abo c]at q3
  obtain⟨h4,e4,q4⟩:=bind_some q3
  cases q4
  refine .inr (A.go hs hr e1 λι1 H1 v1 x1 r1 k1=>?_)
  refine B.go (hs.mono (x1.kp hr)) r1 e2 λι2 H2 v2 x2 r2 k2=>?_
  refine C.go (hs.mono ((x1.trans x2).kp hr)) r2 e3 λι3 H3 v3 x3 r3 k3=>?_
  exact Cy.go r3 (k2.mono (x3.kp r2)) k3 (k1.mono ((x2.trans x3).kp r1)) e4 λι4 H4 x4 r4=>q _ _ (((x1.trans x2).trans x3).trans x4) r4 _ (hs.mono ((((x1.trans x2).trans x3).trans x4).kp hr))⟩
theorem uh:swapsWith v (some (.Subscript o i p)) n env=pure false:=by
 cases v<;>rfl
theorem zz:swappedStores [.Subscript o i p] v env=pure none:=by
 cases v<;>rfl
def z0 (r:R)(G:Ga)(o i v:Expr):Option MS:=if nU i=true then(r.e G v).bind λx=>(r.e G o).bind λd=>(r.e G i).bind λy=>some (az d y x) else none
theorem yh (h:mI kf.K r)(q:z0 r G o i v=some m):OU kf.K G (.Assign [.Subscript o i p] v pos) m:=by
 obtain⟨hn,q0⟩:=ao q
 obtain⟨x,e1,q1⟩:=bind_some q0
 obtain⟨d,e2,q2⟩:=bind_some q1
 obtain⟨y,e3,q3⟩:=bind_some q2
 cases q3
 obtain⟨tv,sv,pv'⟩:=h.1 G v x e1
 obtain⟨td,sd,pd⟩:=h.1 G o d e2
 obtain⟨ti,si,pi⟩:=h.1 G i y e3
 refine⟨_,Cv sv sd si,λX ok=>KY (Jb ok.un (pd X ok) (pi X ok) (pv' X ok) uh) (Fi (pv' X ok) (Nq (pd X ok) (pi X ok) set_list ?_) (show swapsWith v (some (.Subscript o i p)) pos.line X.env=pure false from uh) zz rfl)⟩
 intro v
 cases i<;>first | rfl | cases hn
noncomputable def Kf:Expr->Bool
 |.Tuple vs _ _=>vs.all (foldedForSure 8)
 |_=>true
theorem xE (hf:vs.all (foldedForSure 8)=true):swappedStores [.Tuple es k p] (.Tuple vs k2 p2) env=pure none:=by
 unfold swappedStores
 dsimp only
 split
 ·rfl
 split
 ·rfl
 split
 ·rfl
 ·first | rfl | rw[abr hf]
theorem vi (h:Kf v=true):swappedStores [.Tuple es k p] v env=pure none:=by
 cases v with
 |Tuple vs k2 p2=>exact xE h
 |_=>exact zy rfl
def zX (r:R)(G:Ga)(es:List Expr)(k:Nat)(p:Pos)(v:Expr):Option MS:=if Kf v=true/\nS v=true then(P4 G (.Tuple es k p)).bind λg=>(r.e G v).bind λx=>some (ak x g) else none
theorem yc (h:mI kf.K r)(q:zX r G es k p v=some m):OU kf.K G (.Assign [.Tuple es k p] v pos) m:=by
 obtain⟨⟨hn,hc⟩,q0⟩:=ao q
 obtain⟨g,e1,q1⟩:=bind_some q0
 obtain⟨x,e2,q2⟩:=bind_some q1
 cases q2
 obtain⟨tg,sg,pg⟩:=yi e1
 obtain⟨tv,sv,pv'⟩:=h.1 G v x e2
 exact⟨xF tv tg,inferInstance,λX ok=>Fi (pv' X ok) (pg X ok) (show swapsWith v (some (.Tuple es k p)) pos.line X.env=pure false from oZ hc) (vi hn) rfl⟩
theorem Cz:swapsWith v (some (.Attribute o f p)) n env=pure false:=by
 cases v<;>rfl
def El (G:Ga)(x:Str):Expr->Bool
 |.Dict [] [] _=>EI x G.dt
 |_=>false
def LF (r:R)(G:Ga)(x:Str)(v:Expr):Option ME:=if El G x v=true then some cj else r.e G v
theorem Hs (h:mI kf.K r)(q:LF r G x v=some m):lU kf.K G v m:=by
 unfold LF at q
 split at q
 ·rename_i hn
  cases q
  unfold El at hn
  split at hn
  ·exact⟨vj,inferInstance,λX _=>xl⟩
  ·cases hn
 ·exact h.1 G v m q
def zZ (r:R)(G:Ga)(o:Expr)(f:Str)(v:Expr):Option MS:=(LF r G f v).bind λx=>(r.e G o).bind λa=>some (bA G.ck.cl f a x)
theorem yg (h:mI kf.K r)(q:zZ r G o f v=some m):OU kf.K G (.Assign [.Attribute o f p] v pos) m:=by
 obtain⟨x,e1,q1⟩:=bind_some q
 obtain⟨a,e2,q2⟩:=bind_some q1
 cases q2
 obtain⟨tv,sv,pv'⟩:=Hs h e1
 obtain⟨ta,sa,pa⟩:=h.1 G o a e2
 exact⟨_,Oj G.ck.ok sa sv f,λX ok=>by rw[<-ok.hK];exact NA (pa X ok) (pv' X ok) Cz⟩
noncomputable def stmts (f:Ga->Stmt->Option MS)(G:Ga):List Stmt->Option MS
 |[]=>some aT
 |[s]=>f G s
 |s::b=>(f G s).bind λx=>(stmts f G b).bind λy=>some (ag x y)
def Pu (K:PySem.W.Frag)(f:Ga->Stmt->Option MS):Prop:=∀ G s m,f G s=some m->OU K G s m
theorem hZ (h:Pu kf.K f):∀ {b}{m},stmts f G b=some m->TV kf.K G b m
 |[],m,e=>by cases e;exact⟨Gk,inferInstance,λX _=>Je⟩
 |[s],m,e=>by
  obtain⟨t,st,pt⟩:=h G s m e
  exact⟨t,st,λX ok=>Jf (pt X ok)⟩
 |s::b::c,m,e=>by
  obtain⟨x,e1,q1⟩:=bind_some (show(f G s).bind _=some _ from e)
  obtain⟨y,e2,q2⟩:=bind_some q1
  cases q2
  obtain⟨t,st,pt⟩:=h G s x e1
  obtain⟨u,su,pu⟩:=hZ h e2
  exact⟨OA t u,inferInstance,λX ok=>Fp (pt X ok) (pu X ok)⟩
noncomputable def Ra (m n:MS):MS:=λσ h=>match m σ h with
 |some r=>some r
 |none=>n σ h
theorem RU (A:SS t m)(B:SS u n):SS (JF t u) (Ra m n):=⟨λ{D σ H σu ι h f h'} hs hr e q=>by
 unfold Ra at e
 cases ef:m σu h with
 |some z=>rw[ef]at e;cases e;exact .inl (A.go hs hr ef q)
 |none=>rw[ef]at e;exact .inr (B.go hs hr e q)⟩
def aN (mi:MI)(k:Hw)(d:ME)(g:MG)(b:MS):MS:=Ra (df mi g b) (iA d (df (cO k d) g b))
def J6 (r:R)(f:Ga->Stmt->Option MS)(G:Ga)(tg iter:Expr)(body:List Stmt):Option MS:=if jC iter=true then(P4 G tg).bind λg=>(stmts f G body).bind λb=>match cI r G tg iter with
 |some mi=>match tq r G tg iter with
  |some z=>some (aN mi z.1 z.2 g b)
  |none=>some (df mi g b)
 |none=>(tq r G tg iter).bind λz=>some (iA z.2 (df (cO z.1 z.2) g b))
 else none
theorem Dm (h:mI kf.K r)(hf:Pu kf.K f)(q:J6 r f G tg iter body=some m):OU kf.K G (.For tg iter body [] pos) m:=by
 obtain⟨hs,q0⟩:=ao q
 obtain⟨g,e2,q2⟩:=bind_some q0
 obtain⟨b,e3,q3⟩:=bind_some q2
 obtain⟨R9,sg,pg⟩:=yi e2
 obtain⟨t,st,pt⟩:=hZ hf e3
 have o1:∀ mi,cI r G tg iter=some mi->∃ t,SS t (df mi g b)/\∀ X,lL kf.K G X->PS X (.For tg iter body [] pos) t:=λmi e1=>by
  obtain⟨wi,si,pi⟩:=Dn h e1
  exact⟨Gi wi R9 t,inferInstance,λX ok=>Fj ok.po ok.calm (pi X ok) (pg X ok) (pt X ok) (lO hs)⟩
 have o2:∀ z,tq r G tg iter=some z->∃ t,SS t (iA z.2 (df (cO z.1 z.2) g b))/\∀ X,lL kf.K G X->PS X (.For tg iter body [] pos) t:=λz e1=>by
  obtain⟨wi,si,pi⟩:=vP h e1
  exact⟨Gj wi R9 t,Ol inferInstance,λX ok=>Jd ok.po ok.calm (pi X ok) (pg X ok) (pt X ok) (lO hs)⟩
 split at q3
 ·rename_i mi e1
  split at q3
  ·rename_i z e4
   cases q3
   obtain⟨t1,s1,p1⟩:=o1 mi e1
   obtain⟨t2,s2,p2⟩:=o2 z e4
   exact⟨JF t1 t2,RU s1 s2,λX ok=>KY (p1 X ok) (p2 X ok)⟩
  ·cases q3;exact o1 mi e1
 ·obtain⟨z,e4,q4⟩:=bind_some q3
  cases q4
  exact o2 z e4
def Li (r:R)(f:Ga->Stmt->Option MS)(G:Ga):Stmt->Option MS
 |.Assign [.Name x p] v _=>vM r G x p v
 |.Assign [.Tuple es k p] v _=>zX r G es k p v
 |.Assign [.Subscript o i _] v _=>z0 r G o i v
 |.Assign [.Attribute o f _] v _=>zZ r G o f v
 |.Expr e _=>if nS e=true then(r.e G e).bind λx=>some (aK x) else none
 |.Return (some e) _=>(r.e G e).bind λx=>some (bh x)
 |.If c a b _=>(r.t G c).bind λk=>(stmts f G a).bind λx=>(stmts f G b).bind λy=>some (bg k x y)
 |.For tg iter body [] _=>J6 r f G tg iter body
 |.While c body [] _=>(r.t G c).bind λk=>(stmts f G body).bind λb=>some (c4 k b)
 |_=>none
theorem F9 (h:mI kf.K r)(hf:Pu kf.K f):Pu kf.K (Li r f):=by
 intro G s m q
 cases s with
 |Assign ts v pos=>
  rcases ts with _ | ⟨t,_ | ⟨_,_⟩⟩
  ·cases q
  ·cases t with
   |Name x p=>exact vN h q
   |Tuple es k p=>exact yc h q
   |Subscript o i p=>exact yh h q
   |Attribute o f p=>exact yg h q
   |_=>cases q
  ·cases t<;>cases q
 |Expr e pos=>
  obtain⟨hn,q1⟩:=ao (show(if nS e=true then _ else none)=some _ from q)
  obtain⟨x,e1,q2⟩:=bind_some q1
  cases q2
  obtain⟨t,st,pt⟩:=h.1 G _ x e1
  exact⟨Gh t,inferInstance,λX ok=>Jc (pt X ok) (oZ hn)⟩
 |Return o pos=>
  cases o with
  |some e=>
   obtain⟨x,e1,q2⟩:=bind_some (show(r.e G e).bind _=some _ from q)
   cases q2
   obtain⟨t,st,pt⟩:=h.1 G _ x e1
   exact⟨Oz t,inferInstance,λX ok=>NB (pt X ok)⟩
  |none=>exact nk q
 |If c a b pos=>
  obtain⟨k,e1,q1⟩:=bind_some (show(r.t G c).bind _=some _ from q)
  obtain⟨x,e2,q2⟩:=bind_some q1
  obtain⟨y,e3,q3⟩:=bind_some q2
  cases q3
  obtain⟨tc,sc,pc⟩:=h.2 G _ k e1
  obtain⟨t,st,pt⟩:=hZ hf e2
  obtain⟨u,su,pu⟩:=hZ hf e3
  exact⟨Ou tc t u,inferInstance,λX ok=>Rj (pc X ok) (pt X ok) (pu X ok)⟩
 |For tg iter body Ui pos=>
  cases Ui with
  |cons _ _=>cases q
  |nil=>exact Dm h hf q
 |While c body Ui pos=>
  cases Ui with
  |cons _ _=>cases q
  |nil=>
   obtain⟨k,e1,q1⟩:=bind_some (show(r.t G c).bind _=some _ from q)
   obtain⟨b,e3,q3⟩:=bind_some q1
   cases q3
   obtain⟨tc,sc,pc⟩:=h.2 G _ k e1
   obtain⟨t,st,pt⟩:=hZ hf e3
   exact⟨zE tc t,inferInstance,λX ok=>Fo ok.po (pc X ok) (pt X ok)⟩
 |_=>cases q
noncomputable def Kb:List Nat:=[8,63,86,90,97,99,120,122,124,126,128,151,153,155,157,225,366,368,397,431,465]
noncomputable def cS:Nat->Ga->Stmt->Option MS
 |0=>λ_ _=>none
 |n+1=>λG s=>if Kb.elem s.pos.line=true then some bO else Li (cR 40) (cS n) G s
theorem Dx:∀ n,Pu kf.K (cS n)
 |0=>λ_ _ _ e=>nomatch e
 |n+1=>λG s m e=>by
  by_cases h:Kb.elem s.pos.line=true
  ·cases(abr h).symm.trans e;exact⟨zD,inferInstance,λX ok=>Fn⟩
  ·exact F9 (Dw 40) (Dx n) G s m ((abo h).symm.trans e)
end
section
structure C0 (P:Program)(w:World)(mg:Str->Option Value)(base:Heap)(k:Nat)(G:Ga):Prop where
 fs:∀ x n f,G.fs.lookup x=some (n,f)->∃ ps,Kn P w kf.K mg base k x ps (oh n f)
 bl:∀ x∈G.bl,mg x=none
 tb:∀ x t,G.tb.lookup x=some t->C9 P w kf.K mg x t
 cs:∀ x C n f,G.cs.lookup x=some (C,n,f)->∃ j ps fa fd,Mk kf.K C fa/\dA P w kf.K mg base sx j fa fd ps (oh n f)/\j+1<=k/\mg x=some (.ref C)/\Binds kf.K fd ps []
 ms:∀ m C n f,G.ms.lookup m=some (C,n,f)->∃ j ps fa fd,p8 kf.K C/\Meth kf.K C m fa/\dA P w kf.K mg base sx j fa fd ps (oh n f)/\j<=k/\Binds kf.K fd ps []
theorem Kh (Sc:ja N ps (aC st))(hN:G.N=N)
  (hn:(aC st).names=G.nm) (go:C0 P w mg base k G) (hr:d3 k (A.deeper (PyProof.Rows.envOfC qual (aC st) s.heap.objs.size f kj))) :
  lL kf.K G (yq sx P w kf.K mg base N qual (aC st) f kj A outer s H E).Q2:=by
 refine⟨rfl,hN.symm,Sc.nd,rfl,Sc.kind,λx hx=>by rw[<-hn]at hx;exact hx,λx hx=>by rw[<-hn]at hx;exact hx,λx hx=>⟨by rw[<-hn]at hx;exact hx,rfl⟩,λx hx=>?_,λx hx=>by rw[<-hn]at hx;exact hx,λx n g hl=>?_,go.bl,hr.units,⟨k,hr⟩,PassesOwn.never,go.tb,λx C n g hl=>?_,λx C n g hl=>?_⟩
 ·rw[<-hn]at hx
  exact absurd rfl (Sc.nofree (x,.free) (ab_ hx))
 ·obtain⟨Ja,G⟩:=go.fs x n g hl
  exact⟨k,Ja,G,hr⟩
 ·obtain⟨j,Ja,fa,Up,M,F,hj,hm,hb⟩:=go.cs x C n g hl
  exact⟨j,Ja,fa,Up,M,F,hr.mono hj,hm,hb⟩
 ·obtain⟨j,Ja,fa,Up,c,M,F,hj,hb⟩:=go.ms x C n g hl
  exact⟨j,Ja,fa,Up,c,M,F,hr.mono hj,hb⟩
theorem Qn (F:CK kf.K x qual st f fd)(Sc:ja N ps (aC st))(hN:G.N=N)
  (hn:(aC st).names=G.nm) (hc:stmts (cS 20) G (eN st)=some m) (go:C0 P w mg base k G):dA P w kf.K mg base sx (k+1) f fd ps (oh ps.length (fZ N.length m)):=by
 refine F.ok Sc (λvs H Q E h=>h.1) (λkj A outer s H vs Q E hr h=>?_)
 obtain⟨t,ss,pt⟩:=hZ (Dx 20) hc
 exact⟨t,pt _ (Kh Sc hN hn go hr),DR h⟩
theorem LZ (F:CK kf.K x qual st f fd)(Sc:ja N ps (aC st))(hN:G.N=N)
  (hn:(aC st).names=G.nm) (hc:stmts (cS 20) G (eN st)=some m) (go:C0 P w mg base k G):dA P w kf.K mg base sx (k+1) f fd ps (oh ps.length (dG N.length m)):=by
 refine F.ok Sc (λvs H Q E h=>h.1) (λkj A outer s H vs Q E hr h=>?_)
 obtain⟨t,ss,pt⟩:=hZ (Dx 20) hc
 exact⟨t,pt _ (Kh Sc hN hn go hr),HJ h⟩
end
end S
namespace D51
open PySem L2 S
variable [kf:KF]
noncomputable def gL:List (Str×List Int):=[("say",[1,0,0]),("slip",[1,0,0]),("pass",[0,0,0]),("leave",[0,0,0]),("stop",[0,0,0]),("on",[1,0,0]),("off",[1,0,0]),("call",[1,0,0]),("row",[0,0,4]),("pick",[0,2,3]),("again",[0,1,1]),("when",[1,2,2]),("clean",[0,2,2]),("catch",[0,2,4])]
def fI:MS:=
  (ag (bg (mB (ay (c6 false) (ah (aa 0) (mC (.int 0))) (mC (.str "catch")))) bO aT)
  (ag (ak (ah (qm gL (ah (aa 0) (mC (.int 0)))) (mC (.int 0))) (nName 1))
  (bh (ig (iG eW mT) (ab (sm (aa 0) (cJ (ay aI (mC (.int 1)) (aa 1))) bz) af)))))
def bj:MF:=dG 2 (fI)
def ki (cB:MF):MS:=
  (ag (ak (bZ af) (nName 1))
  (ag (ak (bZ (ab (av (ab (av af) (ab (aa 0) af))) af)) (nName 2))
  (ag (c4 (ij (aa 2)) (ag (ak (i9 mV (aa 2) af) (nName 3))
  (ag (aK (i9 aV (aa 1) (ab (aa 3) af)))
  (ag (ak (ah (aa 3) (mC (.int 0))) (nName 4))
  (ag (ak (ah (aa 3) (mC (.int 1))) (nName 5))
  (ag (ak (bY [none,none,some 4,some 5] (yV (ab (au 1 cB (ab (aa 5) af)) af)) (fW 2 (aM (nName 0) (aM (nName 1) fV))) bS (av (ab (ay aI (aa 2) (av (ab (av (ab (ah (aa 3) (mC (.int 0))) (ab (aa 0) af))) af))) (ab (aa 1) af)))) (nName 6))
  (ag (aK (i9 i5 (aa 6) af))
  (aK (i9 gD (aa 2) (ab (aa 6) af))))))))))
  (bh (aa 1)))))
def pS (cB:MF):MF:=dG 7 (ki cB)
def m6 (iu:MF):MS:=
  (ag (ak (bZ af) (nName 1))
  (ag (aN (aD (ah (aa 0) (mC (.int 2)))) .keys (ah (aa 0) (mC (.int 2))) (fW 2 (aM (nName 2) (aM (nName 3) fV))) (aK (i9 gD (aa 1) (ab (cC [none,none,some 2] (aD (au 1 iu (ab (aa 3) af))) .keys (au 1 iu (ab (aa 3) af)) (fW 2 (aM (nName 0) (aM (nName 1) fV))) bS (av (ab (aa 2) (ab (aa 0) (ab (aa 1) af))))) af))))
  (bh (aa 1))))
def nP (iu:MF):MF:=dG 4 (m6 iu)
def qz:MS:=
  (bh (ay aI (av (ab (aa 0) af)) (ig cp (ab (cC [none,none] (aD (aa 1)) .keys (aa 1) (fW 2 (aM (nName 0) (aM (nName 1) fV))) bS (aa 1)) af))))
def jw:MF:=dG 2 (qz)
def pw (gE:MF)(mN:MF):MS:=
  (bh (cC [none,none,none] (aD (au 1 gE (ab (aa 0) af))) .keys (au 1 gE (ab (aa 0) af)) (fW 3 (aM (nName 0) (aM (nName 1) (aM (nName 2) fV)))) bS (au 2 mN (ab (aa 0) (ab (aa 1) af)))))
def pP (gE:MF)(mN:MF):MF:=dG 1 (pw gE mN)
def ow (cB:MF):MS:=
  (ag (ak (ah (ig nc (ab (ah (aa 0) (mC (.int 2))) af)) (ah (aa 1) (mC (.int 0)))) (nName 2))
  (ag (aN (aD (sm (aa 1) (cJ (mC (.int 1))) bz)) .keys (sm (aa 1) (cJ (mC (.int 1))) bz) (nName 3) (ak (ah (au 1 cB (ab (aa 2) af)) (aa 3)) (nName 2)))
  (bh (aa 2))))
def tQ (cB:MF):MF:=dG 4 (ow cB)
def m4:MS:=
  (ag (ak (ah (aa 1) (mC (.int 0))) (nName 3))
  (ag (bg (mB (ay (c6 false) (aa 3) (mC (.str "slip")))) (bh (aa 0)) aT)
  (ag (bg (mB (ay (c6 false) (aa 3) (mC (.str "pass")))) bO aT)
  (ag (bg (mB (dS false (aa 3) (av (ab (mC (.str "leave")) (ab (mC (.str "stop")) af))))) (bh (aa 3)) aT)
  (bh (mC (.str "done")))))))
def jx:MF:=fZ 4 (m4)
def eM:MS:=
  (ag (bg (mB (ay (c6 false) (ah (aa 1) (mC (.int 0))) (mC (.str "on")))) (bh (ig cp (ab (cC [none,some 1,some 2] (aD (ah (aa 0) (mC (.int 1)))) .keys (ah (aa 0) (mC (.int 1))) (nName 0) (uV (mB (dS false (aa 0) (aa 2))) (mB (ay (c6 false) (aa 0) (ah (aa 1) (mC (.int 1)))))) (aa 0)) af))) aT)
  (ag (bg (mB (ay (c6 false) (ah (aa 1) (mC (.int 0))) (mC (.str "off")))) (bh (ig cp (ab (cC [none,some 1] (aD (aa 2)) .keys (aa 2) (nName 0) (mB (ay (c6 true) (aa 0) (ah (aa 1) (mC (.int 1))))) (aa 0)) af))) aT)
  (bh (aa 2))))
def g9:MF:=dG 3 (eM)
def j6 (ck:fM)(ir:MF)(oB:MF):MS:=
  (ag (bA ck.cl "house" (aa 0) (aa 1))
  (ag (bA ck.cl "watcher" (aa 0) (aa 2))
  (ag (bA ck.cl "deeds" (aa 0) cj)
  (aN (aD (au 1 ir (ab (aa 1) af))) .keys (au 1 ir (ab (aa 1) af)) (nName 3) (az (ba (aj ck.cl "deeds") (aa 0)) (aa 3) (au 2 oB (ab (aa 1) (ab (aa 3) af))))))))
def pL (ck:fM)(ir:MF)(oB:MF):MF:=fZ 4 (j6 ck ir oB)
def ph (ck:fM):MS:=
  (ag (ak (av (ab (ah (ah (ah (ba (aj ck.cl "house") (aa 0)) (mC (.int 2))) (mC (.int 0))) (mC (.int 0))) af)) (nName 1))
  (ag (bg (mB (ay (oG false) (ba (aj ck.cl "watcher") (aa 0)) (mC .aq))) (bh (av (ab (aa 1) (ab (av af) (ab (mC .aq) af))))) aT)
  bO))
def dv (ck:fM):MF:=fZ 2 (ph ck)
def qy (ck:fM):MS:=
  (ag (bg (mB (ay (oG false) (ba (aj ck.cl "watcher") (aa 0)) (mC .aq))) (bh (aa 1)) aT)
  bO)
def mU (ck:fM):MF:=fZ 2 (qy ck)
def kh (ck:fM)(gZ:MF)(mM:MF):MS:=
  (ag (ak (au 3 gZ (ab (ba (aj ck.cl "house") (aa 0)) (ab (aa 1) (ab (au 2 mM (ab (aa 0) (ab (aa 2) af))) af)))) (nName 3))
  (ag (bg (mB (ay (oG false) (ba (aj ck.cl "watcher") (aa 0)) (mC .aq))) (bh (aa 3)) aT)
  (ag bO
  bO)))
def lD (ck:fM)(gZ:MF)(mM:MF):MF:=fZ 4 (kh ck gZ mM)
def sS:MS:=
  (bh (av (ab (av af) (ab (av (ab (aa 0) (ab (av (ab (ay aI (ah (aa 0) (mC (.int 0))) (av (ab (aa 1) af))) (ab (aa 2) (ab (aa 3) af)))) (ab (mC .aq) af)))) (ab (mC .aq) af)))))
def oN:MF:=fZ 4 (sS)
def qA:MS:=
  (bh (av (ab (av af) (ab (mC .aq) (ab (av (ab (aa 0) (ab (aa 1) af))) af)))))
def jy:MF:=fZ 2 (qA)
def kg (d6:MF)(oC:MF):MS:=
  (ag (bg (mB (ay (c6 false) (aa 2) (ay rW (ig (iG eV cN) (ab (aa 1) af)) (mC (.int 1))))) (bh (bZ (ab (au 2 d6 (ab (mC (.str "done")) (ab (aa 3) af))) af))) aT)
  (bh (bZ (ab (au 4 oC (ab (aa 0) (ab (aa 2) (ab (aa 3) (ab (ah (aa 0) (mC (.int 2))) af))))) af))))
def pR (d6:MF)(oC:MF):MF:=dG 4 (kg d6 oC)
def iM (ck:fM)(du:MF)(d6:MF)(jo:MF)(g7:MF):MS:=
  (ag (ak (ah (ba (aj ck.cl "deeds") (aa 0)) (ah (aa 1) (mC (.int 0)))) (nName 2))
  (ag (ak (ah (aa 1) (mC (.int 1))) (nName 3))
  (ag (ak (ah (aa 1) (mC (.int 2))) (nName 4))
  (ag (ak (ah (aa 2) (mC (.int 0))) (nName 5))
  (ag (bg (mB (ay (c6 false) (aa 5) (mC (.str "row")))) (bh (au 4 du (ab (aa 1) (ab (aa 2) (ab (mC (.int 0)) (ab (aa 3) af)))))) aT)
  (ag (bg (mB (ay (c6 false) (aa 5) (mC (.str "pick")))) bO aT)
  (ag (bg (mB (ay (c6 false) (aa 5) (mC (.str "again")))) bO aT)
  (ag (bg (mB (ay (c6 false) (aa 5) (mC (.str "when")))) bO aT)
  (ag (bg (mB (ay (c6 false) (aa 5) (mC (.str "call")))) bO aT)
  (ag (bg (mB (dS false (aa 5) (av (ab (mC (.str "clean")) (ab (mC (.str "catch")) af))))) bO aT)
  (bh (bZ (ab (au 2 d6 (ab (au 3 jo (ab (ah (aa 1) (mC (.int 0))) (ab (aa 2) (ab (aa 4) af)))) (ab (au 3 g7 (ab (aa 0) (ab (aa 2) (ab (aa 3) af)))) af))) af)))))))))))))
def mx (ck:fM)(du:MF)(d6:MF)(jo:MF)(g7:MF):MF:=dG 6 (iM ck du d6 jo g7)
def jk (ck:fM)(du:MF):MS:=
  (ag (ak (ah (aa 1) (mC (.int 0))) (nName 3))
  (ag (ak (ah (ba (aj ck.cl "deeds") (aa 0)) (ah (aa 3) (mC (.int 0)))) (nName 4))
  (ag (ak (ah (ah (ah (aa 1) (mC (.int 1))) (mC (.int 0))) (ba jP (mC (.int 1)))) (nName 5))
  (ag (ak (ah (aa 2) (mC (.int 0))) (nName 6))
  (ag (bg (wO (mB (ay (c6 false) (ah (aa 4) (mC (.int 0))) (mC (.str "row")))) (mB (ay (c6 false) (aa 6) (mC (.str "done"))))) (bh (au 4 du (ab (aa 3) (ab (aa 4) (ab (ay aI (aa 5) (mC (.int 1))) (ab (ah (aa 2) (mC (.int 1))) af)))))) aT)
  (ag (bg (wO (mB (ay (c6 false) (ah (aa 4) (mC (.int 0))) (mC (.str "again")))) (mB (ay (c6 false) (aa 6) (mC (.str "done"))))) bO aT)
  (ag (bg (uV (wO (mB (ay (c6 false) (ah (aa 4) (mC (.int 0))) (mC (.str "again")))) (mB (ay (c6 false) (aa 6) (mC (.str "stop"))))) (wO (mB (ay (c6 false) (ah (aa 4) (mC (.int 0))) (mC (.str "call")))) (mB (ay (c6 false) (aa 6) (mC (.str "leave")))))) bO aT)
  (ag (bg (mB (ay (c6 false) (ah (aa 4) (mC (.int 0))) (mC (.str "clean")))) bO aT)
  (ag (bg (mB (ay (c6 false) (ah (aa 4) (mC (.int 0))) (mC (.str "catch")))) bO aT)
  (bh (bZ (ab (av (ab (av af) (ab (mC .aq) (ab (aa 2) af)))) af))))))))))))
def nO (ck:fM)(du:MF):MF:=dG 7 (jk ck du)
def l5 (ck:fM):MS:=
  (ag (bA ck.cl "view" (aa 0) (aa 1))
  (ag (bA ck.cl "table" (aa 0) cj)
  (ag (bA ck.cl "stands" (aa 0) cj)
  (bA ck.cl "waiting" (aa 0) (bZ af)))))
def mn (ck:fM):MF:=fZ 2 (l5 ck)
def gw (ck:fM):MS:=
  (aK (i9 gD (ba (aj ck.cl "waiting") (aa 0)) (ab (cC [none,some 1] (aD (aa 2)) .keys (aa 2) (nName 0) bS (av (ab (aa 1) (ab (aa 0) af)))) af)))
def gz (ck:fM):MF:=dG 3 (gw ck)
def iq (ck:fM)(bo:Addr)(cz:MF)(aA:MF):MS:=
  (bg (mB (dS true (aa 1) (ba (aj ck.cl "table") (aa 0)))) (ag (az (ba (aj ck.cl "table") (aa 0)) (aa 1) cj)
  (ag (az (ba (aj ck.cl "stands") (aa 0)) (aa 1) cj)
  (aK (bJ bo "need_steps" 3 aA (aa 0) (ab (aa 1) (ab (au 2 cz (ab (ba (aj ck.cl "view") (aa 0)) (ab (aa 1) af))) af)))))) aT)
def iB (ck:fM)(bo:Addr)(cz:MF)(aA:MF):MF:=fZ 2 (iq ck bo cz aA)
def gv (ck:fM)(bo:Addr)(bu:MF)(br:MF)(aA:MF):MS:=
  (ag (ak (ah (aa 1) (mC (.int 1))) (nName 2))
  (ag (aK (bJ bo "need_key" 2 br (aa 0) (ab (aa 2) af)))
  (bg (mB (dS true (aa 1) (ah (ba (aj ck.cl "stands") (aa 0)) (aa 2)))) (ag (az (ah (ba (aj ck.cl "stands") (aa 0)) (aa 2)) (aa 1) (mC (.bl true)))
  (aN (aD (ah (ba (aj ck.cl "table") (aa 0)) (aa 2))) .keys (ah (ba (aj ck.cl "table") (aa 0)) (aa 2)) (nName 3) (aK (bJ bo "need_steps" 3 aA (aa 0) (ab (ah (aa 1) (mC (.int 0))) (ab (au 3 bu (ab (ba (aj ck.cl "view") (aa 0)) (ab (aa 1) (ab (aa 3) af)))) af)))))) aT)))
def gy (ck:fM)(bo:Addr)(bu:MF)(br:MF)(aA:MF):MF:=fZ 4 (gv ck bo bu br aA)
def eI (ck:fM)(bo:Addr)(bu:MF)(aA:MF):MS:=
  (bg (mB (dS true (aa 2) (ah (ba (aj ck.cl "table") (aa 0)) (aa 1)))) (ag (az (ah (ba (aj ck.cl "table") (aa 0)) (aa 1)) (aa 2) (mC (.bl true)))
  (aN (aD (ah (ba (aj ck.cl "stands") (aa 0)) (aa 1))) .keys (ah (ba (aj ck.cl "stands") (aa 0)) (aa 1)) (nName 3) (aK (bJ bo "need_steps" 3 aA (aa 0) (ab (ah (aa 3) (mC (.int 0))) (ab (au 3 bu (ab (ba (aj ck.cl "view") (aa 0)) (ab (aa 3) (ab (aa 2) af)))) af)))))) aT)
def iC (ck:fM)(bo:Addr)(bu:MF)(aA:MF):MF:=fZ 4 (eI ck bo bu aA)
def iO (ck:fM)(bo:Addr)(dq:MF)(iQ:MF)(br:MF)(eP:MF)(dM:MF):MS:=
  (ag (ak (lA bo 2 iQ (ab (aa 0) af)) (nName 1))
  (ag (aK (bJ bo "need_key" 2 br (aa 1) (ab (au 1 dq (ab (aa 0) af)) af)))
  (ag (c4 (ij (ba (aj ck.cl "waiting") (aa 1))) (ag (ak (i9 mV (ba (aj ck.cl "waiting") (aa 1)) af) (nName 2))
  (ag (ak (ah (aa 2) (mC (.int 1))) (nName 3))
  (bg (mB (ay (oG false) (ah (aa 3) (mC (.int 1))) (mC .aq))) (aK (bJ bo "need_way" 3 eP (aa 1) (ab (ah (aa 2) (mC (.int 0))) (ab (ah (aa 3) (mC (.int 2))) af)))) (aK (bJ bo "need_stand" 2 dM (aa 1) (ab (ah (aa 3) (mC (.int 1))) af)))))))
  (ag (ak cj (nName 4))
  (ag (iA (ba (aj ck.cl "table") (aa 1)) (df (cO .items (ba (aj ck.cl "table") (aa 1))) (fW 2 (aM (nName 5) (aM (nName 6) fV))) (az (aa 4) (aa 5) (ig (iG eW mT) (ab (aa 6) af)))))
  (bh (aa 4)))))))
def my (ck:fM)(bo:Addr)(dq:MF)(iQ:MF)(br:MF)(eP:MF)(dM:MF):MF:=fZ 7 (iO ck bo dq iQ br eP dM)
def l6 (ck:fM):MS:=
  (ag (bA ck.cl "prices" (aa 0) cj)
  (ag (bA ck.cl "origins" (aa 0) cj)
  (ag (bA ck.cl "stalls" (aa 0) uT)
  (bA ck.cl "pending" (aa 0) (bZ af)))))
def mv (ck:fM):MF:=fZ 1 (l6 ck)
def eJ (ck:fM):MS:=
  (ag (ak (mC (.int 0)) (nName 2))
  (ag (ak (ig (iG eV cN) (ab (ba (aj ck.cl "pending") (aa 0)) af)) (nName 3))
  (ag (c4 (mB (ay QW (aa 2) (aa 3))) (ag (ak (ay tE (ay aI (aa 2) (aa 3)) (mC (.int 2))) (nName 4))
  (bg (mB (ay Sx (ah (ba (aj ck.cl "pending") (aa 0)) (aa 4)) (aa 1))) (ak (ay aI (aa 4) (mC (.int 1))) (nName 2)) (ak (aa 4) (nName 3)))))
  (bh (aa 2)))))
def iD (ck:fM):MF:=fZ 5 (eJ ck)
def gW (ck:fM)(aR:Addr)(eQ:MF):MS:=
  (ag (bg (wO (mB (dS false (aa 1) (ba (aj ck.cl "prices") (aa 0)))) (mB (ay Vi (ah (ba (aj ck.cl "prices") (aa 0)) (aa 1)) (aa 2)))) bO aT)
  (ag (az (ba (aj ck.cl "prices") (aa 0)) (aa 1) (aa 2))
  (ag (az (ba (aj ck.cl "origins") (aa 0)) (aa 1) (aa 3))
  (ag (bg (mB (dS true (aa 2) (ba (aj ck.cl "stalls") (aa 0)))) (ag (az (ba (aj ck.cl "stalls") (aa 0)) (aa 2) (bZ af))
  (aK (i9 qh (ba (aj ck.cl "pending") (aa 0)) (ab (bJ aR "spot_for" 2 eQ (aa 0) (ab (aa 2) af)) (ab (aa 2) af))))) aT)
  (aK (i9 aV (ah (ba (aj ck.cl "stalls") (aa 0)) (aa 2)) (ab (aa 1) af)))))))
def lC (ck:fM)(aR:Addr)(eQ:MF):MF:=fZ 4 (gW ck aR eQ)
def bT (ck:fM):MS:=
  (ag (ak (i9 mV (ba (aj ck.cl "pending") (aa 0)) af) (nName 1))
  (bh (cC [none,some 1,some 0] (aD (oM (ba (aj ck.cl "stalls") (aa 0)) (aa 1))) .keys (oM (ba (aj ck.cl "stalls") (aa 0)) (aa 1)) (nName 0) (mB (ay (c6 false) (ah (ba (aj ck.cl "prices") (aa 2)) (aa 0)) (aa 1))) (aa 0))))
def c5 (ck:fM):MF:=dG 2 (bT ck)
def gV (ck:fM)(aR:Addr)(aO:Addr)(cz:MF)(cy:MF)(aP:MF):MS:=
  (ag (bA ck.cl "view" (aa 0) (aa 1))
  (ag (bA ck.cl "market" (aa 0) (lA aR 1 cy af))
  (ag (bA ck.cl "stands" (aa 0) cj)
  (ag (bA ck.cl "ways" (aa 0) cj)
  (ag (aN (aD (aa 2)) .keys (aa 2) (nName 3) (ag (az (ba (aj ck.cl "stands") (aa 0)) (aa 3) (bZ af))
  (az (ba (aj ck.cl "ways") (aa 0)) (aa 3) (bZ af))))
  (aN (aD (aa 2)) .keys (aa 2) (nName 3) (aK (bJ aO "offer_steps" 6 aP (aa 0) (ab (aa 3) (ab (au 2 cz (ab (aa 1) (ab (aa 3) af))) (ab (mC (.int 1)) (ab (mC .aq) (ab (mC .aq) af)))))))))))))
def lB (ck:fM)(aR:Addr)(aO:Addr)(cz:MF)(cy:MF)(aP:MF):MF:=fZ 4 (gV ck aR aO cz cy aP)
def dc (ck:fM)(aR:Addr)(bI:MF):MS:=
  (aN (aD (aa 2)) .keys (aa 2) (nName 6) (ag (ak (S3 (mB (ay (oG false) (ah (aa 6) (mC (.int 1))) (mC .aq))) (av (ab (aa 1) (ab (ah (aa 6) (mC (.int 2))) af))) (ah (aa 6) (mC (.int 1)))) (nName 7))
  (aK (bJ aR "offer" 4 bI (ba (aj ck.cl "market") (aa 0)) (ab (aa 7) (ab (aa 3) (ab (av (ab (ah (aa 6) (mC (.int 0))) (ab (aa 4) (ab (aa 5) af)))) af)))))))
def fw (ck:fM)(aR:Addr)(bI:MF):MF:=fZ 8 (dc ck aR bI)
def jI (ck:fM)(aO:Addr)(bu:MF)(aP:MF):MS:=
  (ag (ak (ay aI (ah (ba (aj ck.cl "prices") (ba (aj ck.cl "market") (aa 0))) (aa 1)) (ah (ba (aj ck.cl "prices") (ba (aj ck.cl "market") (aa 0))) (av (ab (ah (aa 1) (mC (.int 1))) (ab (aa 2) af))))) (nName 3))
  (aK (bJ aO "offer_steps" 6 aP (aa 0) (ab (ah (aa 1) (mC (.int 0))) (ab (au 3 bu (ab (ba (aj ck.cl "view") (aa 0)) (ab (aa 1) (ab (aa 2) af)))) (ab (aa 3) (ab (aa 1) (ab (aa 2) af))))))))
def jL (ck:fM)(aO:Addr)(bu:MF)(aP:MF):MF:=fZ 4 (jI ck aO bu aP)
def cW (ck:fM)(aO:Addr)(bN:MF):MS:=
  (ag (aK (i9 aV (ah (ba (aj ck.cl "stands") (aa 0)) (ah (aa 1) (mC (.int 1)))) (ab (aa 1) af)))
  (aN (aD (ah (ba (aj ck.cl "ways") (aa 0)) (ah (aa 1) (mC (.int 1))))) .keys (ah (ba (aj ck.cl "ways") (aa 0)) (ah (aa 1) (mC (.int 1)))) (nName 2) (aK (bJ aO "go_on" 3 bN (aa 0) (ab (aa 1) (ab (aa 2) af))))))
def eX (ck:fM)(aO:Addr)(bN:MF):MF:=fZ 3 (cW ck aO bN)
def dk (ck:fM)(aO:Addr)(bN:MF):MS:=
  (ag (aK (i9 aV (ah (ba (aj ck.cl "ways") (aa 0)) (aa 1)) (ab (aa 2) af)))
  (aN (aD (ah (ba (aj ck.cl "stands") (aa 0)) (aa 1))) .keys (ah (ba (aj ck.cl "stands") (aa 0)) (aa 1)) (nName 3) (aK (bJ aO "go_on" 3 bN (aa 0) (ab (aa 3) (ab (aa 2) af))))))
def fS (ck:fM)(aO:Addr)(bN:MF):MF:=fZ 4 (dk ck aO bN)
def ji (ck:fM)(aO:Addr)(aR:Addr)(gX:MF)(aB:MF)(dm:MF)(cX:MF):MS:=
  (ag (ak (lA aO 3 gX (ab (aa 0) (ab (aa 1) af))) (nName 2))
  (ag (c4 (ij (ba (aj ck.cl "pending") (ba (aj ck.cl "market") (aa 2)))) (aN (aD (bJ aR "take_cheapest" 1 aB (ba (aj ck.cl "market") (aa 2)) af)) .keys (bJ aR "take_cheapest" 1 aB (ba (aj ck.cl "market") (aa 2)) af) (nName 3) (bg (mB (ay (c6 false) (ig (iG eV cN) (ab (aa 3) af)) (mC (.int 2)))) (aK (bJ aO "settle_way" 3 dm (aa 2) (ab (ah (aa 3) (mC (.int 0))) (ab (ah (aa 3) (mC (.int 1))) af)))) (aK (bJ aO "settle_stand" 2 cX (aa 2) (ab (aa 3) af))))))
  (bh (aa 2))))
def nN (ck:fM)(aO:Addr)(aR:Addr)(gX:MF)(aB:MF)(dm:MF)(cX:MF):MF:=fZ 4 (ji ck aO aR gX aB dm cX)
def gm (ck:fM)(aR:Addr)(dq:MF)(cy:MF)(bI:MF)(aB:MF):MS:=
  (ag (ak cj (nName 3))
  (ag (aN (aD (aa 1)) .keys (aa 1) (nName 4) (az (aa 3) (aa 4) (bZ af)))
  (ag (aN (aD (aa 1)) .keys (aa 1) (nName 4) (aN (aD (ah (ba (aj ck.cl "stands") (aa 2)) (aa 4))) .keys (ah (ba (aj ck.cl "stands") (aa 2)) (aa 4)) (nName 5) (aK (i9 aV (ah (aa 3) (ah (aa 5) (mC (.int 0)))) (ab (aa 5) af)))))
  (ag (ak (lA aR 1 cy af) (nName 6))
  (ag (aK (bJ aR "offer" 4 bI (aa 6) (ab (au 1 dq (ab (aa 0) af)) (ab (mC (.int 0)) (ab (mC .aq) af)))))
  (ag (c4 (ij (ba (aj ck.cl "pending") (aa 6))) (aN (aD (bJ aR "take_cheapest" 1 aB (aa 6) af)) .keys (bJ aR "take_cheapest" 1 aB (aa 6) af) (nName 4) (aN (aD (ah (aa 3) (aa 4))) .keys (ah (aa 3) (aa 4)) (nName 5) (aK (bJ aR "offer" 4 bI (aa 6) (ab (ah (aa 5) (mC (.int 1))) (ab (ay aI (ah (ba (aj ck.cl "prices") (aa 6)) (aa 4)) (ah (ba (aj ck.cl "prices") (ba (aj ck.cl "market") (aa 2))) (aa 5))) (ab (aa 5) af))))))))
  (bh (aa 6))))))))
def jM (ck:fM)(aR:Addr)(dq:MF)(cy:MF)(bI:MF)(aB:MF):MF:=fZ 7 (gm ck aR dq cy bI aB)
def fA (ck:fM)(iS:MF)(jl:MF)(gn:MF):MS:=
  (ag (bA ck.cl "view" (aa 0) (aa 1))
  (ag (bA ck.cl "table" (aa 0) (au 1 iS (ab (aa 1) af)))
  (ag (ak (au 2 jl (ab (aa 1) (ab (ba (aj ck.cl "table") (aa 0)) af))) (nName 2))
  (ag (bA ck.cl "endings" (aa 0) (ba (aj ck.cl "market") (aa 2)))
  (bA ck.cl "beginnings" (aa 0) (au 3 gn (ab (aa 1) (ab (ba (aj ck.cl "table") (aa 0)) (ab (aa 2) af)))))))))
def iX (ck:fM)(iS:MF)(jl:MF)(gn:MF):MF:=fZ 3 (fA ck iS jl gn)
def cG (ck:fM):MS:=
  (ag (ak cj (nName 1))
  (ag (ak cj (nName 2))
  (ag (iA (ba (aj ck.cl "table") (aa 0)) (df (cO .items (ba (aj ck.cl "table") (aa 0))) (fW 2 (aM (nName 3) (aM (nName 4) fV))) (ag (az (aa 1) (aa 3) (ah (ba (aj ck.cl "prices") (ba (aj ck.cl "beginnings") (aa 0))) (aa 3)))
  (aN (aD (aa 4)) .keys (aa 4) (nName 5) (az (aa 2) (av (ab (aa 3) (ab (aa 5) af))) (ah (ba (aj ck.cl "prices") (ba (aj ck.cl "endings") (aa 0))) (av (ab (aa 3) (ab (aa 5) af)))))))))
  (bh (av (ab (aa 1) (ab (aa 2) af)))))))
def ej (ck:fM):MF:=fZ 6 (cG ck)
def ke (ip:Addr)(xP:Addr)(fB:MF)(kH:MF)(cH:MF):MS:=
  (bh (bJ ip "both_prices" 1 cH (lA ip 2 fB (ab (lA xP 3 kH (ab (aa 0) (ab (mC .aq) af))) af)) af))
def pQ (ip:Addr)(xP:Addr)(fB:MF)(kH:MF)(cH:MF):MF:=dG 1 (ke ip xP fB kH cH)
def iN:MS:=
  (ag (bg (mB (ay QW (aa 1) (ig (iG eV cN) (ab (aa 0) af)))) (bh (ah (aa 0) (aa 1))) aT)
  (bh (mC (.int 0))))
def aY:MF:=fZ 2 (iN)
def jj (iR:MF):MS:=
  (ag (ak (au 2 iR (ab (aa 0) (ab (aa 1) af))) (nName 2))
  (ag (bg (mB (ay (c6 false) (aa 2) (mC (.int 0)))) (bh (bZ (ab (mC (.int 0)) af))) aT)
  (ag (bg (mB (ay Us (aa 2) (ay Fg (mC (.int 10)) (mC (.int 18))))) (bh (bZ (ab (ay rW (aa 2) (ay Fg (mC (.int 10)) (mC (.int 18)))) af))) aT)
  (ag (ak (mC (.int 2305843009213693951)) (nName 3))
  (ag (ak (ay jO (ay aI (ay aI (ay (d7 ik dU) (aa 2) (mC (.int 48271))) (ay (d7 ik dU) (mC (.int 69621)) (aa 1))) (mC (.int 11))) (aa 3)) (nName 4))
  (ag (ak (ay jO (ay aI (ay aI (ay (d7 ik dU) (aa 4) (aa 4)) (ay (d7 ik dU) (mC (.int 40692)) (aa 1))) (aa 4)) (aa 3)) (nName 5))
  (ag (ak (ay jO (ay aI (ay (d7 ik dU) (aa 5) (aa 5)) (aa 4)) (aa 3)) (nName 6))
  (ag (ak (ay jO (ay aI (ay (d7 ik dU) (aa 6) (aa 6)) (aa 5)) (aa 3)) (nName 7))
  (bh (bZ (ab (ay aI (ay (d7 ik dU) (ay aI (ay (d7 ik dU) (ay aI (ay (d7 ik dU) (aa 4) (aa 3)) (aa 5)) (aa 3)) (aa 6)) (aa 3)) (aa 7)) af)))))))))))
def b5 (iR:MF):MF:=fZ 8 (jj iR)
def pq:MS:=
  (ag (ak (ay jO (ah (aa 0) (mC (.int 0))) (aa 1)) (nName 2))
  (ag (az (aa 0) (mC (.int 0)) (ay tE (ah (aa 0) (mC (.int 0))) (aa 1)))
  (bh (aa 2))))
def aw:MF:=fZ 3 (pq)
def fQ (aJ:MF):MS:=
  (ag (ak (mC (.str "abcdefghijklmnopqrstuvwxyz")) (nName 2))
  (ag (ak (au 2 aJ (ab (aa 0) (ab (mC (.int 3)) af))) (nName 3))
  (ag (ak (au 2 aJ (ab (aa 0) (ab (mC (.int 26)) af))) (nName 4))
  (ag (ak (ay rW (mC (.int 1)) (ay (d7 ik dU) (mC (.int 2)) (au 2 aJ (ab (aa 0) (ab (mC (.int 2)) af))))) (nName 5))
  (ag (bg (mB (ay (c6 false) (aa 3) (mC (.int 0)))) (ag (ak (ay aI (ah (aa 2) (aa 4)) (mC (.str "kovistu"))) (nName 6))
  (ak (bY [none,some 6] (bQ (ab (aa 1) af)) (nName 0) bS (sm (aa 1) bz (cJ (ay aI (aa 0) (mC (.int 1)))))) (nName 7))) (bg (mB (ay (c6 false) (aa 3) (mC (.int 1)))) (ag (ak (bZ (ab (mC (.str "say")) (ab (mC (.str "slip")) (ab (mC (.str "pass")) (ab (mC (.str "of")) (ab (mC (.str "with")) (ab (mC (.str "else")) (ab (mC (.str "kinds")) (ab (mC (.str "marks")) (ab (mC (.str "front")) (ab (mC (.str "pick")) (ab (mC (.str "row")) af)))))))))))) (nName 8))
  (ak (bY [none,some 4,some 8] (bQ (ab (aa 1) af)) (nName 0) bS (ah (ay aI (aa 2) (bZ (ab (mC (.str "done")) (ab (mC (.str "end")) af)))) (ay jO (ay aI (aa 1) (aa 0)) (mC (.int 13))))) (nName 7))) (ag (ak (au 2 aJ (ab (aa 0) (ab (mC (.int 5)) af))) (nName 9))
  (ak (bY [none,some 9,some 2,some 4] (bQ (ab (aa 1) af)) (nName 0) bS (ay aI (ay aI (sm (mC (.str "melon")) bz (cJ (aa 1))) (ah (aa 2) (ay jO (ay aI (aa 3) (aa 0)) (mC (.int 26))))) (sm (mC (.str "melon")) (cJ (ay aI (aa 1) (mC (.int 1)))) bz))) (nName 7)))))
  (bh (rz (aa 7) (cJ (aa 5)))))))))
def iE (aJ:MF):MF:=dG 10 (fQ aJ)
def j8 (aJ:MF)(cM:MF):MS:=
  (ag (ak (ay aI (mC (.int 1)) (au 2 aJ (ab (aa 0) (ab (ah (bZ (ab (mC (.int 4)) (ab (mC (.int 8)) af))) (ig Ej (ab (ay (c6 false) (au 2 aJ (ab (aa 0) (ab (mC (.int 6)) af))) (mC (.int 5))) af))) af)))) (nName 1))
  (ag (ak (au 2 cM (ab (aa 0) (ab (aa 1) af))) (nName 2))
  (ag (ak (bZ af) (nName 3))
  (ag (df (bQ (ab (aa 1) af)) (nName 4) (ag (ak (au 2 aJ (ab (aa 0) (ab (mC (.int 3)) af))) (nName 5))
  (bg (uV (mB (ay (c6 false) (aa 4) (mC (.int 0)))) (mB (ay (c6 false) (aa 5) (mC (.int 0))))) (aK (i9 aV (aa 3) (ab (av (ab (ah (aa 2) (aa 4)) (ab (mC (.str "")) af))) af))) (aK (i9 aV (aa 3) (ab (av (ab (ah (aa 2) (aa 4)) (ab (ah (aa 2) (au 2 aJ (ab (aa 0) (ab (aa 4) af)))) af))) af))))))
  (bh (ig cp (ab (aa 3) af)))))))
def pO (aJ:MF)(cM:MF):MF:=dG 6 (j8 aJ cM)
def j9:MS:=
  (ag (bg (mB (dS false (ah (aa 0) (mC (.int 0))) (av (ab (mC (.str "row")) (ab (mC (.str "pick")) (ab (mC (.str "again")) (ab (mC (.str "clean")) af))))))) (bh (ig (iG eW mT) (ab (sm (aa 0) (cJ (mC (.int 1))) bz) af))) aT)
  (ag (bg (mB (ay (c6 false) (ah (aa 0) (mC (.int 0))) (mC (.str "when")))) bO aT)
  (ag (bg (mB (ay (c6 false) (ah (aa 0) (mC (.int 0))) (mC (.str "catch")))) bO aT)
  (bh (bZ af)))))
def cP:MF:=dG 1 (j9)
def j7 (kQ:MF):MS:=
  (ag (ak cj (nName 1))
  (ag (aN (aD (ah (aa 0) (mC (.int 2)))) .keys (ah (aa 0) (mC (.int 2))) (fW 2 (aM (nName 2) (aM (nName 3) fV))) (ag (ak (bZ (ab (av (ab (av (ab (aa 2) af)) (ab (aa 3) af))) af)) (nName 4))
  (c4 (mB (ay (c6 true) (aa 4) (bZ af))) (ag (ak (i9 mV (aa 4) af) (fW 2 (aM (nName 5) (aM (nName 6) fV))))
  (ag (az (aa 1) (aa 5) (aa 6))
  (ag (ak (au 1 kQ (ab (aa 6) af)) (nName 7))
  (df (rq (ab (ay rW (ig (iG eV cN) (ab (aa 7) af)) (mC (.int 1))) (ab (ba jP (mC (.int 1))) (ab (ba jP (mC (.int 1))) af)))) (nName 8) (aK (i9 aV (aa 4) (ab (av (ab (ay aI (aa 5) (av (ab (aa 8) af))) (ab (ah (aa 7) (aa 8)) af))) af))))))))))
  (bh (aa 1))))
def pN (kQ:MF):MF:=dG 9 (j7 kQ)
def bW:MS:=
  (ag (ak (aa 2) (fW 3 (aM (nName 3) (aM (nName 4) (aM (nName 5) fV)))))
  (ag (ak (ah (aa 1) (aa 3)) (nName 6))
  (ag (bg (mB (ay (c6 false) (ah (aa 6) (mC (.int 0))) (mC (.str "slip")))) (bh (av (ab (aa 3) (ab (aa 4) af)))) aT)
  (ag (bg (mB (ay (c6 false) (ah (aa 6) (mC (.int 0))) (mC (.str "pass")))) bO aT)
  (ag (bg (uV (mB (ay (c6 false) (ah (aa 6) (mC (.int 0))) (mC (.str "leave")))) (mB (ay (c6 false) (ah (aa 6) (mC (.int 0))) (mC (.str "stop"))))) (bh (av (ab (ah (aa 6) (mC (.int 0))) (ab (aa 4) af)))) aT)
  (ag (bg (mB (ay (c6 false) (ah (aa 6) (mC (.int 0))) (mC (.str "on")))) (bh (av (ab (mC (.str "done")) (ab (ig cp (ab (cC [none,some 6,some 4] (aD (ah (aa 0) (mC (.int 1)))) .keys (ah (aa 0) (mC (.int 1))) (nName 0) (uV (mB (ay (c6 false) (aa 0) (ah (aa 1) (mC (.int 1))))) (mB (dS false (aa 0) (aa 2)))) (aa 0)) af)) af)))) aT)
  (ag (bg (mB (ay (c6 false) (ah (aa 6) (mC (.int 0))) (mC (.str "off")))) (bh (av (ab (mC (.str "done")) (ab (ig cp (ab (cC [none,some 6] (aD (aa 4)) .keys (aa 4) (nName 0) (mB (ay (c6 true) (aa 0) (ah (aa 1) (mC (.int 1))))) (aa 0)) af)) af)))) aT)
  (bh (av (ab (mC (.str "done")) (ab (aa 4) af)))))))))))
def dw:MF:=dG 7 (bW)
def pv:MS:=
  (bh (pK (uU "int" (aa 0)) (Aw (uU "bool" (aa 0)))))
def iF:MF:=fZ 1 (pv)
def d4 (kW:MF):MS:=
  (ag (bg (uV (sM (ij (uU "dict" (aa 0)))) (mB (ay (c6 true) (ig (iG eV cN) (ab (aa 0) af)) (ig (iG eV cN) (ab (aa 1) af))))) bO aT)
  (bh (ig Hg (ab (cC [none,some 1,some 0] (aD (aa 1)) .keys (aa 1) (nName 0) bS (pK (dS false (aa 0) (aa 2)) (pK (au 1 kW (ab (ah (aa 2) (aa 0)) af)) (ay (c6 false) (ah (aa 2) (aa 0)) (ah (aa 1) (aa 0)))))) af))))
def g8 (kW:MF):MF:=dG 2 (d4 kW)
def J1 (jm:MF)(kK:MF)(cM:MF)(aJ:MF)(kJ:MF)(gY:MF)(kY:MF)(cY:MF):MS:=
  (ag (ak (au 2 jm (ab (aa 0) (ab (mC (.int 0)) af))) (nName 1))
  (ag (ak (au 2 jm (ab (aa 0) (ab (mC (.int 1)) af))) (nName 2))
  (ag (ak (au 1 kK (ab (aa 2) af)) (nName 3))
  (ag (ak (ig cp (ab (au 2 cM (ab (aa 2) (ab (mC (.int 2)) af))) af)) (nName 4))
  (ag (ak (ah (au 2 cM (ab (aa 2) (ab (mC (.int 1)) af))) (mC (.int 0))) (nName 5))
  (ag (ak (au 2 aJ (ab (aa 1) (ab (mC (.int 8)) af))) (nName 6))
  (ag (ak (bZ (ab (av (ab (mC (.str "say")) (ab (aa 5) af))) (ab (av (ab (mC (.str "on")) (ab (ah (aa 4) (mC (.int 0))) af))) (ab (av (ab (mC (.str "on")) (ab (ah (aa 4) (mC (.int 1))) af))) (ab (av (ab (mC (.str "off")) (ab (ah (aa 4) (mC (.int 0))) af))) (ab (av (ab (mC (.str "row")) af)) (ab (av (ab (mC (.str "say")) (ab (ah (aa 4) (mC (.int 0))) af))) af))))))) (nName 7))
  (ag (ak (ay aI (aa 7) (bZ (ab (av (ab (mC (.str "leave")) af)) (ab (av (ab (mC (.str "slip")) (ab (ah (ah (aa 3) (ba jP (mC (.int 1)))) (mC (.int 0))) af))) (ab (av (ab (mC (.str "slip")) (ab (ah (ah (aa 3) (mC (.int 0))) (mC (.int 0))) af))) af))))) (nName 7))
  (ag (ak (bY [none,some 7,some 1] (bQ (ab (au 2 aJ (ab (aa 1) (ab (mC (.int 5)) af))) af)) (nName 0) bS (ah (aa 1) (au 2 aJ (ab (aa 2) (ab (mC (.int 9)) af))))) (nName 9))
  (ag (ak (ay aI (av (ab (mC (.str "row")) af)) (ig cp (ab (aa 9) af))) (nName 10))
  (ag (df (bQ (ab (aa 6) af)) (nName 8) (ak (av (ab (mC (.str "row")) (ab (aa 10) af))) (nName 10)))
  (ag (ak (av (ab (aa 3) (ab (aa 4) (ab (av (ab (av (ab (aa 5) (ab (aa 10) af))) af)) af)))) (nName 11))
  (ag (ak (au 1 kJ (ab (aa 11) af)) (nName 12))
  (ag (ak (ay aI (av (ab (aa 5) af)) (ay (d7 ik dU) (av (ab (mC (.int 0)) af)) (aa 6))) (nName 13))
  (ag (ak cj (nName 14))
  (ag (ak cj (nName 15))
  (ag (ak (av (ab (mC (.str "done")) (ab (av af) af))) (nName 16))
  (ag (df (bQ (ab (ig (iG eV cN) (ab (aa 9) af)) af)) (nName 8) (bg (mB (ay (c6 false) (ah (aa 16) (mC (.int 0))) (mC (.str "done")))) (ag (ak (av (ab (ay aI (aa 13) (av (ab (aa 8) af))) (ab (ah (aa 16) (mC (.int 1))) (ab (mC .aq) af)))) (nName 17))
  (ag (az (aa 14) (aa 17) (ay aI (ay aI (aa 6) (mC (.int 1))) (aa 8)))
  (ag (ak (au 3 gY (ab (aa 11) (ab (aa 12) (ab (aa 17) af)))) (nName 16))
  (az (aa 15) (av (ab (aa 17) (ab (aa 16) af))) (mC (.int 1)))))) aT))
  (ag (ak (ig (iG eV cN) (ab (aa 14) af)) (nName 18))
  (ag (df (bQ (ab (ay aI (aa 6) (mC (.int 1))) af)) (nName 8) (ag (ak (av (ab (ay aI (av (ab (aa 5) af)) (ay (d7 ik dU) (av (ab (mC (.int 0)) af)) (aa 8))) (ab (av af) (ab (mC .aq) af)))) (nName 17))
  (ag (az (aa 14) (aa 17) (aa 8))
  (az (aa 15) (av (ab (aa 17) (ab (aa 16) af))) (ay rW (ay aI (ay aI (aa 18) (mC (.int 1))) (aa 6)) (aa 8))))))
  (ag (ak (au 1 kY (ab (aa 11) af)) (nName 19))
  (ag (bg (uV (sM (ij (uU "tuple" (aa 19)))) (uV (mB (ay (c6 true) (ig (iG eV cN) (ab (aa 19) af)) (mC (.int 2)))) (sM (ij (au 2 cY (ab (ah (aa 19) (mC (.int 0))) (ab (aa 14) af))))))) bO aT)
  (bh (au 2 cY (ab (ah (aa 19) (mC (.int 1))) (ab (aa 15) af))))))))))))))))))))))))))
def Kz (jm:MF)(kK:MF)(cM:MF)(aJ:MF)(kJ:MF)(gY:MF)(kY:MF)(cY:MF):MF:=dG 20 (J1 jm kK cM aJ kJ gY kY cY)
end D51
namespace S
open PySem PySem.W L2
variable [kf:KF]
def vG (K:Frag)(x qual:Str)(st:Stmt)(f:Addr):Prop:=∃ (oc:Value) (od:Option Addr) (kV doc pm:Value) (an:Option Addr) (kj ct:Value) (CT:Array (Option Value)),
 K.lookup f=some ⟨oc,od,.func (fnOf x qual (lM st) (eN st) (aC st) .none kV doc pm an kj ct),CT⟩/\codeIn K kj qual=true/\keepIn K (.ref f)=true
def jf (K:Frag)(x:Str)(f:Addr):Prop:=nsIn K mainGlobals x=some (some (.ref f))
def dI (K:Frag)(x:Str)(st:Stmt):Prop:=∃ f,jf K x f/\vG K x x st f
def MethAt (K:Frag)(C:Addr)(m qual:Str)(st:Stmt):Prop:=∃ f,Meth K C m f/\vG K m qual st f
def oj (K:Frag)(C:Addr)(qual:Str)(st:Stmt):Prop:=∃ f,Mk K C f/\vG K "__init__" qual st f
theorem vG.fun (d:vG K x qual st f):∃ fd,CK K x qual st f fd:=by
 obtain⟨oc,od,kV,doc,pm,an,kj,ct,CT,l,c,k⟩:=d
 exact⟨_,DU l c k⟩
noncomputable def BL:List Str:=["len","list","tuple","int","max","min","sum","all","range","isinstance","str","dict","bool","reversed","enumerate","any","set","zip","repr"]
def HF (P:Program)(w:World)(mg:Str->Option Value)(base:Heap)(k:Nat)(x:Str)(n:Nat)(f:MF):Prop:=∃ ps,L2.Kn P w kf.K mg base k x ps (oh n f)
def HC (P:Program)(w:World)(mg:Str->Option Value)(base:Heap)(k:Nat)(x:Str)(C:Addr)(n:Nat)(f:MF):Prop:=∃ j ps fa fd,Mk kf.K C fa/\dA P w kf.K mg base sx j fa fd ps (oh n f)/\j+1<=k/\mg x=some (.ref C)/\Binds kf.K fd ps []
def HM (P:Program)(w:World)(mg:Str->Option Value)(base:Heap)(k:Nat)(x:Str)(C:Addr)(n:Nat)(f:MF):Prop:=∃ j ps fa fd,p8 kf.K C/\Meth kf.K C x fa/\dA P w kf.K mg base sx j fa fd ps (oh n f)/\j<=k/\Binds kf.K fd ps []
theorem Kj (X:kf.K.In h)(G:h.Ns mainGlobals mg)(y:jf kf.K x a)(F:CK kf.K x x st a fd)(o:dA P w kf.K mg base sx j a fd ps (oh n f))(b:Binds kf.K fd ps [])(hk:j<=k):HF P w mg base k x n f:=
 ⟨_,a,fd,o.mono hk,b,F.kp,PySem.W.mg_of X G y⟩
def uo {α:Type}(P:Str->α->Prop)(l:List (Str×α)):Prop:=∀ x a,l.lookup x=some a->P x a
theorem uo.nil {α:Type}{P:Str->α->Prop}:uo P []:=λ_ _ h=>by simp at h
theorem uo.cons {α:Type}{P:Str->α->Prop}{x:Str}{a:α}{l:List (Str×α)}(h:P x a)(r:uo P l):uo P ((x,a)::l):=λy b e=>by
 rw[abM]at e
 by_cases q:y=x
 ·subst q
  simp at e
  rw[<-e];exact h
 ·rw[acg.mpr q]at e
  exact r y b e
section
theorem aS (fs:uo (λx (a:Nat×MF)=>HF P w mg base k x a.1 a.2) G.fs)(bl:∀ x∈G.bl,mg x=none)(tb:uo (λx t=>C9 P w kf.K mg x t) G.tb:=by exact .nil)
  (cs:uo (λx (a:Addr×Nat×MF)=>HC P w mg base k x a.1 a.2.1 a.2.2) G.cs:=by exact .nil)
  (ms:uo (λx (a:Addr×Nat×MF)=>HM P w mg base k x a.1 a.2.1 a.2.2) G.ms:=by exact .nil):C0 P w mg base k G:=
 ⟨λx n f h=>fs x (n,f) h,bl,tb,λx C n f h=>cs x (C,n,f) h,λx C n f h=>ms x (C,n,f) h⟩
theorem PY {K:Frag}{h:Heap}{l:List Str}(X:K.In h)(G:h.Ns mainGlobals mg)(e:(l.all λx=>decide (nsIn K mainGlobals x=some none))=true):∀ x∈l,mg x=none:=λx hx=>
 PySem.W.mg_none_of X G (of_decide_eq_true (List.all_eq_true.mp e x hx))
end
def TupAt (K:Frag)(b:Addr)(ns:List Int):Prop:=∃ (o:Obj) (its:Array Value) (n:Nat),K.lookup b=some o/\o.cls=.type "tuple"/\o.data=.seq its n/\its.size<=sizeLine/\Vals (ns.map V.int) its.toList
inductive xV (K:Frag)(w:World):List DictEntry->List (Str×List Int)->Prop
 |nil:xV K w [] []
 |cons {e:DictEntry} {x:Str} {t:Tok} {b:Addr} {ns:List Int} {es:List DictEntry} {r:List (Str×List Int)}:e.key=.str x t->e.hash=hashStr w x->e.val=.ref b->TupAt K b ns->xV K w es r->xV K w (e::es) ((x,ns)::r)
theorem xV.vals (P):∀ {es:List DictEntry}{t:List (Str×List Int)},xV K w es t->∃ vs:List (Key×Value),Pairs (bB P w) es vs/\vs.map (·.1)=t.map (λp=>Sum.inr p.1)/\
  (∀ e∈es,∃ k,(bB P w).is k e.key=true/\e.hash=(bB P w).hash k)/\∀ z ns,t.lookup z=some ns->∃ b,valueAt vs (Sum.inr z)=some (.ref b)/\TupAt K b ns
 |_,_,.nil=>⟨[],.nil,rfl,by simp,λz ns h=>by simp at h⟩
 |_,_,.cons (e:=e) (x:=x) (t:=t) (b:=b) (ns:=ns) h1 h2 h3 h4 r=>by
  obtain⟨vs,a1,a2,a3,a4⟩:=r.vals P
  refine⟨(Sum.inr x,.ref b)::vs,.cons (by rw[h1];exact lE P w x t) h3 a1,by simp[a2],?_,?_⟩
  ·intro e' he
   rcases abW.mp he with z | z
   ·subst z
    exact⟨Sum.inr x,by rw[h1];exact lE P w x t,h2⟩
   ·exact a3 e' z
  ·intro z ms hl
   rw[abM]at hl
   by_cases q:z=x
   ·subst q
    simp at hl
    subst hl
    exact⟨b,by simp[valueAt],h4⟩
   ·rw[acg.mpr q]at hl
    obtain⟨b',e1,e2⟩:=a4 z ms hl
    refine⟨b',?_,e2⟩
    have ne:¬ (x=z):=λy=>q y.symm
    unfold valueAt at e1 ⊢
    rw[acr]
    simpa [ne]using e1
theorem OE (hm:mg x=some (.ref a))(l:K.lookup a=some o)(hd:o.ExactDict)(jN:o.data=.dict es ep)(te:xV K w es.toList t)
  (nd:(t.map (·.1)).Nodup) (hs:(a == sysModules)=false):C9 P w K mg x t:=by
 obtain⟨vs,a1,a2,a3,a4⟩:=te.vals P
 refine⟨a,vs,hm,λh X=>⟨o,es,ep,X a o l,hd,jN,λe he=>a3 e (by simpa using he),a1,?_⟩,a4,hs⟩
 rw[a2]
 have:t.map (λp=>(Sum.inr p.1:Key))=(t.map (·.1)).map Sum.inr:=by rw[abT];rfl
 rw[this]
 exact List.Pairwise.map _ (λa b hab z=>hab (Sum.inr.inj z)) nd
theorem Gr {α:Type}{N:List α}{n:Nat}:N.take (N.take n).length=N.take n:=by
 rw[acz]
 by_cases h:n<=N.length
 ·rw[acv h]
 ·rw[Nat.min_eq_right (by lia),acy (abl _),acy (by lia)]
section
def OS (st:Stmt)(n:Nat)(G:Ga)(x qual:Str)(kV doc pm:Value)(an:Option Addr)(kj ct:Value)(us:List Value):Prop:=bindArgs (fnOf x qual (lM st) (eN st) (aC st) .none kV doc pm an kj ct) ⟨us,[]⟩=pure ((G.N.take n).zip us)
def HB (st:Stmt)(n:Nat)(G:Ga)(x qual:Str):Prop:=∀ a b c d e f us,us.length=(G.N.take n).length->OS st n G x qual a b c d e f us
structure GK (st:Stmt)(n:Nat)(G:Ga)(m:MS)(x qual:Str):Prop where
 sc:ja G.N (G.N.take n) (aC st)
 hn:(aC st).names=G.nm
 hc:stmts (cS 20) G (eN st)=some m
 hl:(G.N.take n).length=n
 hb:HB st n G x qual
theorem Yp {Q:List Value->Prop}(hl:us.length=1)(h:∀ a,Q [a]):Q us:=by
 rcases us with _ | ⟨a,_ | ⟨b,us⟩⟩
 ·cases hl
 ·exact h a
 ·cases hl
theorem Yq {Q:List Value->Prop}(hl:us.length=2)(h:∀ a b,Q [a,b]):Q us:=by
 rcases us with _ | ⟨a,us⟩
 ·cases hl
 ·exact Yp (Q:=λus=>Q (a::us)) (Nat.succ.inj hl) (h a)
theorem Yr {Q:List Value->Prop}(hl:us.length=3)(h:∀ a b c,Q [a,b,c]):Q us:=by
 rcases us with _ | ⟨a,us⟩
 ·cases hl
 ·exact Yq (Q:=λus=>Q (a::us)) (Nat.succ.inj hl) (h a)
theorem Ys {Q:List Value->Prop}(hl:us.length=4)(h:∀ a b c d,Q [a,b,c,d]):Q us:=by
 rcases us with _ | ⟨a,us⟩
 ·cases hl
 ·exact Yr (Q:=λus=>Q (a::us)) (Nat.succ.inj hl) (h a)
theorem w1 (h:∀ {a b c d e f p},OS st n G x qual a b c d e f [p])(hl:(G.N.take n).length=1:=by rfl):HB st n G x qual:=λ_ _ _ _ _ _ us z=>Yp (z.trans hl) λ_=>h
theorem w2 (h:∀ {a b c d e f p q},OS st n G x qual a b c d e f [p,q])(hl:(G.N.take n).length=2:=by rfl):HB st n G x qual:=λ_ _ _ _ _ _ us z=>Yq (z.trans hl) λ_ _=>h
theorem w3 (h:∀ {a b c d e f p q r},OS st n G x qual a b c d e f [p,q,r])(hl:(G.N.take n).length=3:=by rfl):HB st n G x qual:=λ_ _ _ _ _ _ us z=>Yr (z.trans hl) λ_ _ _=>h
theorem w4 (h:∀ {a b c d e f p q r s},OS st n G x qual a b c d e f [p,q,r,s])(hl:(G.N.take n).length=4:=by rfl):HB st n G x qual:=λ_ _ _ _ _ _ us z=>Ys (z.trans hl) λ_ _ _ _=>h
theorem us5 {Q:List Value->Prop}(hl:us.length=5)(h:∀ a b c d e,Q [a,b,c,d,e]):Q us:=by
 rcases us with _ | ⟨a,us⟩
 ·cases hl
 ·exact Ys (Q:=λus=>Q (a::us)) (Nat.succ.inj hl) (h a)
theorem us6 {Q:List Value->Prop}(hl:us.length=6)(h:∀ a b c d e f,Q [a,b,c,d,e,f]):Q us:=by
 rcases us with _ | ⟨a,us⟩
 ·cases hl
 ·exact us5 (Q:=λus=>Q (a::us)) (Nat.succ.inj hl) (h a)
theorem w6 (h:∀ {a b c d e f p q r s t u},OS st n G x qual a b c d e f [p,q,r,s,t,u])(hl:(G.N.take n).length=6:=by rfl):HB st n G x qual:=λ_ _ _ _ _ _ us z=>us6 (z.trans hl) λ_ _ _ _ _ _=>h
noncomputable def locs:List (Str×NameKind)->List Str
 |[]=>[]
 |(x,.local)::r=>x::locs r
 |(x,.cell)::r=>x::locs r
 |_::r=>locs r
def XN (st:Stmt)(n:Nat):Bool:=decide ((aC st).kind=.function)&&(decide ((aC st).isCoroutine=false)&&(decide ((aC st).isGenerator=false)&&(decide (locs (aC st).names).Nodup&&(((locs (aC st).names).take n).all (λx=>decide ((aC st).names.lookup x=some .local\/(aC st).names.lookup x=some .cell))&&((aC st).names.all (λy=>decide (y.2≠.free))&&decide (((locs (aC st).names).take n).length=n))))))
theorem gN (hb:HB st n G x qual)(hG:G.N=locs (aC st).names/\(aC st).names=G.nm:=by exact⟨rfl,rfl⟩)(hc:stmts (cS 20) G (eN st)=some m:=by kernel_rfl)(hk:XN st n=true:=by kernel_rfl):GK st n G m x qual:=by
 unfold XN at hk
 simp only[abL,decide_eq_true_eq,List.all_eq_true]at hk
 obtain⟨h1,h2,h3,h4,h5,h6,hl⟩:=hk
 obtain⟨e,hn⟩:=hG
 rw[<-e]at h4 h5 hl
 exact⟨⟨h1,h2,h3,h4,Gr,h5,h6⟩,hn,hc,hl,hb⟩
theorem GK.gc (d:GK st n G m x qual)(F:CK kf.K x qual st f fd)(go:C0 P w mg base L G):dA P w kf.K mg base sx (L+1) f fd (G.N.take n) (oh n (dG G.N.length m)):=by
 have:=LZ F d.sc rfl d.hn d.hc go
 rw[d.hl]at this;exact this
theorem GK.fn (d:GK st n G m x qual)(F:CK kf.K x qual st f fd)(go:C0 P w mg base L G):dA P w kf.K mg base sx (L+1) f fd (G.N.take n) (oh n (fZ G.N.length m)):=by
 have:=Qn F d.sc rfl d.hn d.hc go
 rw[d.hl]at this;exact this
theorem wW (X:kf.K.In h)(G':h.Ns mainGlobals mg)(t:dI kf.K x st)(d:GK st n G m x x)(go:C0 P w mg base L G):∀ k,L+1<=k->HF P w mg base k x n (dG G.N.length m):=by
 obtain⟨a,y,D⟩:=t
 obtain⟨fd,F⟩:=D.fun
 exact λk hk=>Kj X G' y F (d.gc F go) (F.binds d.hb) hk
theorem B0 (X:kf.K.In h)(G':h.Ns mainGlobals mg)(t:dI kf.K x st)(d:GK st n G m x x)(go:C0 P w mg base L G):∀ k,L+1<=k->HF P w mg base k x n (fZ G.N.length m):=by
 obtain⟨a,y,D⟩:=t
 obtain⟨fd,F⟩:=D.fun
 exact λk hk=>Kj X G' y F (d.fn F go) (F.binds d.hb) hk
theorem GS (kC:p8 kf.K C)(t:MethAt kf.K C x qual st)(d:GK st n G m x qual)(go:C0 P w mg base L G):∀ k,L+1<=k->HM P w mg base k x C n (fZ G.N.length m):=by
 obtain⟨a,y,D⟩:=t
 obtain⟨fd,F⟩:=D.fun
 exact λk hk=>⟨L+1,_,a,fd,kC,y,d.fn F go,hk,F.binds d.hb⟩
theorem QY (kC:p8 kf.K C)(t:MethAt kf.K C x qual st)(d:GK st n G m x qual)(go:C0 P w mg base L G):∀ k,L+1<=k->HM P w mg base k x C n (dG G.N.length m):=by
 obtain⟨a,y,D⟩:=t
 obtain⟨fd,F⟩:=D.fun
 exact λk hk=>⟨L+1,_,a,fd,kC,y,d.gc F go,hk,F.binds d.hb⟩
theorem QX (X:kf.K.In h)(G':h.Ns mainGlobals mg)(nC:jf kf.K x C)(t:oj kf.K C qual st)(d:GK st n G m "__init__" qual)(go:C0 P w mg base L G):∀ k,L+2<=k->HC P w mg base k x C n (fZ G.N.length m):=by
 obtain⟨a,y,D⟩:=t
 obtain⟨fd,F⟩:=D.fun
 exact λk hk=>⟨L+1,_,a,fd,y,d.fn F go,hk,PySem.W.mg_of X G' nC,F.binds d.hb⟩
end
end S
namespace D51
open PySem L2 S
noncomputable def VF:List String:=["house","watcher","deeds"]
noncomputable def GF:List String:=["view","table","stands","waiting"]
noncomputable def Lr:List String:=["prices","origins","stalls","pending"]
noncomputable def EF:List String:=["view","market","stands","ways"]
noncomputable def RF:List String:=["view","table","endings","beginnings"]
class Cw [KF] where
 ck:fM
 cv:Addr
 cg:Addr
 cm:Addr
 ce:Addr
 cr:Addr
 fv:∀ f∈VF,ck.cl cv (Str.ofString f)
 fg:∀ f∈GF,ck.cl cg (Str.ofString f)
 fm:∀ f∈Lr,ck.cl cm (Str.ofString f)
 fe:∀ f∈EF,ck.cl ce (Str.ofString f)
 fr:∀ f∈RF,ck.cl cr (Str.ofString f)
end D51
namespace D51
open PySem PySem.W L2 S
noncomputable def top (i:Nat):Stmt:=PySem.Challenge.pw_slipcatch_k51_prices_of_a_row.main.body.getD i (.Pass ⟨0,0,0,0⟩)
structure Txt (K:Frag)(w:World)(CV CG CM CE CR:Addr):Prop where
 n_View:jf K "View" CV
 k_View:p8 K CV
 n_Growth:jf K "Growth" CG
 k_Growth:p8 K CG
 n_Market:jf K "Market" CM
 k_Market:p8 K CM
 n_Endings:jf K "Endings" CE
 k_Endings:p8 K CE
 n_Reckoning:jf K "Reckoning" CR
 k_Reckoning:p8 K CR
 d_inner_deeds:dI K "inner_deeds" (top 3)
 d_walk_deed:dI K "walk_deed" (top 7)
 d_walk_house:dI K "walk_house" (top 8)
 d_place_of:dI K "place_of" (top 9)
 d_places_of:dI K "places_of" (top 10)
 d_deed_at:dI K "deed_at" (top 11)
 d_simple_end:dI K "simple_end" (top 16)
 d_marks_behind:dI K "marks_behind" (top 17)
 d_View_init:oj K CV "View.__init__" (inClass (top 19) 0)
 d_front_key:dI K "front_key" (top 20)
 d_marks_in:dI K "marks_in" (top 21)
 d_scene_behind:dI K "scene_behind" (top 23)
 d_step_to:dI K "step_to" (top 24)
 d_step_out:dI K "step_out" (top 25)
 d_row_steps:dI K "row_steps" (top 27)
 d_first_steps:dI K "first_steps" (top 29)
 d_next_steps:dI K "next_steps" (top 32)
 d_Growth_init:oj K CG "Growth.__init__" (inClass (top 33) 0)
 d_Growth_need_steps:MethAt K CG "need_steps" "Growth.need_steps" (inClass (top 33) 1)
 d_Growth_need_key:MethAt K CG "need_key" "Growth.need_key" (inClass (top 33) 2)
 d_Growth_need_stand:MethAt K CG "need_stand" "Growth.need_stand" (inClass (top 33) 3)
 d_Growth_need_way:MethAt K CG "need_way" "Growth.need_way" (inClass (top 33) 4)
 d_least_table:dI K "least_table" (top 34)
 d_Market_init:oj K CM "Market.__init__" (inClass (top 36) 0)
 d_Market_spot_for:MethAt K CM "spot_for" "Market.spot_for" (inClass (top 36) 1)
 d_Market_offer:MethAt K CM "offer" "Market.offer" (inClass (top 36) 2)
 d_Market_take_cheapest:MethAt K CM "take_cheapest" "Market.take_cheapest" (inClass (top 36) 3)
 d_Endings_init:oj K CE "Endings.__init__" (inClass (top 37) 0)
 d_Endings_offer_steps:MethAt K CE "offer_steps" "Endings.offer_steps" (inClass (top 37) 1)
 d_Endings_go_on:MethAt K CE "go_on" "Endings.go_on" (inClass (top 37) 2)
 d_Endings_settle_stand:MethAt K CE "settle_stand" "Endings.settle_stand" (inClass (top 37) 3)
 d_Endings_settle_way:MethAt K CE "settle_way" "Endings.settle_way" (inClass (top 37) 4)
 d_endings_of:dI K "endings_of" (top 38)
 d_beginnings_of:dI K "beginnings_of" (top 39)
 d_Reckoning_init:oj K CR "Reckoning.__init__" (inClass (top 40) 0)
 d_Reckoning_both_prices:MethAt K CR "both_prices" "Reckoning.both_prices" (inClass (top 40) 1)
 d_prices_of:dI K "prices_of" (top 41)
 d_law_cell_at:dI K "_law_cell_at" (top 43)
 d_law_tape:dI K "_law_tape" (top 44)
 d_law_digit:dI K "_law_digit" (top 45)
 d_law_names:dI K "_law_names" (top 46)
 d_law_kinds:dI K "_law_kinds" (top 47)
 d_law_parts:dI K "_law_parts" (top 48)
 d_law_deeds:dI K "_law_deeds" (top 49)
 d_law_leaf_way:dI K "_law_leaf_way" (top 52)
 d_law_whole:dI K "_law_whole" (top 53)
 d_law_same_numbers:dI K "_law_same_numbers" (top 59)
 d_law:dI K "law" (top 60)
 gx:(BL.all λx=>decide (nsIn K mainGlobals x=some none))=true
 f_View:((VF.map Str.ofString).all λf=>decide (findIn K (.ref CV) f=some none))=true
 f_Growth:((GF.map Str.ofString).all λf=>decide (findIn K (.ref CG) f=some none))=true
 f_Market:((Lr.map Str.ofString).all λf=>decide (findIn K (.ref CM) f=some none))=true
 f_Endings:((EF.map Str.ofString).all λf=>decide (findIn K (.ref CE) f=some none))=true
 f_Reckoning:((RF.map Str.ofString).all λf=>decide (findIn K (.ref CR) f=some none))=true
 gL:∃ a o es ep,jf K "FORMS" a/\K.lookup a=some o/\o.ExactDict/\o.data=.dict es ep/\xV K w es.toList gL/\(a == sysModules)=false
theorem y4:(gL.map (·.1)).Nodup:=by decide +kernel
theorem cw {n:Nat}(h:n<=1000000):n<=sizeLine:=abE h (by rw[ab0];decide)
section
variable [kf:KF][c:Cw]
@[reducible] def ga (s:Stmt)(fs:List (Str×Nat×MF):=[])(cs:List (Str×Addr×Nat×MF):=[])(ms:List (Str×Addr×Nat×MF):=[])(em:Nat:=0)(dt:List Str:=[])(tb:List (Str×List (Str×List Int)):=[]):Ga:={N:=locs (aC s).names,nm:=(aC s).names,fs:=fs,bl:=BL,cs:=cs,ms:=ms,ck:=c.ck,em:=em,dt:=dt,tb:=tb}
variable {P:Program}{w:World}{mg:Str->Option Value}{base h:Heap}(X:kf.K.In h)(G:h.Ns mainGlobals mg)(T:Txt kf.K w c.cv c.cg c.cm c.ce c.cr)
include X G T
theorem gx:∀ x∈BL,mg x=none:=PY X G T.gx
abbrev dR:MF:=bj
theorem l9 (k:Nat)(hk:1<=k):HF P w mg base k "inner_deeds" 1 dR:=
 let ⟨_,_,_,_,t1,t2,t3,t4,t5,t6⟩:=T.gL
 wW X G T.d_inner_deeds (gN (S.w1 rfl) (G:=ga (top 3) (tb:=[("FORMS",gL)])) (n:=1)) (aS .nil (gx X G T) (tb:=(.cons (OE (PySem.W.mg_of X G t1) t2 t3 t4 t5 y4 t6) .nil))) k hk
abbrev j4:MF:=pS dR
theorem wu (k:Nat)(hk:2<=k):HF P w mg base k "walk_deed" 1 j4:=wW X G T.d_walk_deed (gN (S.w1 rfl) (G:=ga (top 7) [("inner_deeds",1,dR)]) (n:=1)) (aS (.cons (l9 X G T 1 (by decide)) .nil) (gx X G T)) k hk
abbrev je:MF:=nP j4
theorem uN (k:Nat)(hk:3<=k):HF P w mg base k "walk_house" 1 je:=wW X G T.d_walk_house (gN (S.w1 rfl) (G:=ga (top 8) [("walk_deed",1,j4)]) (n:=1)) (aS (.cons (wu X G T 2 (by decide)) .nil) (gx X G T)) k hk
abbrev mH:MF:=jw
theorem yC (k:Nat)(hk:1<=k):HF P w mg base k "place_of" 2 mH:=wW X G T.d_place_of (gN (S.w2 rfl) (G:=ga (top 9)) (n:=2)) (aS .nil (gx X G T)) k hk
abbrev j0:MF:=pP je mH
theorem wq (k:Nat)(hk:4<=k):HF P w mg base k "places_of" 1 j0:=wW X G T.d_places_of (gN (S.w1 rfl) (G:=ga (top 10) [("walk_house",1,je),("place_of",2,mH)]) (n:=1)) (aS (.cons (uN X G T 3 (by decide)) (.cons (yC X G T 3 (by decide)) .nil)) (gx X G T)) k hk
abbrev oq:MF:=tQ dR
theorem BC (k:Nat)(hk:2<=k):HF P w mg base k "deed_at" 2 oq:=wW X G T.d_deed_at (gN (S.w2 rfl) (G:=ga (top 11) [("inner_deeds",1,dR)]) (n:=2)) (aS (.cons (l9 X G T 1 (by decide)) .nil) (gx X G T)) k hk
abbrev jd:MF:=jx
theorem uM (k:Nat)(hk:1<=k):HF P w mg base k "simple_end" 3 jd:=B0 X G T.d_simple_end (gN (S.w3 rfl) (G:=ga (top 16)) (n:=3)) (aS .nil (gx X G T)) k hk
abbrev gS:MF:=g9
theorem qU (k:Nat)(hk:1<=k):HF P w mg base k "marks_behind" 3 gS:=wW X G T.d_marks_behind (gN (S.w3 rfl) (G:=ga (top 17)) (n:=3)) (aS .nil (gx X G T)) k hk
abbrev jV:MF:=pL c.ck j0 oq
theorem wg (k:Nat)(hk:6<=k):HC P w mg base k "View" c.cv 3 jV:=QX X G T.n_View T.d_View_init (gN (S.w3 rfl) (G:=ga (inClass (top 19) 0) [("places_of",1,j0),("deed_at",2,oq)] (em:=1)) (n:=3)) (aS (.cons (wq X G T 4 (by decide)) (.cons (BC X G T 4 (by decide)) .nil)) (gx X G T)) k hk
abbrev fN:MF:=dv c.ck
theorem pC (k:Nat)(hk:1<=k):HF P w mg base k "front_key" 1 fN:=B0 X G T.d_front_key (gN (S.w1 rfl) (G:=ga (top 20)) (n:=1)) (aS .nil (gx X G T)) k hk
abbrev mG:MF:=mU c.ck
theorem yB (k:Nat)(hk:1<=k):HF P w mg base k "marks_in" 2 mG:=B0 X G T.d_marks_in (gN (S.w2 rfl) (G:=ga (top 21)) (n:=2)) (aS .nil (gx X G T)) k hk
abbrev gT:MF:=lD c.ck gS mG
theorem qV (k:Nat)(hk:2<=k):HF P w mg base k "scene_behind" 3 gT:=B0 X G T.d_scene_behind (gN (S.w3 rfl) (G:=ga (top 23) [("marks_behind",3,gS),("marks_in",2,mG)]) (n:=3)) (aS (.cons (qU X G T 1 (by decide)) (.cons (yB X G T 1 (by decide)) .nil)) (gx X G T)) k hk
abbrev ot:MF:=oN
theorem BD (k:Nat)(hk:1<=k):HF P w mg base k "step_to" 4 ot:=B0 X G T.d_step_to (gN (S.w4 rfl) (G:=ga (top 24)) (n:=4)) (aS .nil (gx X G T)) k hk
abbrev gU:MF:=jy
theorem qW (k:Nat)(hk:1<=k):HF P w mg base k "step_out" 2 gU:=B0 X G T.d_step_out (gN (S.w2 rfl) (G:=ga (top 25)) (n:=2)) (aS .nil (gx X G T)) k hk
abbrev fP:MF:=pR gU ot
theorem pE (k:Nat)(hk:2<=k):HF P w mg base k "row_steps" 4 fP:=wW X G T.d_row_steps (gN (S.w4 rfl) (G:=ga (top 27) [("step_out",2,gU),("step_to",4,ot)]) (n:=4)) (aS (.cons (qW X G T 1 (by decide)) (.cons (BD X G T 1 (by decide)) .nil)) (gx X G T)) k hk
abbrev dQ:MF:=mx c.ck fP gU jd gT
theorem l8 (k:Nat)(hk:3<=k):HF P w mg base k "first_steps" 2 dQ:=wW X G T.d_first_steps (gN (S.w2 rfl) (G:=ga (top 29) [("row_steps",4,fP),("step_out",2,gU),("simple_end",3,jd),("scene_behind",3,gT)]) (n:=2)) (aS (.cons (pE X G T 2 (by decide)) (.cons (qW X G T 2 (by decide)) (.cons (uM X G T 2 (by decide)) (.cons (qV X G T 2 (by decide)) .nil)))) (gx X G T)) k hk
abbrev cV:MF:=nO c.ck fP
theorem jt (k:Nat)(hk:3<=k):HF P w mg base k "next_steps" 3 cV:=wW X G T.d_next_steps (gN (S.w3 rfl) (G:=ga (top 32) [("row_steps",4,fP)]) (n:=3)) (aS (.cons (pE X G T 2 (by decide)) .nil) (gx X G T)) k hk
abbrev iJ:MF:=mn c.ck
theorem sF (k:Nat)(hk:2<=k):HC P w mg base k "Growth" c.cg 2 iJ:=QX X G T.n_Growth T.d_Growth_init (gN (S.w2 rfl) (G:=ga (inClass (top 33) 0) (em:=1)) (n:=2)) (aS .nil (gx X G T)) k hk
abbrev aW:MF:=gz c.ck
theorem dN (k:Nat)(hk:1<=k):HM P w mg base k "need_steps" c.cg 3 aW:=QY T.k_Growth T.d_Growth_need_steps (gN (S.w3 rfl) (G:=ga (inClass (top 33) 1)) (n:=3)) (aS .nil (gx X G T)) k hk
abbrev cq:MF:=iB c.ck c.cg dQ aW
theorem iy (k:Nat)(hk:4<=k):HM P w mg base k "need_key" c.cg 2 cq:=GS T.k_Growth T.d_Growth_need_key (gN (S.w2 rfl) (G:=ga (inClass (top 33) 2) [("first_steps",2,dQ)] (ms:=[("need_steps",c.cg,3,aW)]) (em:=1)) (n:=2)) (aS (.cons (l8 X G T 3 (by decide)) .nil) (gx X G T) (ms:=(.cons (dN X G T 3 (by decide)) .nil))) k hk
abbrev dJ:MF:=gy c.ck c.cg cV cq aW
theorem lW (k:Nat)(hk:5<=k):HM P w mg base k "need_stand" c.cg 2 dJ:=GS T.k_Growth T.d_Growth_need_stand (gN (S.w2 rfl) (G:=ga (inClass (top 33) 3) [("next_steps",3,cV)] (ms:=[("need_key",c.cg,2,cq),("need_steps",c.cg,3,aW)])) (n:=2)) (aS (.cons (jt X G T 4 (by decide)) .nil) (gx X G T) (ms:=(.cons (iy X G T 4 (by decide)) (.cons (dN X G T 4 (by decide)) .nil)))) k hk
abbrev eD:MF:=iC c.ck c.cg cV aW
theorem nv (k:Nat)(hk:4<=k):HM P w mg base k "need_way" c.cg 3 eD:=GS T.k_Growth T.d_Growth_need_way (gN (S.w3 rfl) (G:=ga (inClass (top 33) 4) [("next_steps",3,cV)] (ms:=[("need_steps",c.cg,3,aW)])) (n:=3)) (aS (.cons (jt X G T 3 (by decide)) .nil) (gx X G T) (ms:=(.cons (dN X G T 3 (by decide)) .nil))) k hk
abbrev iL:MF:=my c.ck c.cg fN iJ cq eD dJ
theorem sH (k:Nat)(hk:6<=k):HF P w mg base k "least_table" 1 iL:=B0 X G T.d_least_table (gN (S.w1 rfl) (G:=ga (top 34) [("front_key",1,fN)] (cs:=[("Growth",c.cg,2,iJ)]) (ms:=[("need_key",c.cg,2,cq),("need_way",c.cg,3,eD),("need_stand",c.cg,2,dJ)]) (em:=1)) (n:=1)) (aS (.cons (pC X G T 5 (by decide)) .nil) (gx X G T) (cs:=(.cons (sF X G T 5 (by decide)) .nil)) (ms:=(.cons (iy X G T 5 (by decide)) (.cons (nv X G T 5 (by decide)) (.cons (lW X G T 5 (by decide)) .nil))))) k hk
abbrev dP:MF:=mv c.ck
theorem l7 (k:Nat)(hk:2<=k):HC P w mg base k "Market" c.cm 1 dP:=QX X G T.n_Market T.d_Market_init (gN (S.w1 rfl) (G:=ga (inClass (top 36) 0) (dt:=["prices","origins"])) (n:=1)) (aS .nil (gx X G T)) k hk
abbrev eE:MF:=iD c.ck
theorem nA (k:Nat)(hk:1<=k):HM P w mg base k "spot_for" c.cm 2 eE:=GS T.k_Market T.d_Market_spot_for (gN (S.w2 rfl) (G:=ga (inClass (top 36) 1)) (n:=2)) (aS .nil (gx X G T)) k hk
abbrev di:MF:=lC c.ck c.cm eE
theorem k8 (k:Nat)(hk:2<=k):HM P w mg base k "offer" c.cm 4 di:=GS T.k_Market T.d_Market_offer (gN (S.w4 rfl) (G:=ga (inClass (top 36) 2) (ms:=[("spot_for",c.cm,2,eE)])) (n:=4)) (aS .nil (gx X G T) (ms:=(.cons (nA X G T 1 (by decide)) .nil))) k hk
abbrev bp:MF:=c5 c.ck
theorem eT (k:Nat)(hk:1<=k):HM P w mg base k "take_cheapest" c.cm 1 bp:=QY T.k_Market T.d_Market_take_cheapest (gN (S.w1 rfl) (G:=ga (inClass (top 36) 3)) (n:=1)) (aS .nil (gx X G T)) k hk
abbrev bC:MF:=fw c.ck c.cm di
theorem fu (k:Nat)(hk:3<=k):HM P w mg base k "offer_steps" c.ce 6 bC:=GS T.k_Endings T.d_Endings_offer_steps (gN (S.w6 rfl) (G:=ga (inClass (top 37) 1) (ms:=[("offer",c.cm,4,di)])) (n:=6)) (aS .nil (gx X G T) (ms:=(.cons (k8 X G T 2 (by decide)) .nil))) k hk
abbrev gQ:MF:=lB c.ck c.cm c.ce dQ dP bC
theorem qS (k:Nat)(hk:5<=k):HC P w mg base k "Endings" c.ce 3 gQ:=QX X G T.n_Endings T.d_Endings_init (gN (S.w3 rfl) (G:=ga (inClass (top 37) 0) [("first_steps",2,dQ)] (cs:=[("Market",c.cm,1,dP)]) (ms:=[("offer_steps",c.ce,6,bC)]) (em:=1)) (n:=3)) (aS (.cons (l8 X G T 3 (by decide)) .nil) (gx X G T) (cs:=(.cons (l7 X G T 3 (by decide)) .nil)) (ms:=(.cons (fu X G T 3 (by decide)) .nil))) k hk
abbrev c7:MF:=jL c.ck c.ce cV bC
theorem jK (k:Nat)(hk:4<=k):HM P w mg base k "go_on" c.ce 3 c7:=GS T.k_Endings T.d_Endings_go_on (gN (S.w3 rfl) (G:=ga (inClass (top 37) 2) [("next_steps",3,cV)] (ms:=[("offer_steps",c.ce,6,bC)])) (n:=3)) (aS (.cons (jt X G T 3 (by decide)) .nil) (gx X G T) (ms:=(.cons (fu X G T 3 (by decide)) .nil))) k hk
abbrev cU:MF:=eX c.ck c.ce c7
theorem jq (k:Nat)(hk:5<=k):HM P w mg base k "settle_stand" c.ce 2 cU:=GS T.k_Endings T.d_Endings_settle_stand (gN (S.w2 rfl) (G:=ga (inClass (top 37) 3) (ms:=[("go_on",c.ce,3,c7)])) (n:=2)) (aS .nil (gx X G T) (ms:=(.cons (jK X G T 4 (by decide)) .nil))) k hk
abbrev dh:MF:=fS c.ck c.ce c7
theorem k7 (k:Nat)(hk:5<=k):HM P w mg base k "settle_way" c.ce 3 dh:=GS T.k_Endings T.d_Endings_settle_way (gN (S.w3 rfl) (G:=ga (inClass (top 37) 4) (ms:=[("go_on",c.ce,3,c7)])) (n:=3)) (aS .nil (gx X G T) (ms:=(.cons (jK X G T 4 (by decide)) .nil))) k hk
abbrev jc:MF:=nN c.ck c.ce c.cm gQ bp dh cU
theorem uL (k:Nat)(hk:6<=k):HF P w mg base k "endings_of" 2 jc:=B0 X G T.d_endings_of (gN (S.w2 rfl) (G:=ga (top 38) (cs:=[("Endings",c.ce,3,gQ)]) (ms:=[("take_cheapest",c.cm,1,bp),("settle_way",c.ce,3,dh),("settle_stand",c.ce,2,cU)])) (n:=2)) (aS .nil (gx X G T) (cs:=(.cons (qS X G T 5 (by decide)) .nil)) (ms:=(.cons (eT X G T 5 (by decide)) (.cons (k7 X G T 5 (by decide)) (.cons (jq X G T 5 (by decide)) .nil))))) k hk
abbrev gj:MF:=jM c.ck c.cm fN dP di bp
theorem pY (k:Nat)(hk:3<=k):HF P w mg base k "beginnings_of" 3 gj:=B0 X G T.d_beginnings_of (gN (S.w3 rfl) (G:=ga (top 39) [("front_key",1,fN)] (cs:=[("Market",c.cm,1,dP)]) (ms:=[("offer",c.cm,4,di),("take_cheapest",c.cm,1,bp)]) (em:=1)) (n:=3)) (aS (.cons (pC X G T 2 (by decide)) .nil) (gx X G T) (cs:=(.cons (l7 X G T 2 (by decide)) .nil)) (ms:=(.cons (k8 X G T 2 (by decide)) (.cons (eT X G T 2 (by decide)) .nil)))) k hk
abbrev fy:MF:=iX c.ck iL jc gj
theorem oE (k:Nat)(hk:8<=k):HC P w mg base k "Reckoning" c.cr 2 fy:=QX X G T.n_Reckoning T.d_Reckoning_init (gN (S.w2 rfl) (G:=ga (inClass (top 40) 0) [("least_table",1,iL),("endings_of",2,jc),("beginnings_of",3,gj)]) (n:=2)) (aS (.cons (sH X G T 6 (by decide)) (.cons (uL X G T 6 (by decide)) (.cons (pY X G T 6 (by decide)) .nil))) (gx X G T)) k hk
abbrev cF:MF:=ej c.ck
theorem iW (k:Nat)(hk:1<=k):HM P w mg base k "both_prices" c.cr 1 cF:=GS T.k_Reckoning T.d_Reckoning_both_prices (gN (S.w1 rfl) (G:=ga (inClass (top 40) 1) (em:=1)) (n:=1)) (aS .nil (gx X G T)) k hk
abbrev j3:MF:=pQ c.cr c.cv fy jV cF
theorem wt (k:Nat)(hk:9<=k):HF P w mg base k "prices_of" 1 j3:=wW X G T.d_prices_of (gN (S.w1 rfl) (G:=ga (top 41) (cs:=[("Reckoning",c.cr,2,fy),("View",c.cv,3,jV)]) (ms:=[("both_prices",c.cr,1,cF)])) (n:=1)) (aS .nil (gx X G T) (cs:=(.cons (oE X G T 8 (by decide)) (.cons (wg X G T 8 (by decide)) .nil))) (ms:=(.cons (iW X G T 8 (by decide)) .nil))) k hk
abbrev iK:MF:=aY
theorem sG (k:Nat)(hk:1<=k):HF P w mg base k "_law_cell_at" 2 iK:=B0 X G T.d_law_cell_at (gN (S.w2 rfl) (G:=ga (top 43)) (n:=2)) (aS .nil (gx X G T)) k hk
abbrev mF:MF:=b5 iK
theorem yA (k:Nat)(hk:2<=k):HF P w mg base k "_law_tape" 2 mF:=B0 X G T.d_law_tape (gN (S.w2 rfl) (G:=ga (top 44) [("_law_cell_at",2,iK)]) (n:=2)) (aS (.cons (sG X G T 1 (by decide)) .nil) (gx X G T)) k hk
abbrev dj:MF:=aw
theorem lg (k:Nat)(hk:1<=k):HF P w mg base k "_law_digit" 2 dj:=B0 X G T.d_law_digit (gN (S.w2 rfl) (G:=ga (top 45)) (n:=2)) (aS .nil (gx X G T)) k hk
abbrev fO:MF:=iE dj
theorem pD (k:Nat)(hk:2<=k):HF P w mg base k "_law_names" 2 fO:=wW X G T.d_law_names (gN (S.w2 rfl) (G:=ga (top 46) [("_law_digit",2,dj)]) (n:=2)) (aS (.cons (lg X G T 1 (by decide)) .nil) (gx X G T)) k hk
abbrev jX:MF:=pO dj fO
theorem wk (k:Nat)(hk:3<=k):HF P w mg base k "_law_kinds" 1 jX:=wW X G T.d_law_kinds (gN (S.w1 rfl) (G:=ga (top 47) [("_law_digit",2,dj),("_law_names",2,fO)]) (n:=1)) (aS (.cons (lg X G T 2 (by decide)) (.cons (pD X G T 2 (by decide)) .nil)) (gx X G T)) k hk
abbrev jY:MF:=cP
theorem wm (k:Nat)(hk:1<=k):HF P w mg base k "_law_parts" 1 jY:=wW X G T.d_law_parts (gN (S.w1 rfl) (G:=ga (top 48)) (n:=1)) (aS .nil (gx X G T)) k hk
abbrev jW:MF:=pN jY
theorem wj (k:Nat)(hk:2<=k):HF P w mg base k "_law_deeds" 1 jW:=wW X G T.d_law_deeds (gN (S.w1 rfl) (G:=ga (top 49) [("_law_parts",1,jY)] (em:=1)) (n:=1)) (aS (.cons (wm X G T 1 (by decide)) .nil) (gx X G T)) k hk
abbrev gR:MF:=dw
theorem qT (k:Nat)(hk:1<=k):HF P w mg base k "_law_leaf_way" 3 gR:=wW X G T.d_law_leaf_way (gN (S.w3 rfl) (G:=ga (top 52)) (n:=3)) (aS .nil (gx X G T)) k hk
abbrev jZ:MF:=iF
theorem wo (k:Nat)(hk:1<=k):HF P w mg base k "_law_whole" 1 jZ:=B0 X G T.d_law_whole (gN (S.w1 rfl) (G:=ga (top 53)) (n:=1)) (aS .nil (gx X G T)) k hk
abbrev dZ:MF:=g8 jZ
theorem mQ (k:Nat)(hk:2<=k):HF P w mg base k "_law_same_numbers" 2 dZ:=wW X G T.d_law_same_numbers (gN (S.w2 rfl) (G:=ga (top 59) [("_law_whole",1,jZ)]) (n:=2)) (aS (.cons (wo X G T 1 (by decide)) .nil) (gx X G T)) k hk
abbrev C4:MF:=Kz mF jX fO dj jW gR j3 dZ
theorem My {f:Addr}{fd:FuncData}(F:CK kf.K "law" "law" (top 60) f fd):dA P w kf.K mg base sx 10 f fd ["script"] (oh 1 C4):=
 (gN (by exact S.w1 rfl) (n:=1) (G:=ga (top 60) [("_law_tape",2,mF),("_law_kinds",1,jX),("_law_names",2,fO),("_law_digit",2,dj),("_law_deeds",1,jW),("_law_leaf_way",3,gR),("prices_of",1,j3),("_law_same_numbers",2,dZ)] (em:=1))).gc F (aS (.cons (yA X G T 9 (by decide)) (.cons (wk X G T 9 (by decide)) (.cons (pD X G T 9 (by decide)) (.cons (lg X G T 9 (by decide)) (.cons (wj X G T 9 (by decide)) (.cons (qT X G T 9 (by decide)) (.cons (wt X G T 9 (by decide)) (.cons (mQ X G T 9 (by decide)) .nil)))))))) (gx X G T))
end
end D51
namespace S
open PySem L2
variable [kf:KF]
theorem ai {a b:MS}{σ σ':bG}{h h':MH}(e:a σ h=some (.nx σ',h')):ag a b σ h=b σ' h':=by unfold ag;rw[e];rfl
theorem iU {a:ME}{i:Nat}{σ:bG}{h h':MH}{u:U}(e:a σ h=some (u,h')):ak a (nName i) σ h=some (.nx (σ.set i (some u)),h'):=by unfold ak;rw[e];rfl
theorem gG {c:MT}{a b:MS}{σ:bG}{h h':MH}{k:Bool}(e:c σ h=some (k,h')):bg c a b σ h=if k=true then a σ h' else b σ h':=by unfold bg;rw[e];rfl
theorem nh {a:ME}{σ:bG}{h h':MH}{u:U}(e:a σ h=some (u,h')):aK a σ h=some (.nx σ,h'):=by unfold aK;rw[e];rfl
theorem Jk {a:ME}{σ:bG}{h h':MH}{u:U}(e:a σ h=some (u,h')):bh a σ h=some (.rt u,h'):=by unfold bh;rw[e];rfl
theorem bc {N:Nat}{m:MS}{us:List U}{h h':MH}{u:U}(e:m (us.map some++List.replicate (N-us.length) none) h=some (.rt u,h')):fZ N m us h=some (u,h'):=by unfold fZ;rw[e];rfl
theorem eR {N:Nat}{m:MS}{us:List U}{h h':MH}{σ:bG}(e:m (us.map some++List.replicate (N-us.length) none) h=some (.nx σ,h')):fZ N m us h=some (.aq,h'):=by unfold fZ;rw[e];rfl
theorem mL {it:mZ}{g:MG}{c:MT}{a:ME}{n:Nat}{h1:MH}{σ0:bG}{us:List U}{G:U->bG}{p:U->Bool}{f:U->U}(hn:n=h1.length)(hit:∀ (i:Nat) (H:MH),it i H=some us[i]?)(hl:us.length<1000000)
  (hg:∀ u∈us,∀ σ,(σ=σ0\/∃ v∈us,σ=G v)->∀ l,g u σ (h1++[.lst l])=some (G u,h1++[.lst l])) (hc:∀ u∈us,∀ l,c (G u) (h1++[.lst l])=some (p u,h1++[.lst l]))
  (ha:∀ u∈us,p u=true->∀ l,a (G u) (h1++[.lst l])=some (f u,h1++[.lst l])):∀ (k m i:Nat) (σ:bG) (acc:List U),i+k=us.length->k<m->(σ=σ0\/∃ v∈us,σ=G v)->acc=((us.take i).filter p).map f->
   jJ it g c a n m i σ (h1++[.lst acc])=some (h1++[.lst ((us.filter p).map f)])
 |0,m+1,i,σ,acc,e,_,q,ju=>by
  have e':i=us.length:=by lia
  have hu:us[i]?=none:=by rw[e'];simp
  show((it i _).bind _)=_
  rw[hit,hu]
  show some (h1++[MO.lst acc])=_
  rw[ju,e',List.take_length]
 |k+1,m+1,i,σ,acc,e,hm,q,ju=>by
  have hi:i<us.length:=by lia
  have hu:us[i]?=some us[i]:=abw hi
  have mem:us[i]∈us:=List.getElem_mem hi
  have ht:us.take (i+1)=us.take i++[us[i]]:=List.take_succ_eq_append_getElem hi
  show((it i _).bind _)=_
  rw[hit,hu]
  show((g us[i] σ _).bind _)=_
  rw[hg _ mem σ q]
  show((c (G us[i]) _).bind _)=_
  rw[hc _ mem]
  show(if p us[i]=true then _ else _)=_
  cases hp:p us[i] with
  |true=>
   rw[abr rfl]
   show(a (G us[i]) _).bind _=_
   rw[ha _ mem hp]
   show(match(h1++[MO.lst acc])[n]? with | some (.lst acc)=>_ | _=>none)=_
   have Eb:(h1++[MO.lst acc])[n]?=some (.lst acc):=by rw[hn];simp
   have hlen:acc.length<sizeLine:=by
    have h1:acc.length<=us.length:=by
     rw[ju,ab1]
     exact abE (List.length_filter_le _ _) (List.length_take_le' _ _)
    have h2:1000000<=sizeLine:=by rw[ab0];decide
    lia
   rw[Eb]
   show(if acc.length<sizeLine then _ else none)=_
   rw[abr hlen]
   have Ee:(h1++[MO.lst acc]).set n (.lst (acc++[f us[i]]))=h1++[MO.lst (acc++[f us[i]])]:=by rw[hn];simp
   rw[Ee]
   exact mL hn hit hl hg hc ha k m (i+1) (G us[i]) (acc++[f us[i]]) (by lia) (by lia) (.inr ⟨_,mem,rfl⟩) (by rw[ht,List.filter_append,acm,<-ju];simp[hp])
  |false=>
   rw[abo abA]
   exact mL hn hit hl hg hc ha k m (i+1) (G us[i]) acc (by lia) (by lia) (.inr ⟨_,mem,rfl⟩) (by rw[ht,List.filter_append,acm,<-ju];simp[hp])
theorem Bv {ix:List (Option Nat)}{mi:MI}{g:MG}{c:MT}{a:ME}{σ:bG}{h h1:MH}{it:mZ}{us:List U}(G:U->bG)(p:U->Bool)(f:U->U)(e:mi σ h=some (it,h1))(hit:∀ (i:Nat) (H:MH),it i H=some us[i]?)(hl:us.length<1000000)
  (hg:∀ u∈us,∀ σ',(σ'=ix.map (cf σ)\/∃ v∈us,σ'=G v)->∀ l,g u σ' (h1++[.lst l])=some (G u,h1++[.lst l])) (hc:∀ u∈us,∀ l,c (G u) (h1++[.lst l])=some (p u,h1++[.lst l]))
  (ha:∀ u∈us,p u=true->∀ l,a (G u) (h1++[.lst l])=some (f u,h1++[.lst l])):bY ix mi g c a σ h=some (.ref h1.length,h1++[.lst ((us.filter p).map f)]):=by
 unfold bY
 rw[e]
 show(jJ it g c a h1.length FU 0 (ix.map (cf σ)) (h1++[.lst []])).bind _=_
 rw[mL rfl hit hl hg hc ha us.length FU 0 _ [] (by lia) (jS (by lia)) (.inl rfl) rfl]
 rfl
theorem comp_map {fr:List (Option Nat)}{mi:MI}{a:ME}{σ:bG}{h h1:MH}{it:mZ}{us:List U}(f:U->U)(e:mi σ h=some (it,h1))(hit:∀ (i:Nat) (H:MH),it i H=some us[i]?)(hl:us.length<1000000)
  (ha:∀ u∈us,∀ l,a (some u::fr.map (cf σ)) (h1++[.lst l])=some (f u,h1++[.lst l])):bY (none::fr) mi (nName 0) bS a σ h=some (.ref h1.length,h1++[.lst (us.map f)]):=by
 have:=Bv (ix:=none::fr) (g:=nName 0) (c:=bS) (a:=a) (λu=>some u::fr.map (cf σ)) (λ_=>true) f e hit hl (λu _ σ' hσ l=>by
  rcases hσ with rfl | ⟨v,_,rfl⟩<;>rfl) (λu _ l=>rfl) (λu hu _ l=>ha u hu l)
 rw[this,List.filter_eq_self.mpr (λ_ _=>rfl)]
def GW (I:bG->MH->Prop)(R:Fl->MH->Prop):Fl->MH->Prop
 |.nx σ,h=>I σ h
 |.ct σ,h=>I σ h
 |.bk σ,h=>R (.nx σ) h
 |.rt u,h=>R (.rt u) h
theorem yS {it:mZ}{g:MG}{b:MS}{m i:Nat}{σ σ1:bG}{h h1 h2:MH}{x:U}{f:Fl}(e1:it i h=some (some x))(e2:g x σ h=some (σ1,h1))(e3:b σ1 h1=some (f,h2)) :
  lz it g b (m+1) i σ h=(match(generalizing:=false) f with | .nx σ2=>lz it g b m (i+1) σ2 h2 | .ct σ2=>lz it g b m (i+1) σ2 h2 | .bk σ2=>some (.nx σ2,h2) | .rt u=>some (.rt u,h2)):=by
 show((it i h).bind _)=_
 rw[e1]
 show((g x σ h).bind _)=_
 rw[e2]
 show((b σ1 h1).bind _)=_
 rw[e3];rfl
theorem yT {c:MT}{b:MS}{m:Nat}{σ:bG}{h h1 h2:MH}{f:Fl}(e1:c σ h=some (true,h1))(e2:b σ h1=some (f,h2)) :
  nM c b (m+1) σ h=(match(generalizing:=false) f with | .nx σ2=>nM c b m σ2 h2 | .ct σ2=>nM c b m σ2 h2 | .bk σ2=>some (.nx σ2,h2) | .rt u=>some (.rt u,h2)):=by
 show(c σ h).bind _=_
 rw[e1]
 show(b σ h1).bind _=_
 rw[e2];rfl
theorem uI {it:mZ}{g:MG}{b:MS}(n:Nat)(I:Nat->bG->MH->Prop)(R:Fl->MH->Prop)
  (turn:∀ i σ h,i<n->I i σ h->∃ x σ1 h1 f h2,it i h=some (some x)/\g x σ h=some (σ1,h1)/\b σ1 h1=some (f,h2)/\GW (I (i+1)) R f h2)
  (stop:∀ σ h,I n σ h->it n h=some none/\R (.nx σ) h):∀ (k m i:Nat) (σ:bG) (h:MH),i+k=n->k<m->I i σ h->∃ f h',lz it g b m i σ h=some (f,h')/\R f h'
 |0,m+1,i,σ,h,e,_,q=>by
  have e':i=n:=by lia
  subst e'
  obtain⟨s1,s2⟩:=stop σ h q
  refine⟨.nx σ,h,?_,s2⟩
  show((it i h).bind _)=_
  rw[s1];rfl
 |k+1,m+1,i,σ,h,e,hm,q=>by
  obtain⟨x,σ1,h1,f,h2,e1,e2,e3,z⟩:=turn i σ h (by lia) q
  rw[yS e1 e2 e3]
  cases f with
  |nx σ2=>exact uI n I R turn stop k m (i+1) σ2 h2 (by lia) (by lia) z
  |ct σ2=>exact uI n I R turn stop k m (i+1) σ2 h2 (by lia) (by lia) z
  |bk σ2=>exact⟨_,_,rfl,z⟩
  |rt u=>exact⟨_,_,rfl,z⟩
theorem uJ {mi:MI}{g:MG}{b:MS}{σ:bG}{h h1:MH}{it:mZ}(n:Nat)(hn:n<1000000000)(I:Nat->bG->MH->Prop)(R:Fl->MH->Prop)(e:mi σ h=some (it,h1))(h0:I 0 σ h1)
  (turn:∀ i σ h,i<n->I i σ h->∃ x σ1 h1 f h2,it i h=some (some x)/\g x σ h=some (σ1,h1)/\b σ1 h1=some (f,h2)/\GW (I (i+1)) R f h2)
  (stop:∀ σ h,I n σ h->it n h=some none/\R (.nx σ) h):∃ f h',df mi g b σ h=some (f,h')/\R f h':=by
 obtain⟨f,h',r1,r2⟩:=uI n I R turn stop n FU 0 σ h1 (by lia) (jS hn) h0
 refine⟨f,h',?_,r2⟩
 unfold df
 rw[e]
 show lz it g b FU 0 σ h1=_
 exact r1
theorem er {c:MT}{b:MS}(I:Nat->bG->MH->Prop)(R:Fl->MH->Prop)
  (turn:∀ n σ h,I n σ h->(∃ h1,c σ h=some (false,h1)/\R (.nx σ) h1)\/(∃ h1 f h2,c σ h=some (true,h1)/\b σ h1=some (f,h2)/\GW (λσ2 h2=>∃ k,k<n/\I k σ2 h2) R f h2)) :
  ∀ (m n:Nat) (σ:bG) (h:MH),n<m->I n σ h->∃ f h',nM c b m σ h=some (f,h')/\R f h'
 |m+1,n,σ,h,hm,q=>by
  rcases turn n σ h q with⟨h1,e1,r⟩ | ⟨h1,f,h2,e1,e2,z⟩
  ·refine⟨_,_,?_,r⟩
   show(c σ h).bind _=_
   rw[e1];rfl
  ·rw[yT e1 e2]
   cases f with
   |nx σ2=>obtain⟨k,hk,z⟩:=z;exact er I R turn m k σ2 h2 (by lia) z
   |ct σ2=>obtain⟨k,hk,z⟩:=z;exact er I R turn m k σ2 h2 (by lia) z
   |bk σ2=>exact⟨_,_,rfl,z⟩
   |rt u=>exact⟨_,_,rfl,z⟩
theorem lR {h:MH}{n:Nat}{o:MO}(e:h[n]?=some o):n<h.length:=(abn.mp e).1
theorem get_set {h:MH}{n:Nat}{o p:MO}(e:h[n]?=some o):(h.set n p)[n]?=some p:=abR (lR e)
section
@[simp] theorem XS:mC u σ h=some (u,h):=rfl
@[simp] theorem VE:pK a b σ h=(a σ h).bind λp=>match p.1 with | .bl true=>b σ p.2 | .bl false=>some (.bl false,p.2) | _=>none:=rfl
@[simp] theorem V0:Aw a σ h=(a σ h).bind λp=>match p.1 with | .bl c=>some (.bl (!c),p.2) | _=>none:=rfl
@[simp] theorem X8:sM a σ h=(a σ h).bind λp=>some (!p.1,p.2):=rfl
@[simp] theorem aae:S3 c a b σ h=(c σ h).bind λp=>if p.1=true then a σ p.2 else b σ p.2:=rfl
@[simp] theorem Yd:ij a σ h=(a σ h).bind λp=>(mY p.1 p.2).bind λb=>some (b,p.2):=rfl
@[simp] theorem FF:af σ h=some ([],h):=rfl
@[simp] theorem Rz:bZ a σ h=(a σ h).bind λp=>if p.1.length<=sizeLine then some (.ref p.2.length,p.2++[.lst p.1]) else none:=rfl
@[simp] theorem VZ:aT σ h=some (.nx σ,h):=rfl
@[simp] theorem XY:bg c a b σ h=(c σ h).bind λp=>if p.1=true then a σ p.2 else b σ p.2:=rfl
@[simp] theorem X9:ag a b σ h=(a σ h).bind λp=>match p.1 with | .nx σ'=>b σ' p.2 | f=>some (f,p.2):=rfl
@[simp] theorem VY:nName i u σ h=some (σ.set i (some u),h):=rfl
@[simp] theorem VW:fV [] σ h=some (σ,h):=rfl
@[simp] theorem Td:aM g r (u::us) σ h=(g u σ h).bind λp=>r us p.1 p.2:=rfl
@[simp] theorem VX:fW n r (.tup us) σ h=if us.length=n then r us σ h else none:=rfl
@[simp] theorem Yc:qm t a σ h=(a σ h).bind λp=>match p.1 with | .str z=>(t.lookup z).bind λns=>some (.iY (ns.map .int),p.2) | _=>none:=rfl
@[simp] theorem FH:cJ a σ h=(a σ h).bind λp=>match p.1 with | .int i=>some (some i,p.2) | _=>none:=rfl
@[simp] theorem FG:bz σ h=some (none,h):=rfl
@[simp] theorem V3:sm a lo hi σ h=(a σ h).bind λp=>(lo σ p.2).bind λl=>(hi σ l.2).bind λk=>Ld p.1 l.1 k.1 k.2:=rfl
@[simp] theorem X0:uU T a σ h=(a σ h).bind λp=>(zG p.2 p.1).bind λA=>some (.bl (yM A T),p.2):=rfl
noncomputable def kV (h:MH):Option U->Option (U×MH)
 |some u=>some (u,h)
 |none=>none
@[simp] theorem Er:kV h (some u)=some (u,h):=rfl
@[simp] theorem rP:aa i σ h=(σ[i]?).bind (kV h):=by
 show(σ[i]?).bind _=_
 cases σ[i]? with
 |none=>rfl
 |some o=>cases o<;>rfl
noncomputable def U8 (g:M2)(u:U):U×MH->Option (U×MH):=λq=>g u q.1 q.2
noncomputable def kO (g:M2)(b:ME)(σ:bG):U×MH->Option (U×MH):=λp=>(b σ p.2).bind (U8 g p.1)
@[simp] theorem Ks:U8 g u (w,h)=g u w h:=rfl
@[simp] theorem QM:kO g b σ (u,h)=(b σ h).bind (U8 g u):=rfl
@[simp] theorem NJ:ay g a b σ h=(a σ h).bind (kO g b σ):=rfl
noncomputable def kU (g:M1):U×MH->Option (U×MH):=λp=>g p.1 p.2
@[simp] theorem Z0:kU g (u,h)=g u h:=rfl
@[simp] theorem aak:ba g a σ h=(a σ h).bind (kU g):=rfl
def Vc (u:U):U×MH->Option (U×MH):=λq=>if aZ q.2 u=true then(bP q.2 u q.1).bind λo=>o.bind λu=>some (u,q.2) else sJ u q.1 q.2
def kX (b:ME)(σ:bG):U×MH->Option (U×MH):=λp=>(b σ p.2).bind (Vc p.1)
@[simp] theorem Kt:Vc u (w,h)=if aZ h u=true then(bP h u w).bind λo=>o.bind λu=>some (u,h) else sJ u w h:=rfl
@[simp] theorem QN:kX b σ (u,h)=(b σ h).bind (Vc u):=rfl
@[simp] theorem Rx:ah a b σ h=(a σ h).bind (kX b σ):=rfl
def U7 (n:Bool)(u:U):U×MH->Option (U×MH):=λq=>if aZ q.2 q.1=true then(bP q.2 q.1 u).bind λo=>some (.bl (if n then !o.isSome else o.isSome),q.2) else Ak n u q.1 q.2
def kN (n:Bool)(b:ME)(σ:bG):U×MH->Option (U×MH):=λp=>(b σ p.2).bind (U7 n p.1)
@[simp] theorem Xz:U7 n u (w,h)=if aZ h w=true then(bP h w u).bind λo=>some (.bl (if n then !o.isSome else o.isSome),h) else Ak n u w h:=rfl
@[simp] theorem ZW:kN n b σ (u,h)=(b σ h).bind (U7 n u):=rfl
@[simp] theorem aaf:dS n a b σ h=(a σ h).bind (kN n b σ):=rfl
noncomputable def kB:U×MH->Option (Bool×MH):=λp=>match p.1 with | .bl c=>some (c,p.2) | _=>none
@[simp] theorem ZP:kB (.bl c,h)=some (c,h):=rfl
@[simp] theorem r_B:mB a σ h=(a σ h).bind kB:=rfl
noncomputable def kI {α:Type}(a b:MH->α):Bool×MH->α:=λp=>if p.1=true then a p.2 else b p.2
@[simp] theorem ZU {α:Type}{a b:MH->α}:kI a b (true,h)=a h:=rfl
@[simp] theorem ZT {α:Type}{a b:MH->α}:kI a b (false,h)=b h:=rfl
noncomputable def kE (b:MT)(σ:bG)(c:Bool):Bool×MH->Option (Bool×MH):=λp=>if p.1=c then some (c,p.2) else b σ p.2
@[simp] theorem ZR:kE s σ c (d,h)=if d=c then some (c,h) else s σ h:=rfl
@[simp] theorem XT:wO s t σ h=(s σ h).bind (kE t σ false):=by
 show(s σ h).bind _=_
 congr 1;funext p;unfold kE;cases p.1<;>rfl
@[simp] theorem aai:uV s t σ h=(s σ h).bind (kE t σ true):=rfl
noncomputable def U5 (u:U):List U×MH->Option (List U×MH):=λq=>some (u::q.1,q.2)
noncomputable def kC (r:MA)(σ:bG):U×MH->Option (List U×MH):=λp=>(r σ p.2).bind (U5 p.1)
@[simp] theorem Ep:U5 u (us,h)=some (u::us,h):=rfl
@[simp] theorem Mr:kC r σ (u,h)=(r σ h).bind (U5 u):=rfl
@[simp] theorem FD:ab a r σ h=(a σ h).bind (kC r σ):=rfl
noncomputable def kT:List U×MH->Option (U×MH):=λp=>if p.1.length<=sizeLine then some (.tup p.1,p.2) else none
@[simp] theorem ZZ:kT (us,h)=if us.length<=sizeLine then some (.tup us,h) else none:=rfl
@[simp] theorem Ye:av r σ h=(r σ h).bind kT:=rfl
noncomputable def kL (n:Nat)(f:MF):List U×MH->Option (U×MH):=λp=>if p.1.length=n then f p.1 p.2 else none
@[simp] theorem ZV:kL n f (us,h)=if us.length=n then f us h else none:=rfl
@[simp] theorem VG:au n f r σ h=(r σ h).bind (kL n f):=rfl
noncomputable def kF (f:MF):List U×MH->Option (U×MH):=λp=>f p.1 p.2
@[simp] theorem ZS:kF f (us,h)=f us h:=rfl
@[simp] theorem aab:ig f r σ h=(r σ h).bind (kF f):=rfl
noncomputable def kD (σ:bG):U×MH->Option (Fl×MH):=λp=>some (.nx σ,p.2)
@[simp] theorem ZQ:kD σ (u,h)=some (.nx σ,h):=rfl
@[simp] theorem VH:aK a σ h=(a σ h).bind (kD σ):=rfl
noncomputable def kR:U×MH->Option (Fl×MH):=λp=>some (.rt p.1,p.2)
@[simp] theorem Vb:kR (u,h)=some (.rt u,h):=rfl
@[simp] theorem RA:bh a σ h=(a σ h).bind kR:=rfl
noncomputable def U4:bG×MH->Option (Fl×MH):=λq=>some (.nx q.1,q.2)
noncomputable def kA (g:MG)(σ:bG):U×MH->Option (Fl×MH):=λp=>(g p.1 σ p.2).bind U4
@[simp] theorem Xy:U4 (σ,h)=some (.nx σ,h):=rfl
@[simp] theorem ZO:kA g σ (u,h)=(g u σ h).bind U4:=rfl
@[simp] theorem XU:ak a g σ h=(a σ h).bind (kA g σ):=rfl
def Va (σ:bG)(d v:U):U×MH->Option (Fl×MH):=λs=>if aZ s.2 d=true then(ed s.2 d s.1 v).bind λh'=>some (.nx σ,h') else(FY d s.1 v s.2).bind λh'=>some (.nx σ,h')
def U9 (y:ME)(σ:bG)(v:U):U×MH->Option (Fl×MH):=λq=>(y σ q.2).bind (Va σ q.1 v)
def kP (d y:ME)(σ:bG):U×MH->Option (Fl×MH):=λp=>(d σ p.2).bind (U9 y σ p.1)
@[simp] theorem XB:Va σ d v (u,h)=if aZ h d=true then(ed h d u v).bind λh'=>some (.nx σ,h') else(FY d u v h).bind λh'=>some (.nx σ,h'):=rfl
@[simp] theorem XA:U9 b σ v (u,h)=(b σ h).bind (Va σ u v):=rfl
@[simp] theorem ZX:kP a b σ (u,h)=(a σ h).bind (U9 b σ u):=rfl
@[simp] theorem RC:az a b v σ h=(v σ h).bind (kP a b σ):=rfl
noncomputable def U6 (o:U)(g:U->List U->MH->Option (U×MH)):List U×MH->Option (U×MH):=λq=>g o q.1 q.2
noncomputable def kM (g:U->List U->MH->Option (U×MH))(r:MA)(σ:bG):U×MH->Option (U×MH):=λp=>(bE p.2 p.1).bind λ_=>(r σ p.2).bind (U6 p.1 g)
@[simp] theorem Kr:U6 u g (us,h)=g u us h:=rfl
@[simp] theorem QL:kM g r σ (u,h)=(bE h u).bind λ_=>(r σ h).bind (U6 u g):=rfl
@[simp] theorem FC:i9 g a r σ h=(a σ h).bind (kM g r σ):=rfl
end
@[simp] theorem aaj (h:n<=1000000):(n<=sizeLine)=True:=eq_true (abE h (by rw[ab0];decide))
@[simp] theorem Qb:∀ n,bq h n (.int i)=some (.int i)
 |0=>rfl
 |_+1=>rfl
@[simp] theorem kr:∀ n,bq h n (.str i)=some (.str i)
 |0=>rfl
 |_+1=>rfl
@[simp] theorem Su:∀ n,bq h n (.bl i)=some (.bool i)
 |0=>rfl
 |_+1=>rfl
@[simp] theorem Qc:∀ n,bq h n .aq=some .none
 |0=>rfl
 |_+1=>rfl
@[simp] theorem XX:c6 neg (.str a) (.str b) h=some (.bl (if neg then !(a == b) else a == b),h):=by
 simp[c6,PyData.eqv]
@[simp] theorem XW:c6 neg (.int a) (.int b) h=some (.bl (if neg then !(a == b) else a == b),h):=by
 simp[c6,PyData.eqv]
@[simp] theorem VN:aZ h (.tup us)=false:=rfl
@[simp] theorem VJ:aZ h (.lst us)=false:=rfl
@[simp] theorem VL:aZ h (.iY us)=false:=rfl
@[simp] theorem VM:aZ h (.eA us)=false:=rfl
@[simp] theorem X3:sJ (.tup us) (.int i) h=(L2.iT us i).bind λu=>some (u,h):=rfl
@[simp] theorem X1:sJ (.lst us) (.int i) h=(L2.iT us i).bind λu=>some (u,h):=rfl
@[simp] theorem X2:sJ (.iY us) (.int i) h=(L2.iT us i).bind λu=>some (u,h):=rfl
theorem dW {α:Type}{us:List α}{n:Nat}:L2.iT us (n:Int)=us[n]?:=by
 unfold L2.iT L2.HX
 by_cases h:n<us.length
 ·simp[h]
 ·simp[h]
@[simp] theorem WD {α:Type}{u:α}{us:List α}:L2.iT (u::us) 0=some u:=by
 have:=dW (us:=u::us) (n:=0);simpa using this
@[simp] theorem WE {α:Type}{u v:α}{us:List α}:L2.iT (u::v::us) 1=some v:=by
 have:=dW (us:=u::v::us) (n:=1);simpa using this
@[simp] theorem WG {α:Type}{u v w:α}{us:List α}:L2.iT (u::v::w::us) 2=some w:=by
 have:=dW (us:=u::v::w::us) (n:=2);simpa using this
@[simp] theorem WH {α:Type}{u v w x:α}{us:List α}:L2.iT (u::v::w::x::us) 3=some x:=by
 have:=dW (us:=u::v::w::x::us) (n:=3);simpa using this
@[simp] theorem FA:aI (.int a) (.int b) h=some (.int (a+b),h):=rfl
@[simp] theorem VD:aI (.tup a) (.tup b) h=if a.length+b.length<=sizeLine then some (.tup (a++b),h) else none:=rfl
@[simp] theorem VC:aI (.lst a) (.lst b) h=if a.length+b.length<=sizeLine then some (.ref h.length,h++[.lst (a++b)]) else none:=rfl
theorem NH (ha:bX h a=some us)(hb:bX h b=some ws)(hz:us.length+ws.length<=1000000)(na:∀ x,a≠.int x)(ns:∀ x,a≠.str x)(nt:∀ x,a≠.tup x):aI a b h=some (.ref h.length,h++[.lst (us++ws)]):=by
 have Xw:us.length+ws.length<=sizeLine:=abE hz (by rw[ab0];decide)
 cases a with
 |lst x=>show((bX h (.lst x)).bind λp=>(bX h b).bind λq=>if p.length+q.length<=sizeLine then some (U.ref h.length,h++[MO.lst (p++q)]) else none)=_;rw[ha,hb];simp[Xw]
 |ref n=>show((bX h (.ref n)).bind λp=>(bX h b).bind λq=>if p.length+q.length<=sizeLine then some (U.ref h.length,h++[MO.lst (p++q)]) else none)=_;rw[ha,hb];simp[Xw]
 |int x=>exact absurd rfl (na x)
 |str x=>exact absurd rfl (ns x)
 |tup x=>exact absurd rfl (nt x)
 |aq=>cases ha
 |bl _=>cases ha
 |dK _=>cases ha
 |dT _=>cases ha
 |eA _=>cases ha
 |iY _=>cases ha
@[simp] theorem Tc:eW [.tup us] h=some (.ref h.length,h++[.lst us]):=rfl
@[simp] theorem Ta:eW [.lst us] h=some (.ref h.length,h++[.lst us]):=rfl
@[simp] theorem V5:cp [.tup us] h=some (.tup us,h):=rfl
@[simp] theorem V4:cp [.lst us] h=some (.tup us,h):=rfl
theorem NM (e:h[n]?=some (.lst us)):cp [.ref n] h=some (.tup us,h):=by
 show(if cD (.ref n)=true then(aQ h (.ref n)).bind λxs=>some (U.tup xs,h) else none)=_
 rw[abr (show cD (U.ref n)=true from rfl)]
 show(match h[n]? with | some (.lst us)=>some us | _=>none).bind _=_
 rw[e];rfl
@[simp] theorem VT:eV [.tup us] h=some (.int us.length,h):=rfl
@[simp] theorem VQ:eV [.lst us] h=some (.int us.length,h):=rfl
@[simp] theorem VS:eV [.eA us] h=some (.int us.length,h):=rfl
theorem AM {n d k:Nat}:HT.eB n d (some (k:Int))=min k n:=by
 unfold HT.eB
 simp
 try lia
theorem DE {us:List U}{k:Nat}:vV us (some (k:Int)) none=us.drop k:=by
 unfold vV
 rw[AM]
 show(us.drop (min k us.length)).take (us.length-min k us.length)=_
 by_cases h:k<=us.length
 ·rw[acv h,acy (by simp)]
 ·rw[Nat.min_eq_right (by lia),List.drop_eq_nil_of_le (abl _),List.drop_eq_nil_of_le (by lia)];simp
theorem AQ {us:List U}{k:Nat}{h:MH}(hk:0<k)(hu:0<us.length):Ld (.tup us) (some (k:Int)) none h=some (.tup (us.drop k),h):=by
 show(if HT.eB us.length 0 (some (k:Int))=0/\_ then none else some (U.tup (vV us (some (k:Int)) none),h))=_
 rw[AM,abo (λz=>by lia),DE]
@[simp] theorem aaq {u:U}{us:List U}{h:MH}:Ld (.tup (u::us)) (some 1) none h=some (.tup us,h):=AQ (k:=1) (by decide) (by simp)
@[simp] theorem aar {u v:U}{us:List U}{h:MH}:Ld (.tup (u::v::us)) (some 2) none h=some (.tup us,h):=AQ (k:=2) (by decide) (by simp)
@[simp] theorem uR:lQ us i H=some us[i]?:=rfl
@[simp] theorem V2:aD a σ h=(a σ h).bind λp=>match p.1 with | .tup us=>some (lQ us,p.2) | .lst us=>some (lQ us,p.2) | .eA us=>some (lQ us,p.2) | .iY us=>some (lQ us,p.2) | .ref n=>(match p.2[n]? with | some (.lst _)=>some (mj n,p.2) | _=>none) | _=>none:=rfl
theorem fH.mono (hk:j<=k)(q:fH j u):fH k u:=
 fH.rec (motive_1:=λu _=>fH k u) (motive_2:=λu _=>dB k u) .aq .bl .int .str (λ_ i=>.tup i) (λ_ i=>.lst i) (λ_ i=>.dK i) (λ_ i=>.dT i) (λl=>.ref (abK l hk)) (λ_ i=>.eA i) (λ_ i=>.iY i) .nil (λ_ _ a b=>.cons a b) q
theorem dB.mono (hk:j<=k)(q:dB j us):dB k us:=by
 cases(fH.tup q).mono hk with | tup s=>exact s
theorem bw:∀ {us},dB k us↔∀ u∈us,fH k u
 |[]=>⟨λ_ u h=>absurd h (by simp),λ_=>.nil⟩
 |u::us=>⟨λh v hv=>by
   cases h with
   |cons a r=>
    rcases abW.mp hv with rfl | hv
    ·exact a
    ·exact bw.mp r v hv,λh=>.cons (h u (by simp)) (bw.mpr λv hv=>h v (by simp[hv]))⟩
theorem tO {k:Nat}{ns:List Str}:dB k (ns.map .str):=bw.mpr λu hu=>by
 obtain⟨x,_,rfl⟩:=abu.mp hu;exact .str
theorem c9 (e:fZ N m us h=some (.ref n,h++g))(hn:h.length<=n)(hx:(h++g)[n]?=some (.lst xs))(l:dB 0 xs):dG N m us h=some (.lst xs,h):=
 kZ e (.za hn hx (l.mono (abO _)).dE)
theorem iw (e:fZ N m us h=some (u,h++g))(l:fH 0 u):dG N m us h=some (u,h):=
 kZ e (l.mono (abO _)).dE
theorem nr (e:fZ N m us h=some (u,h))(l:fH 0 u):dG N m us h=some (u,h):=iw (g:=[]) (by rw[acj];exact e) l
theorem nV (h:Str.ofString a=Str.ofString b):a=b:=by
 rw[Str.ofString_eq_toList,Str.ofString_eq_toList]at h
 injection h with h
 have h3:=congrArg Array.toList h
 dsimp only at h3
 exact String.toList_inj.mp ((List.map_inj_right (λx y e=>Char.ext (UInt32.toNat_inj.mp e))).mp h3)
@[simp] theorem ofString_eq:(Str.ofString a=Str.ofString b)=(a=b):=propext ⟨nV,λe=>by rw[e]⟩
@[simp] theorem IE:(Str.ofString a == Str.ofString b)=decide (a=b):=by
 by_cases h:a=b
 ·subst h;simp
 ·simp[h]
theorem ei {mi:MI}{g:MG}{b:MS}{σ:bG}{h h1:MH}{it:mZ}{us:List U}(I:Nat->bG->MH->Prop)(R:Fl->MH->Prop)(e:mi σ h=some (it,h1))(hit:∀ (i:Nat) (H:MH),it i H=some us[i]?)(hl:us.length<1000000)(h0:I 0 σ h1)
  (turn:∀ i u σ H,us[i]?=some u->I i σ H->∃ σ1 h1 f h2,g u σ H=some (σ1,h1)/\b σ1 h1=some (f,h2)/\GW (I (i+1)) R f h2)
  (stop:∀ σ H,I us.length σ H->R (.nx σ) H):∃ f h',df mi g b σ h=some (f,h')/\R f h':=
 uJ us.length (by lia) I R e h0 (λi σ H hi q=>by
  have hu:us[i]?=some us[i]:=abw hi
  obtain⟨σ1,h1,f,h2,e1,e2,z⟩:=turn i _ σ H hu q
  exact⟨us[i],σ1,h1,f,h2,by rw[hit,hu],e1,e2,z⟩) (λσ H q=>⟨by rw[hit];simp,stop σ H q⟩)
theorem dX (e:h[n]?=some (.lst us)):bE h (.ref n)=some (n,us):=by unfold bE;dsimp only;rw[e]
theorem nX (e:h[n]?=some (.lst us))(hl:us.length<1000000):aV (.ref n) [u] h=some (.aq,h.set n (.lst (us++[u]))):=by
 show((bE h (.ref n)).bind λp=>if p.2.length<sizeLine then some (U.aq,h.set p.1 (.lst (p.2++[u]))) else none)=_
 rw[dX e]
 exact abr (abK hl (by rw[ab0];decide))
@[simp] theorem RL:(h++[a]).set h.length b=h++[b]:=by simp
theorem cE {κ:Type}[DecidableEq κ]{kvs:List (κ×U)}{k:κ}{v:U}(h:k∉kvs.map (·.1)):p3 kvs k v=kvs++[(k,v)]:=by
 unfold p3
 rw[abo]
 intro z
 obtain⟨x,hx,e⟩:=List.any_eq_true.mp z
 exact h (abu.mpr ⟨x,hx,of_decide_eq_true e⟩)
@[simp] theorem QH:aZ (h++[.dK kvs]) (.ref h.length)=true:=by simp[aZ]
theorem tR:∀ {os:List Str},fD (bq h n) (os.map .str)=some (os.map PyData.str)
 |[]=>rfl
 |x::r=>by
  show(bq h n (.str x)).bind _=_
  rw[kr]
  show(fD (bq h n) (r.map U.str)).bind _=_
  rw[tR];rfl
theorem vJ:∀ {os:List Str},((os.map PyData.str).any λe=>PyData.eqv e (.str k))=decide (k∈os)
 |[]=>rfl
 |x::r=>by
  rw[abH,List.any_cons,vJ,PyData.eqv]
  by_cases c:x=k
  ·subst c;simp
  ·have:¬ k=x:=λz=>c z.symm
   simp[c,this]
theorem Al {neg:Bool}{k:Str}{u:U}{os:List Str}{h:MH}(hp:cD u=true)(e:aQ h u=some (os.map .str)):Ak neg (.str k) u h=some (.bl (if neg then !decide (k∈os) else decide (k∈os)),h):=by
 unfold Ak
 rw[kr]
 show(if cD u=true then _ else none)=_
 rw[abr hp,e]
 show((fD (bq h Dp) (os.map U.str)).bind _)=_
 rw[tR]
 show some _=_
 rw[vJ]
@[simp] theorem U2 {neg:Bool}{k:Str}{os:List Str}{h:MH}:Ak neg (.str k) (.lst (os.map .str)) h=some (.bl (if neg then !decide (k∈os) else decide (k∈os)),h):=Al rfl rfl
@[simp] theorem U3 {neg:Bool}{k:Str}{os:List Str}{h:MH}:Ak neg (.str k) (.tup (os.map .str)) h=some (.bl (if neg then !decide (k∈os) else decide (k∈os)),h):=Al rfl rfl
noncomputable def me:U->Bool
 |.aq=>true
 |_=>false
@[simp] theorem O9:me .aq=true:=rfl
@[simp] theorem O8:me (.int i)=false:=rfl
@[simp] theorem Pa:me (.str i)=false:=rfl
@[simp] theorem Pb:me (.tup i)=false:=rfl
@[simp] theorem XZ:oG false a .aq h=some (.bl (me a),h):=by cases a<;>rfl
@[simp] theorem VO:oG true a .aq h=some (.bl (!me a),h):=by cases a<;>rfl
theorem HI:BN us i H=some (us.zipIdx.map λx=>U.tup [.int (x.2:Nat),x.1])[i]?:=by
 unfold BN
 rw[abG,List.getElem?_zipIdx]
 cases us[i]?<;>simp
end S
namespace S
open PySem L2
variable [kf:KF]
open Classical in
open Classical in
section
@[simp] theorem RB:bA cl f o v σ h=(v σ h).bind λp=>(o σ p.2).bind λq=>(bU cl f q.1 p.1 q.2).bind λh'=>some (.nx σ,h'):=rfl
open Classical in
end
end S
namespace S
open PySem L2
variable [kf:KF]
@[simp] theorem aac:Us (.int a) (.int b) h=some (.bl (decide (b<=a)),h):=rfl
@[simp] theorem aah:QW (.int a) (.int b) h=some (.bl (decide (a<b)),h):=rfl
@[simp] theorem aag:Vi (.int a) (.int b) h=some (.bl (decide (a<=b)),h):=rfl
@[simp] theorem aad:Sx (.int a) (.int b) h=some (.bl (decide (b<a)),h):=rfl
@[simp] theorem Ya:rW (.int a) (.int b) h=some (.int (a-b),h):=rfl
@[simp] theorem X7:jP (.int a) h=some (.int (-a),h):=rfl
theorem K5 (hb:0<b):jO (.int a) (.int b) h=some (.int (a%b),h):=by
 show(if 0<b then some (U.int (a%b)) else none).bind _=_
 rw[abr hb];rfl
@[simp] theorem VU:lA C n f a σ h=(a σ h).bind λp=>if p.1.length+1=n then(f (.ref p.2.length::p.1) (p.2++[.ins C []])).bind λq=>match q.1 with | .aq=>some (.ref p.2.length,q.2) | _=>none else none:=rfl
theorem vK {α:Type}{l:List α}{x:α}:L2.iT (l++[x]) (-1)=some x:=by
 unfold L2.iT L2.HX
 have h1:(1:Int)<=(l.length:Int)+1:=by lia
 have h2:(-1+((l.length:Int)+1)).toNat=l.length:=by lia
 simp[h1,h2]
theorem pop_at (e:h[n]?=some (.lst (us++[x]))):mV (.ref n) [] h=some (x,h.set n (.lst us)):=by
 show(bE h (.ref n)).bind _=_
 rw[dX e]
 show((us++[x])[(us++[x]).length-1]?).bind _=_
 simp
noncomputable def T (hb:MH)(t:Nat)(x:Int)(g:MH):MH:=hb.set t (.lst [.int x])++g
section
theorem zV (h:hb[t]?=some (.lst [.int x])):hb=T hb t x []:=by
 unfold T
 rw[acj]
 apply List.ext_getElem?
 intro n
 by_cases e:t=n
 ·subst e;rw[get_set h];exact h
 ·rw[abF e]
@[simp] theorem PK:(T hb t x g).length=hb.length+g.length:=by simp[T]
@[simp] theorem C6:T hb t x g++g'=T hb t x (g++g'):=by simp[T]
theorem WC (ht:t<hb.length):(T hb t x g)[t]?=some (.lst [.int x]):=by
 unfold T;rw[abq (by simpa using ht),abR ht]
@[simp] theorem vI:(T hb t x g)[hb.length+i]?=g[i]?:=by
 unfold T;rw[abt (by simp)];simp
@[simp] theorem xU:(T hb t x g)[hb.length]?=g[0]?:=vI (i:=0)
theorem C8 (ht:t<hb.length):(T hb t x g).set t (.lst [.int y])=T hb t y g:=by
 unfold T;rw[acB _ _ (by simpa using ht),List.set_set]
@[simp] theorem C7:(T hb t x g).set (hb.length+i) o=T hb t x (g.set i o):=by
 unfold T;rw[abN _ _ (by simp)];simp
@[simp] theorem TX:(T hb t x g).set hb.length o=T hb t x (g.set 0 o):=C7 (i:=0)
theorem Ke (e:fZ N m us hb=some (u,T hb t x g))(f:l4 hb.length (T hb t x g) u u'):dG N m us hb=some (u',hb.set t (.lst [.int x])):=
 Ag e (.cons .int .nil) f
end
theorem qE {it:mZ}{g:MG}{a:ME}{n:Nat}{h1:MH}{σ0:bG}{us:List U}{G:U->bG}{f:U->U}(hn:n=h1.length)(hit:∀ (i:Nat) (H:MH),it i H=some us[i]?)(hl:us.length<1000000)
  (hg:∀ u∈us,∀ σ,(σ=σ0\/∃ v∈us,σ=G v)->∀ H,g u σ H=some (G u,H))
  (ha:∀ u∈us,∀ l k,∃ k',a (G u) (h1++.lst l::k)=some (f u,h1++.lst l::k')):∀ (j m i:Nat) (σ:bG) (acc:List U) (k:MH),i+j=us.length->j<m->(σ=σ0\/∃ v∈us,σ=G v)->acc=(us.take i).map f->
   ∃ k',jJ it g bS a n m i σ (h1++.lst acc::k)=some (h1++.lst (us.map f)::k')
 |0,m+1,i,σ,acc,k,e,_,q,ju=>by
  have e':i=us.length:=by lia
  have hu:us[i]?=none:=by rw[e'];simp
  refine⟨k,?_⟩
  show((it i _).bind _)=_
  rw[hit,hu]
  show some (h1++MO.lst acc::k)=_
  rw[ju,e',List.take_length]
 |j+1,m+1,i,σ,acc,k,e,hm,q,ju=>by
  have hi:i<us.length:=by lia
  have hu:us[i]?=some us[i]:=abw hi
  have mem:us[i]∈us:=List.getElem_mem hi
  have ht:us.take (i+1)=us.take i++[us[i]]:=List.take_succ_eq_append_getElem hi
  obtain⟨k1,e1⟩:=ha _ mem acc k
  obtain⟨k2,e2⟩:=qE hn hit hl hg ha j m (i+1) (G us[i]) (acc++[f us[i]]) k1 (by lia) (by lia) (.inr ⟨_,mem,rfl⟩) (by rw[ht,acm,<-ju];rfl)
  refine⟨k2,?_⟩
  show((it i _).bind _)=_
  rw[hit,hu]
  show((g us[i] σ _).bind _)=_
  rw[hg _ mem σ q]
  show(a (G us[i]) _).bind _=_
  rw[e1]
  show(match(h1++MO.lst acc::k1)[n]? with | some (.lst acc)=>_ | _=>none)=_
  have Eb:(h1++MO.lst acc::k1)[n]?=some (.lst acc):=by rw[hn];simp
  have hlen:acc.length<sizeLine:=by
   have h1:acc.length<=us.length:=by
    rw[ju,ab1]
    exact List.length_take_le' _ _
   have h2:1000000<=sizeLine:=by rw[ab0];decide
   lia
  rw[Eb]
  show(if acc.length<sizeLine then _ else none)=_
  rw[abr hlen]
  have Ee:(h1++MO.lst acc::k1).set n (.lst (acc++[f us[i]]))=h1++MO.lst (acc++[f us[i]])::k1:=by rw[hn];simp
  rw[Ee]
  exact e2
theorem Bu {fr:List (Option Nat)}{mi:MI}{a:ME}{σ:bG}{h h1:MH}{it:mZ}{us:List U}(f:U->U)(e:mi σ h=some (it,h1))(hit:∀ (i:Nat) (H:MH),it i H=some us[i]?)(hl:us.length<1000000)
  (ha:∀ u∈us,∀ l k,∃ k',a (some u::fr.map (cf σ)) (h1++.lst l::k)=some (f u,h1++.lst l::k')):∃ k,bY (none::fr) mi (nName 0) bS a σ h=some (.ref h1.length,h1++.lst (us.map f)::k):=by
 obtain⟨k,ek⟩:=qE (g:=nName 0) (G:=λu=>some u::fr.map (cf σ)) (σ0:=(none::fr).map (cf σ)) rfl hit hl (λu _ σ' hσ H=>by rcases hσ with rfl | ⟨v,_,rfl⟩<;>rfl) ha us.length FU 0 _ [] [] (by lia) (jS (by lia)) (.inl rfl) rfl
 refine⟨k,?_⟩
 unfold bY
 rw[e]
 show(jJ it (nName 0) bS a h1.length FU 0 _ (h1++[.lst []])).bind _=_
 rw[ek];rfl
theorem uQ (i)(H):itR 0 n i H=some ((List.range n).map λk:Nat=>U.int (k:Int))[i]?:=by
 unfold itR
 by_cases q:i<n
 ·rw[abr q,abG,ab3 q];simp
 ·rw[abo q,acA (by simp;lia)]
@[simp] theorem V1:bQ a σ h=(a σ h).bind λp=>match p.1 with | [.int j]=>if -(2 ^ 62)<=j/\j<2 ^ 62 then some (itR 0 j.toNat,p.2) else none | _=>none:=rfl
theorem iH (e:a σ h=some ([.int (n:Int)],h'))(hn:n<1000000):bQ a σ h=some (itR 0 n,h'):=by
 unfold bQ
 rw[e,abJ]
 dsimp only
 rw[abr ⟨by lia,by lia⟩,acp]
end S
namespace D51
open PySem L2 S
variable [kf:KF]
theorem md {x m:Int}(h:0<m):0<=x%m/\x%m<m:=⟨Int.emod_nonneg x (by lia),Int.emod_lt_of_pos x h⟩
theorem digit_eq (ht:h[t]?=some (.lst [.int x]))(hm:0<m)(QB:m<1073741824) :
  aw [.ref t,.int m] h=some (.int (x%m),h.set t (.lst [.int (x/m)])):=by
 simp[aw,fZ,pq,ag,ak,ay,ah,aa,mC,aZ,sJ,aQ,iT,HX,jO,tE,ii,nName,az,FY,bE,bh,ht,hm,QB]
theorem gC (ht:t<hb.length)(hm:0<m)(QB:m<1073741824):aw [.ref t,.int m] (T hb t x g)=some (.int (x%m),T hb t (x/m) g):=by
 rw[digit_eq (WC ht) hm QB,C8 ht]
theorem Hu {h:MH}{ns:List Int}{k:Nat}:aY [.eA (ns.map .int),.int k] h=some (.int (ns.getD k 0),h):=by
 by_cases hk:k<ns.length
 ·have O3:(k:Int)<(ns.length:Int):=by lia
  simp[iG,aY,fZ,iN,O3,sJ,aQ,S.dW,hk]
 ·have O3:¬ (k:Int)<(ns.length:Int):=by lia
  have hd:ns[k]?.getD 0=0:=by rw[ab5.mpr (by lia)];rfl
  simp[iG,aY,fZ,iN,O3,hd]
theorem A3 {h:MH}{ns:List Int}{k:Nat}(hk:k<1000):∃ x,b5 aY [.eA (ns.map .int),.int k] h=some (.ref h.length,h++[.lst [.int x]]):=by
 generalize hc:ns.getD k 0=c
 have ce:=Hu (h:=h) (ns:=ns) (k:=k)
 rw[hc]at ce
 by_cases c0:c=0
 ·exact⟨0,by simp[b5,fZ,jj,ce,c0]⟩
 ·by_cases c1:1000000000000000000<=c
  ·exact⟨c-1000000000000000000,by simp[b5,fZ,jj,ce,c0,Fg,ii,c1]⟩
  ·have o1:=md (x:=c*48271+69621*(k:Int)+11) (m:=2305843009213693951) (by decide)
   generalize e1:(c*48271+69621*(k:Int)+11)%2305843009213693951=one at o1
   have o2:=md (x:=one*one+40692*(k:Int)+one) (m:=2305843009213693951) (by decide)
   generalize e2:(one*one+40692*(k:Int)+one)%2305843009213693951=two at o2
   have o3:=md (x:=two*two+one) (m:=2305843009213693951) (by decide)
   generalize e3:(two*two+one)%2305843009213693951=three at o3
   have b1:(-18446744073709551616<one/\one<18446744073709551616):=⟨by lia,by lia⟩
   have b2:(-18446744073709551616<two/\two<18446744073709551616):=⟨by lia,by lia⟩
   have b3:(-18446744073709551616<three/\three<18446744073709551616):=⟨by lia,by lia⟩
   exact⟨((one*2305843009213693951+two)*2305843009213693951+three)*2305843009213693951+(three*three+two)%2305843009213693951,by
    simp[b5,fZ,jj,ce,c0,Fg,ii,c1,d7,ik,jO,b1,b2,b3,e1,e2,e3]⟩
end D51
namespace KM
variable {α:Type}[DecidableEq α]
theorem B5 {l:List α}(h:l.Nodup):l.reverse.Nodup:=by
 unfold List.Nodup at *
 rw[List.pairwise_reverse]
 exact h.imp λq e=>q e.symm
end KM
namespace S
open PySem L2
variable [kf:KF]
@[simp] theorem NI:aI (.str a) (.str b) h=if a.length+b.length<=sizeLine then some (.str (a++b),h) else none:=rfl
@[simp] theorem FE:aZ h (.str z)=false:=rfl
theorem Ry:sJ (.str z) (.int i) h=if z.length<=sizeLine then(L2.iT z.cps.toList i).bind λc=>some (.str ⟨#[c]⟩,h) else none:=rfl
theorem K6:Ld (.str z) lo hi h=if z.length<=sizeLine then some (.str (Txt.slice z lo hi),h) else none:=rfl
@[simp] theorem X6:d7 ik dU (.int a) (.int b) h=(if (-(2 ^ 64)<a/\a<2 ^ 64)\/(-(2 ^ 64)<b/\b<2 ^ 64) then some (.int (a*b)) else none).bind λu=>some (u,h):=by
 unfold d7 ik ii
 dsimp only
 split<;>rename_i e<;>split at e<;>first | (rw[abr ‹_›];exact e.symm) | (rw[abo ‹_›];rfl) | cases e
@[simp] theorem NN:rz a s σ h=(a σ h).bind λp=>(s σ p.2).bind λk=>A8 p.1 k.1 k.2:=rfl
theorem rn (e:h[n]?=some (.lst us)):bX h (.ref n)=some us:=by unfold bX;dsimp only;rw[e]
theorem yN (e:h[n]?=some (.lst us)):aZ h (.ref n)=false/\sJ (.ref n) (.int i) h=(L2.iT us i).bind λu=>some (u,h):=by
 constructor
 ·simp[aZ,e]
 ·simp[sJ,aQ,e]
end S
namespace D51
open PySem L2 S
variable [kf:KF]
noncomputable def xO (s:Str):Bool:=decide (1<=s.length)&&decide (s.length<=8)&&s.cps.toList.all λc=>decide (97<=c)&&decide (c<=122)
noncomputable def gH:Str:="abcdefghijklmnopqrstuvwxyz"
noncomputable def BX (t:Int):Str:=⟨#[97+t.toNat]⟩
def w0 (t:Int)(k:Nat):Str:=Txt.slice (BX t++("kovistu":Str)) none (some ((k:Int)+1))
noncomputable def words:List Str:=["say","slip","pass","of","with","else","kinds","marks","front","pick","row","done","end"]
noncomputable def w1 (t:Int)(k:Nat):Str:=words.getD ((t+(k:Int))%13).toNat ""
noncomputable def w2 (t a:Int)(k:Nat):Str:=Txt.slice ("melon":Str) none (some a)++BX ((t+(k:Int))%26)++Txt.slice ("melon":Str) (some (a+1)) none
theorem Z5:∀ t∈List.range 26,((List.range 8).map (w0 (t))).Nodup:=by decide +kernel
theorem Z6:∀ t∈List.range 26,((List.range 8).map (w1 (t))).Nodup:=by decide +kernel
theorem S4:∀ t∈List.range 26,∀ a∈List.range 5,((List.range 8).map (w2 (t) (a))).Nodup:=by decide +kernel
theorem wd0:∀ t∈List.range 26,∀ k∈List.range 8,xO (w0 (t) k)=true:=by decide +kernel
theorem wd1:∀ t∈List.range 26,∀ k∈List.range 8,xO (w1 (t) k)=true:=by decide +kernel
theorem wd2:∀ t∈List.range 26,∀ a∈List.range 5,∀ k∈List.range 8,xO (w2 (t) (a) k)=true:=by decide +kernel
theorem MM:∀ t∈List.range 26,iT gH.cps.toList (t:Int)=some (97+(t:Int).toNat):=by decide +kernel
theorem len0:∀ t∈List.range 26,(BX (t)++("kovistu":Str)).length<=8/\(BX (t)).length+("kovistu":Str).length<=8:=by decide +kernel
theorem Vj:∀ a∈List.range 5,(Txt.slice ("melon":Str) none (some (a))).length<=5/\(Txt.slice ("melon":Str) (some ((a)+1)) none).length<=5:=by decide +kernel
theorem QR:∀ a∈List.range 5,∀ t∈List.range 26,(Txt.slice ("melon":Str) none (some (a))++BX (t)).length<=6:=by decide +kernel
theorem Ip (t):(BX t).length=1:=rfl
theorem ofInt {x:Int}{n:Nat}(h0:0<=x)(h1:x<n):x.toNat∈List.range n/\((x.toNat:Nat):Int)=x:=⟨abQ.mpr (by lia),by lia⟩
def eF (m:Nat)(ns:List Str):Prop:=ns.length=m/\ns.Nodup/\∀ n∈ns,xO n=true
theorem GO (hm:m<=8)(h:((List.range 8).map F).Nodup)(g:∀ k∈List.range 8,xO (F k)=true):eF m ((List.range m).map F):=by
 refine⟨by simp,h.sublist (List.Sublist.map F (List.range_sublist.mpr hm)),λn hn=>?_⟩
 obtain⟨k,hk,rfl⟩:=abu.mp hn
 exact g k (abQ.mpr (abK (abQ.mp hk) hm))
theorem eF.turned (h:eF m ns)(c):eF m (L2.turned ns c):=by
 refine⟨by rw[mD];exact h.1,?_,λn hn=>h.2.2 n ?_⟩
 ·unfold L2.turned;split
  ·exact h.2.1
  ·exact KM.B5 h.2.1
 ·unfold L2.turned at hn;split at hn
  ·exact hn
  ·exact List.mem_reverse.mp hn
theorem zN (ns)(c):L2.turned (ns.map U.str) c=(L2.turned ns c).map U.str:=by
 unfold L2.turned;split
 ·rfl
 ·rw[List.map_reverse]
theorem wJ:gH.length<=26:=by decide +kernel
theorem tN {h:MH}{t:Int}(h0:0<=t)(h1:t<26):sJ (.str gH) (.int t) h=some (.str (BX t),h):=by
 obtain⟨m1,m2⟩:=ofInt (n:=26) h0 h1
 have e:=MM _ m1
 rw[m2]at e
 have hl:gH.length<=sizeLine:=by rw[ab0];exact abE wJ (by decide)
 rw[Ry,abr hl,e];rfl
theorem GJ (i)(h0:0<=i)(h1:i<13):L2.iT (words.map U.str) i=some (.str (words.getD i.toNat "")):=by
 obtain⟨n,rfl⟩:∃ n:Nat,i=n:=⟨i.toNat,by lia⟩
 have hn:n<words.length:=by show n<13;lia
 rw[S.dW,abG,List.getD_eq_getElem?_getD,acp,abw hn];rfl
theorem sz (h:n<=1000):n<=sizeLine:=abE h (by rw[ab0];decide)
theorem B3 {h g:MH}{t m i:Nat}{σ:bG}{ns:List Str}{y b0:Int}(bk:0<=b0/\b0<2)(s7:σ[7]?=some (some (.ref (h.length+i))))(s5:σ[5]?=some (some (.int (1-2*b0))))(hg:g[i]?=some (.lst (ns.map .str)))(ok:eF m ns) :
  ∃ Pf,bh (rz (aa 7) (cJ (aa 5))) σ (T h t y g)=some (.rt (.ref (h.length+g.length)),T h t y (g++[.lst (Pf.map .str)]))/\eF m Pf:=by
 have hc:(1-2*b0=1\/1-2*b0=-1):=by lia
 have hl:bX (T h t y g) (.ref (h.length+i))=some (ns.map .str):=rn (by rw[vI];exact hg)
 refine⟨L2.turned ns (1-2*b0),?_,ok.turned _⟩
 rw[RA,NN,rP,s7]
 simp only[abJ,Er,Vb,FH,rP,s5,A8,abr hc,hl,zN,C6,PK]
abbrev sg (t m:Nat)(w u b:Int)(x6 x7 x8 x9:Option U):bG:=[some (.ref t),some (.int m),some (.str gH),some (.int w),some (.int u),some (.int b),x6,x7,x8,x9]
theorem Iv {h:MH}{t m:Nat}{turn b y:Int}(tu:0<=turn/\turn<26)(hm:m<=8):ag (ak (ay aI (ah (aa 2) (aa 4)) (mC (.str "kovistu"))) (nName 6))
  (ak (bY [none,some 6] (bQ (ab (aa 1) af)) (nName 0) bS (sm (aa 1) bz (cJ (ay aI (aa 0) (mC (.int 1)))))) (nName 7)) (sg t m 0 turn b none none none none) (T h t y []) =
   some (.nx (sg t m 0 turn b (some (.str (BX turn++"kovistu"))) (some (.ref h.length)) none none),T h t y [.lst (((List.range m).map (w0 turn)).map .str)]):=by
 obtain⟨Lk,Sb⟩:=ofInt (n:=26) tu.1 tu.2
 have hl:=len0 _ Lk
 rw[Sb]at hl
 have ec:=comp_map (fr:=[some 6]) (mi:=bQ (ab (aa 1) af)) (a:=sm (aa 1) bz (cJ (ay aI (aa 0) (mC (.int 1))))) (σ:=sg t m 0 turn b (some (.str (BX turn++"kovistu"))) none none none) (h:=T h t y []) (h1:=T h t y []) (it:=itR 0 m) (us:=(List.range m).map λk:Nat=>U.int (k:Int))
  (λu=>match u with | .int k=>.str (w0 turn k.toNat) | _=>.aq) (iH rfl (by lia)) uQ (by simp;lia) (λu hu l=>by
   obtain⟨k,_,rfl⟩:=abu.mp hu
   simp[cf,K6,sz (abE hl.1 (by decide)),w0])
 rw[ai (σ':=sg t m 0 turn b (some (.str (BX turn++"kovistu"))) none none none) (h':=T h t y [])]
 ·rw[iU ec]
  simp[abT,aci]
 ·simp[tN tu.1 tu.2,sz (abE hl.2 (by decide))]
noncomputable def gM:List Str:=["say","slip","pass","of","with","else","kinds","marks","front","pick","row"]
theorem Qf {H:MH}{n j:Nat}{turn:Int}(e:H[n]?=some (.lst (gM.map .str))):ah (ay aI (aa 2) (bZ (ab (mC (.str "done")) (ab (mC (.str "end")) af)))) (ay jO (ay aI (aa 1) (aa 0)) (mC (.int 13))) [some (.int j),some (.int turn),some (.ref n)] H=some (.str (w1 turn j),H++[.lst [.str "done",.str "end"]]++[.lst (words.map .str)]):=by
 have q:=md (x:=turn+(j:Int)) (m:=13) (by decide)
 have ea:=NH (a:=.ref n) (b:=.ref H.length) (us:=gM.map .str) (ws:=[.str "done",.str "end"]) (h:=H++[.lst [.str "done",.str "end"]]) (rn (by rw[abq (lR e)];exact e)) (rn (by simp)) (by decide) (λ_=>by simp) (λ_=>by simp) (λ_=>by simp)
 have ew:gM.map U.str++[.str "done",.str "end"]=words.map U.str:=rfl
 rw[ew]at ea
 obtain⟨i1,i2⟩:=yN (i:=(turn+(j:Int))%13) (show(H++[MO.lst [.str "done",.str "end"]]++[MO.lst (words.map .str)])[(H++[MO.lst [.str "done",.str "end"]]).length]?=some (.lst (words.map .str)) by simp)
 rw[GJ _ q.1 q.2]at i2
 rw[Rx,NJ,rP]
 simp only[abV,abB,abJ,Rz,Er,QN,Kt,QM,Ks,Mr,Ep,FD,XS,FF,abC,List.length_nil,abr (sz (show 0+1+1<=1000 by decide)),ea,NJ,rP,FA,K5 (show(0:Int)<13 by decide),i1,abo abA,i2]
 rfl
theorem Iw {h:MH}{t m:Nat}{turn b y:Int}(tu:0<=turn/\turn<26)(hm:m<=8):∃ k,ag (ak (bZ (ab (mC (.str "say")) (ab (mC (.str "slip")) (ab (mC (.str "pass")) (ab (mC (.str "of")) (ab (mC (.str "with")) (ab (mC (.str "else")) (ab (mC (.str "kinds")) (ab (mC (.str "marks")) (ab (mC (.str "front")) (ab (mC (.str "pick")) (ab (mC (.str "row")) af)))))))))))) (nName 8))
  (ak (bY [none,some 4,some 8] (bQ (ab (aa 1) af)) (nName 0) bS (ah (ay aI (aa 2) (bZ (ab (mC (.str "done")) (ab (mC (.str "end")) af)))) (ay jO (ay aI (aa 1) (aa 0)) (mC (.int 13))))) (nName 7)) (sg t m 1 turn b none none none none) (T h t y []) =
   some (.nx (sg t m 1 turn b none (some (.ref (h.length+1))) (some (.ref h.length)) none),T h t y (.lst (gM.map .str)::.lst (((List.range m).map (w1 turn)).map .str)::k)):=by
 obtain⟨k,ec⟩:=Bu (fr:=[some 4,some 8]) (mi:=bQ (ab (aa 1) af)) (a:=ah (ay aI (aa 2) (bZ (ab (mC (.str "done")) (ab (mC (.str "end")) af)))) (ay jO (ay aI (aa 1) (aa 0)) (mC (.int 13)))) (σ:=sg t m 1 turn b none none (some (.ref h.length)) none) (h:=T h t y [.lst (gM.map .str)]) (h1:=T h t y [.lst (gM.map .str)]) (it:=itR 0 m) (us:=(List.range m).map λk:Nat=>U.int (k:Int))
  (λu=>match u with | .int k=>.str (w1 turn k.toNat) | _=>.aq) (iH rfl (by lia)) uQ (by simp;lia) (λu hu l k=>by
   obtain⟨j,_,rfl⟩:=abu.mp hu
   refine⟨k++[.lst [.str "done",.str "end"]]++[.lst (words.map .str)],?_⟩
   rw[show(some (U.int (j:Int))::List.map (cf (sg t m 1 turn b none none (some (.ref h.length)) none)) [some 4,some 8])=[some (.int (j:Int)),some (.int turn),some (.ref h.length)] from rfl,Qf (by rw[C6,xU];rfl)]
   simp)
 refine⟨k,?_⟩
 rw[ai (σ':=sg t m 1 turn b none none (some (.ref h.length)) none) (h':=T h t y [.lst (gM.map .str)])]
 ·rw[iU ec]
  simp[abT,aci]
 ·simp[gM]
theorem Iy {h:MH}{t m:Nat}{way turn b y:Int}(ht:t<h.length)(tu:0<=turn/\turn<26)(hm:m<=8):ag (ak (au 2 aw (ab (aa 0) (ab (mC (.int 5)) af))) (nName 9))
  (ak (bY [none,some 9,some 2,some 4] (bQ (ab (aa 1) af)) (nName 0) bS (ay aI (ay aI (sm (mC (.str "melon")) bz (cJ (aa 1))) (ah (aa 2) (ay jO (ay aI (aa 3) (aa 0)) (mC (.int 26))))) (sm (mC (.str "melon")) (cJ (ay aI (aa 1) (mC (.int 1)))) bz))) (nName 7)) (sg t m way turn b none none none none) (T h t y []) =
   some (.nx (sg t m way turn b none (some (.ref h.length)) none (some (.int (y%5)))),T h t (y/5) [.lst (((List.range m).map (w2 turn (y%5))).map .str)]):=by
 have qa:=md (x:=y) (m:=5) (by decide)
 obtain⟨PN,Sn⟩:=ofInt (n:=5) qa.1 qa.2
 have l2:=Vj _ PN
 rw[Sn]at l2
 have Zu:("melon":Str).length<=1000:=by decide +kernel
 have lb:=QR _ PN
 rw[Sn]at lb
 have ec:=comp_map (fr:=[some 9,some 2,some 4]) (mi:=bQ (ab (aa 1) af)) (a:=ay aI (ay aI (sm (mC (.str "melon")) bz (cJ (aa 1))) (ah (aa 2) (ay jO (ay aI (aa 3) (aa 0)) (mC (.int 26))))) (sm (mC (.str "melon")) (cJ (ay aI (aa 1) (mC (.int 1)))) bz)) (σ:=sg t m way turn b none none none (some (.int (y%5)))) (h:=T h t (y/5) []) (h1:=T h t (y/5) []) (it:=itR 0 m) (us:=(List.range m).map λk:Nat=>U.int (k:Int))
  (λu=>match u with | .int k=>.str (w2 turn (y%5) k.toNat) | _=>.aq) (iH rfl (by lia)) uQ (by simp;lia) (λu hu l=>by
   obtain⟨k,_,rfl⟩:=abu.mp hu
   have q:=md (x:=turn+(k:Int)) (m:=26) (by decide)
   obtain⟨t1,t2⟩:=ofInt (n:=26) q.1 q.2
   have Z3:=lb _ t1
   rw[t2]at Z3
   have z1:(Txt.slice ("melon":Str) none (some (y%5))).length+(BX ((turn+(k:Int))%26)).length<=1000:=by have:=l2.1;have:=Ip ((turn+(k:Int))%26);lia
   have z2:(Txt.slice ("melon":Str) none (some (y%5))++BX ((turn+(k:Int))%26)).length+(Txt.slice ("melon":Str) (some (y%5+1)) none).length<=1000:=by have:=l2.2;lia
   show ay aI _ _ [some (.int (k:Int)),some (.int (y%5)),some (.str gH),some (.int turn)] _=_
   simp only[abV,abB,abJ,Er,QN,Kt,QM,Ks,NJ,V3,XS,FG,FH,rP,K6,abr (sz Zu),Rx,FA,K5 (show(0:Int)<26 by decide),FE,abo abA,tN q.1 q.2,NI,abr (sz z1),abr (sz z2),acp,w2])
 rw[ai (σ':=sg t m way turn b none none none (some (.int (y%5)))) (h':=T h t (y/5) [])]
 ·rw[iU ec]
  simp[abT,aci]
 ·simp[gC ht]
theorem rB {h:MH}{t m:Nat}{x:Int}(ht:h[t]?=some (.lst [.int x]))(hm:m<=8) :
  ∃ ns y,iE aw [.ref t,.int m] h=some (.lst (ns.map .str),h.set t (.lst [.int y]))/\eF m ns:=by
 have vB:=lR ht
 have w:=md (x:=x) (m:=3) (by decide)
 have tu:=md (x:=x/3) (m:=26) (by decide)
 have bk:=md (x:=x/3/26) (m:=2) (by decide)
 obtain⟨Lk,Sb⟩:=ofInt (n:=26) tu.1 tu.2
 have fin (g:MH) (y:Int) (i:Nat) (σ:bG) (ns:List Str) (s7:σ[7]?=some (some (.ref (h.length+i)))) (s5:σ[5]?=some (some (.int (1-2*(x/3/26%2))))) (hg:g[i]?=some (.lst (ns.map .str))) (ok:eF m ns)
   (run:fQ aw [some (.ref t),some (.int m),none,none,none,none,none,none,none,none] (T h t x [])=bh (rz (aa 7) (cJ (aa 5))) σ (T h t y g)) :
   ∃ ns y,iE aw [.ref t,.int m] h=some (.lst (ns.map .str),h.set t (.lst [.int y]))/\eF m ns:=by
  obtain⟨Pf,e,Z7⟩:=B3 (h:=h) (t:=t) (y:=y) bk s7 s5 hg ok
  refine⟨Pf,y,Ke (u:=.ref (h.length+g.length)) (g:=g++[.lst (Pf.map .str)]) ?_ (.za (us:=Pf.map .str) (Nat.le_add_right _ _) (vI.trans (by simp)) (tO.dE)),Z7⟩
  refine bc ?_
  rw[<-e,<-run]
  show fQ aw _ h=_
  conv=>lhs;rw[zV ht]
  rfl
 have pre:fQ aw [some (.ref t),some (.int m),none,none,none,none,none,none,none,none] (T h t x [])=(ag (bg (mB (ay (S.c6 false) (aa 3) (mC (.int 0)))) (ag (ak (ay aI (ah (aa 2) (aa 4)) (mC (.str "kovistu"))) (nName 6))
  (ak (bY [none,some 6] (bQ (ab (aa 1) af)) (nName 0) bS (sm (aa 1) bz (cJ (ay aI (aa 0) (mC (.int 1)))))) (nName 7))) (bg (mB (ay (S.c6 false) (aa 3) (mC (.int 1)))) (ag (ak (bZ (ab (mC (.str "say")) (ab (mC (.str "slip")) (ab (mC (.str "pass")) (ab (mC (.str "of")) (ab (mC (.str "with")) (ab (mC (.str "else")) (ab (mC (.str "kinds")) (ab (mC (.str "marks")) (ab (mC (.str "front")) (ab (mC (.str "pick")) (ab (mC (.str "row")) af)))))))))))) (nName 8))
  (ak (bY [none,some 4,some 8] (bQ (ab (aa 1) af)) (nName 0) bS (ah (ay aI (aa 2) (bZ (ab (mC (.str "done")) (ab (mC (.str "end")) af)))) (ay jO (ay aI (aa 1) (aa 0)) (mC (.int 13))))) (nName 7))) (ag (ak (au 2 aw (ab (aa 0) (ab (mC (.int 5)) af))) (nName 9))
  (ak (bY [none,some 9,some 2,some 4] (bQ (ab (aa 1) af)) (nName 0) bS (ay aI (ay aI (sm (mC (.str "melon")) bz (cJ (aa 1))) (ah (aa 2) (ay jO (ay aI (aa 3) (aa 0)) (mC (.int 26))))) (sm (mC (.str "melon")) (cJ (ay aI (aa 1) (mC (.int 1)))) bz))) (nName 7)))))
  (bh (rz (aa 7) (cJ (aa 5))))) (sg t m (x%3) (x/3%26) (1-2*(x/3/26%2)) none none none none) (T h t (x/3/26/2) []):=by
  unfold fQ
  rw[ai (σ':=[some (.ref t),some (.int m),some (.str gH),none,none,none,none,none,none,none]) (h':=T h t x []) rfl,
   ai (σ':=[some (.ref t),some (.int m),some (.str gH),some (.int (x%3)),none,none,none,none,none,none]) (h':=T h t (x/3) []) (by simp[gC vB]),
   ai (σ':=[some (.ref t),some (.int m),some (.str gH),some (.int (x%3)),some (.int (x/3%26)),none,none,none,none,none]) (h':=T h t (x/3/26) []) (by simp[gC vB]),
   ai (σ':=sg t m (x%3) (x/3%26) (1-2*(x/3/26%2)) none none none none) (h':=T h t (x/3/26/2) []) (by simp[gC vB])]
 generalize x/3/26/2=y at *
 generalize x/3/26%2=b0 at *
 generalize x/3%26=turn at *
 generalize x%3=way at *
 by_cases c0:way=0
 ·subst c0
  have ok:=GO (m:=m) hm (Z5 _ Lk) (wd0 _ Lk)
  rw[Sb]at ok
  refine fin [.lst (((List.range m).map (w0 turn)).map .str)] y 0 (sg t m 0 turn (1-2*b0) (some (.str (BX turn++"kovistu"))) (some (.ref h.length)) none none) _ rfl rfl rfl ok ?_
  rw[pre,ai]
  rw[gG (k:=true) (h':=T h t y []) (by simp),abr rfl]
  exact Iv tu hm
 ·by_cases c1:way=1
  ·subst c1
   have ok:=GO (m:=m) hm (Z6 _ Lk) (wd1 _ Lk)
   rw[Sb]at ok
   obtain⟨k,e1⟩:=Iw (h:=h) (t:=t) (m:=m) (turn:=turn) (b:=1-2*b0) (y:=y) tu hm
   refine fin (.lst (gM.map .str)::.lst (((List.range m).map (w1 turn)).map .str)::k) y 1 (sg t m 1 turn (1-2*b0) none (some (.ref (h.length+1))) (some (.ref h.length)) none) _ rfl rfl rfl ok ?_
   rw[pre,ai]
   rw[gG (k:=false) (h':=T h t y []) (by simp),abo abA,gG (k:=true) (h':=T h t y []) (by simp),abr rfl]
   exact e1
  ·have qa:=md (x:=y) (m:=5) (by decide)
   obtain⟨PN,Sn⟩:=ofInt (n:=5) qa.1 qa.2
   have ok:=GO (m:=m) hm (S4 _ Lk _ PN) (wd2 _ Lk _ PN)
   rw[Sb,Sn]at ok
   refine fin [.lst (((List.range m).map (w2 turn (y%5))).map .str)] (y/5) 0 (sg t m way turn (1-2*b0) none (some (.ref h.length)) none (some (.int (y%5)))) _ rfl rfl rfl ok ?_
   rw[pre,ai]
   rw[gG (k:=false) (h':=T h t y []) (by simp[c0]),abo abA,gG (k:=false) (h':=T h t y []) (by simp[c1]),abo abA]
   exact Iy vB tu hm
end D51
namespace S
open PySem L2
variable [kf:KF]
@[simp] theorem VI:Ej [.bl b] h=some (.int (if b then 1 else 0),h):=rfl
theorem qe (I:Nat->bG->MH->Prop)(e:mi σ h=some (itR 0 n,h1))(hn:n<1000000)(h0:I 0 σ h1)
  (turn:∀ i σ K,i<n->I i σ K->∃ σ2 K2,b (σ.set j (some (.int (i:Nat)))) K=some (.nx σ2,K2)/\I (i+1) σ2 K2):∃ σ' K,df mi (nName j) b σ h=some (.nx σ',K)/\I n σ' K:=by
 obtain⟨f,K,e1,e2⟩:=ei (mi:=mi) (g:=nName j) (b:=b) (σ:=σ) (h:=h) (us:=(List.range n).map λk:Nat=>U.int (k:Int)) I (λf K=>∃ σ',f=.nx σ'/\I n σ' K) e uQ (by simpa using hn) h0
  (λi u σ K hu q=>by
   rw[abG]at hu
   obtain⟨k,hk,rfl⟩:=ab6.mp hu
   have hi:i<n:=by have:=(abn.mp hk).1;simpa using this
   have:k=i:=by rw[ab3 hi]at hk;exact(abD hk).symm
   subst this
   obtain⟨σ2,K2,e2,q2⟩:=turn k σ K hi q
   exact⟨_,_,.nx σ2,K2,rfl,e2,q2⟩)
  (λσ K q=>by simp at q;exact⟨σ,rfl,q⟩)
 obtain⟨σ',rfl,q⟩:=e2
 exact⟨σ',K,e1,q⟩
end S
namespace D51
open PySem L2 S
variable [kf:KF]
noncomputable def ib (ks:List (Str×Str)):U:=.tup (ks.map λk=>.tup [.str k.1,.str k.2])
abbrev lG:MF:=iE aw
abbrev oK:MF:=pO aw lG
theorem Iz {h g:MH}{t m:Nat}{x:Int}(ht:t<h.length)(hm:m<=8):∃ ns y,lG [.ref t,.int m] (T h t x g)=some (.lst (ns.map .str),T h t y g)/\eF m ns:=by
 obtain⟨ns,y,e,ok⟩:=rB (h:=T h t x g) (t:=t) (WC ht) hm
 rw[C8 ht]at e
 exact⟨ns,y,e,ok⟩
noncomputable def eO (k:Str×Str):U:=.tup [.str k.1,.str k.2]
def m3 (ks:List (Str×Str)):Prop:=∀ (i:Nat) (k o:Str),ks[i]?=some (k,o)->o=Str.ofString ""\/∃ j:Nat,j<i/\(ks.map (·.1))[j]?=some o
theorem m3.snoc (ko:m3 ks)(ho:o=Str.ofString ""\/∃ j:Nat,j<ks.length/\(ks.map (·.1))[j]?=some o):m3 (ks++[(n,o)]):=λi' k o' z=>by
 have up:∀ {j:Nat}{z:Str},(ks.map (·.1))[j]?=some z->((ks++[(n,o)]).map (·.1))[j]?=some z:=λ{j z} hz=>by
  rw[acm,abq (abn.mp hz).1];exact hz
 by_cases q:i' < ks.length
 ·rw[abq q]at z
  rcases ko i' k o' z with z | ⟨j,j1,j2⟩
  ·exact .inl z
  ·exact .inr ⟨j,j1,up j2⟩
 ·have SH:i'=ks.length:=by
   have:=(abn.mp z).1
   simp at this;lia
  subst SH
  simp at z
  obtain⟨_,rfl⟩:=z
  rcases ho with z | ⟨j,j1,j2⟩
  ·exact .inl z
  ·exact .inr ⟨j,by lia,up j2⟩
def KindsOk (ks:List (Str×Str)):Prop:=eF ks.length (ks.map (·.1))/\m3 ks
theorem Et {h:MH}{t:Nat}{x:Int}(ht:h[t]?=some (.lst [.int x])):∃ ks y,oK [.ref t] h=some (ib ks,h.set t (.lst [.int y]))/\KindsOk ks/\1<=ks.length/\ks.length<=8:=by
 have vB:=lR ht
 have s1:∃ (m:Nat) (y:Int),1<=m/\m<=8/\ak (ay aI (mC (.int 1)) (au 2 aw (ab (aa 0) (ab (ah (bZ (ab (mC (.int 4)) (ab (mC (.int 8)) af))) (ig Ej (ab (ay (S.c6 false) (au 2 aw (ab (aa 0) (ab (mC (.int 6)) af))) (mC (.int 5))) af))) af)))) (nName 1) [some (.ref t),none,none,none,none,none] (T h t x [])=some (.nx [some (.ref t),some (.int m),none,none,none,none],T h t y [.lst [.int 4,.int 8]]):=by
  by_cases q:x%6=5
  ·have d:=md (x:=x/6) (m:=8) (by decide)
   refine⟨(1+x/6%8).toNat,x/6/8,by lia,by lia,?_⟩
   have e:(((1+x/6%8).toNat:Nat):Int)=1+x/6%8:=by lia
   obtain⟨i1,i2⟩:=yN (h:=T h t (x/6) [.lst [.int 4,.int 8]]) (n:=h.length) (us:=[.int 4,.int 8]) (i:=1) (by rw[xU];rfl)
   rw[e]
   simp[gC vB,q,i1,i2]
  ·have d:=md (x:=x/6) (m:=4) (by decide)
   refine⟨(1+x/6%4).toNat,x/6/4,by lia,by lia,?_⟩
   have e:(((1+x/6%4).toNat:Nat):Int)=1+x/6%4:=by lia
   obtain⟨i1,i2⟩:=yN (h:=T h t (x/6) [.lst [.int 4,.int 8]]) (n:=h.length) (us:=[.int 4,.int 8]) (i:=0) (by rw[xU];rfl)
   rw[e]
   simp[gC vB,q,i1,i2]
 obtain⟨m,y1,m1,m8,s1⟩:=s1
 obtain⟨ns,y2,e2,S5⟩:=Iz (g:=[.lst [.int 4,.int 8]]) (x:=y1) vB m8
 obtain⟨σ',K,e3,ks,y,rfl,kl,km,ko,no,oo,rfl⟩:=qe (mi:=bQ (ab (aa 1) af)) (j:=4) (n:=m) (b:=(ag (ak (au 2 aw (ab (aa 0) (ab (mC (.int 3)) af))) (nName 5))
  (bg (uV (mB (ay (S.c6 false) (aa 4) (mC (.int 0)))) (mB (ay (S.c6 false) (aa 5) (mC (.int 0))))) (aK (i9 aV (aa 3) (ab (av (ab (ah (aa 2) (aa 4)) (ab (mC (.str "")) af))) af))) (aK (i9 aV (aa 3) (ab (av (ab (ah (aa 2) (aa 4)) (ab (ah (aa 2) (au 2 aw (ab (aa 0) (ab (aa 4) af)))) af))) af))))))
  (σ:=[some (.ref t),some (.int m),some (.lst (ns.map .str)),some (.ref (h.length+1)),none,none]) (h:=T h t y2 [.lst [.int 4,.int 8],.lst []]) (h1:=T h t y2 [.lst [.int 4,.int 8],.lst []])
  (λi σ K=>∃ ks y,K=T h t y [.lst [.int 4,.int 8],.lst (ks.map eO)]/\ks.length=i/\ks.map (·.1)=ns.take i/\m3 ks/\∃ no oo,σ=[some (.ref t),some (.int m),some (.lst (ns.map .str)),some (.ref (h.length+1)),no,oo])
  (iH rfl (by lia)) (by lia) ⟨[],y2,rfl,rfl,rfl,(λi k o z=>by simp at z),_,_,rfl⟩
  (λi σ K hi q=>by
   obtain⟨ks,y,rfl,kl,km,ko,no,oo,rfl⟩:=q
   obtain⟨nm,Xq⟩:∃ nm,ns[i]?=some nm:=⟨_,abw (by rw[S5.1];exact hi)⟩
   have Xt:ns.take (i+1)=ns.take i++[nm]:=by rw[List.take_add_one,Xq];rfl
   have Xh:L2.iT (ns.map U.str) (i:Int)=some (.str nm):=by rw[S.dW,abG,Xq];rfl
   have g1:∀ z:Int,(T h t z [.lst [.int 4,.int 8],.lst (ks.map eO)])[h.length+1]?=some (.lst (ks.map eO)):=λz=>vI
   by_cases q:i=0\/y%3=0
   ·refine⟨[some (.ref t),some (.int m),some (.lst (ns.map .str)),some (.ref (h.length+1)),some (.int (i:Nat)),some (.int (y%3))],T h t (y/3) [.lst [.int 4,.int 8],.lst (ks.map eO++[eO (nm,"")])],?_,ks++[(nm,Str.ofString "")],y/3,by simp,by simp[kl],by rw[Xt];simp[km],ko.snoc (.inl rfl),_,_,rfl⟩
    have ap:=nX (u:=eO (nm,"")) (g1 (y/3)) (by simp;lia)
    rw[show eO (nm,"")=U.tup [.str nm,.str ""] from rfl]at ap ⊢
    rw[C7]at ap
    have YL:uV (mB (ay (S.c6 false) (aa 4) (mC (.int 0)))) (mB (ay (S.c6 false) (aa 5) (mC (.int 0)))) [some (.ref t),some (.int m),some (.lst (ns.map .str)),some (.ref (h.length+1)),some (.int (i:Nat)),some (.int (y%3))] (T h t (y/3) [.lst [.int 4,.int 8],.lst (ks.map eO)])=some (true,T h t (y/3) [.lst [.int 4,.int 8],.lst (ks.map eO)]):=by
     by_cases z:(i:Int)=0
     ·simp[z]
     ·have z2:y%3=0:=by lia
      simp[z,z2]
    rw[ai (σ':=[some (.ref t),some (.int m),some (.lst (ns.map .str)),some (.ref (h.length+1)),some (.int (i:Nat)),some (.int (y%3))]) (h':=T h t (y/3) [.lst [.int 4,.int 8],.lst (ks.map eO)]) (by simp[gC vB]),gG YL,abr rfl]
    simp[dX (g1 (y/3)),Xh,ap]
   ·have i0:0<i:=by lia
    have q3:¬ y%3=0:=by lia
    have qi:¬ (i:Int)=0:=by lia
    obtain⟨d1,d2⟩:=md (x:=y/3) (m:=(i:Int)) (by lia)
    obtain⟨j,hj⟩:∃ j:Nat,y/3%(i:Int)=(j:Int):=⟨(y/3%(i:Int)).toNat,by lia⟩
    have SJ:j<i:=by lia
    obtain⟨om,Xs⟩:∃ om,ns[j]?=some om:=⟨_,abw (by rw[S5.1];lia)⟩
    have Y4:L2.iT (ns.map U.str) (j:Int)=some (.str om):=by rw[S.dW,abG,Xs];rfl
    refine⟨[some (.ref t),some (.int m),some (.lst (ns.map .str)),some (.ref (h.length+1)),some (.int (i:Nat)),some (.int (y%3))],T h t (y/3/i) [.lst [.int 4,.int 8],.lst (ks.map eO++[eO (nm,om)])],?_,ks++[(nm,om)],y/3/i,by simp,by simp[kl],by rw[Xt];simp[km],ko.snoc (.inr ⟨j,by lia,by rw[km,List.getElem?_take_of_lt SJ];exact Xs⟩),_,_,rfl⟩
    have ap:=nX (u:=eO (nm,om)) (g1 (y/3/i)) (by simp;lia)
    rw[show eO (nm,om)=U.tup [.str nm,.str om] from rfl]at ap ⊢
    rw[C7]at ap
    have UL:(i:Int)<1073741824:=by lia
    have Zk:(0:Int)<(i:Int):=by lia
    rw[ai (σ':=[some (.ref t),some (.int m),some (.lst (ns.map .str)),some (.ref (h.length+1)),some (.int (i:Nat)),some (.int (y%3))]) (h':=T h t (y/3) [.lst [.int 4,.int 8],.lst (ks.map eO)]) (by simp[gC vB]),gG (k:=false) (h':=T h t (y/3) [.lst [.int 4,.int 8],.lst (ks.map eO)]) (by simp[show ¬ i=0 by lia,q3]),abo abA]
    simp[dX (g1 (y/3)),Xh,gC vB Zk UL,hj,Y4,ap])
 refine⟨ks,y,?_,⟨by rw[km,kl,acy (by rw[S5.1];exact abl _)];exact S5,ko⟩,by lia,by lia⟩
 refine Ke (u:=ib ks) (g:=[.lst [.int 4,.int 8],.lst (ks.map eO)]) ?_ (fH.dE ((show fH 0 (ib ks) from .tup (bw.mpr λu hu=>by obtain⟨k,_,rfl⟩:=abu.mp hu;exact .tup (.cons .str (.cons .str .nil)))).mono (abO _)))
 refine bc ?_
 show j8 _ _ [some (.ref t),none,none,none,none,none] h=_
 conv=>lhs;rw[zV ht]
 unfold j8
 rw[ai s1,ai (σ':=[some (.ref t),some (.int m),some (.lst (ns.map .str)),none,none,none]) (h':=T h t y2 [.lst [.int 4,.int 8]]) (by simp[e2]),ai (σ':=[some (.ref t),some (.int m),some (.lst (ns.map .str)),some (.ref (h.length+1)),none,none]) (h':=T h t y2 [.lst [.int 4,.int 8],.lst []]) (by simp),ai e3]
 have UY:=NM (n:=h.length+1) (us:=ks.map eO) (h:=T h t y [.lst [.int 4,.int 8],.lst (ks.map eO)]) vI
 simp[UY,ib]
 exact λ_ _ _=>rfl
end D51
namespace S
open PySem L2
variable [kf:KF]
@[simp] theorem Yb (h:n<1000000):(n<sizeLine)=True:=eq_true (abK h (by rw[ab0];decide))
@[simp] theorem pF {h g:MH}{k:Nat}:(h++g)[h.length+k]?=g[k]?:=by rw[abt (by lia)];congr 1;lia
@[simp] theorem L7 {h g:MH}:(h++g)[h.length]?=g[0]?:=pF (k:=0)
@[simp] theorem L8 {h g:MH}{k:Nat}{o:MO}:(h++g).set (h.length+k) o=h++g.set k o:=by rw[abN _ _ (by lia)];congr 2;lia
@[simp] theorem SD {h g:MH}{o:MO}:(h++g).set h.length o=h++g.set 0 o:=L8 (k:=0)
section
def CQ (it:mZ)(g:MG)(b:MS)(k i:Nat)(σ:bG)(h:MH):Option (Fl×MH):=lz it g b (FU-k) i σ h
def P7 (it:mZ)(g:MG)(b:MS)(k i:Nat):Fl×MH->Option (Fl×MH):=λq=>match q.1 with
 |.nx σ2=>CQ it g b k i σ2 q.2
 |.ct σ2=>CQ it g b k i σ2 q.2
 |.bk σ2=>some (.nx σ2,q.2)
 |.rt u=>some (.rt u,q.2)
@[simp] theorem qM:df mi g b σ h=(mi σ h).bind λp=>CQ p.1 g b 0 0 σ p.2:=rfl
theorem DT (hk:k<1000):FU-k=(FU-(k+1))+1:=by have:=jS (n:=k+1) (by lia);lia
def Uv (it:mZ)(g:MG)(b:MS)(k i:Nat)(σ:bG)(h:MH):Option U->Option (Fl×MH)
 |none=>some (.nx σ,h)
 |some x=>(g x σ h).bind λp=>(b p.1 p.2).bind (P7 it g b k i)
@[simp] theorem Xc:Uv it g b k i σ h none=some (.nx σ,h):=rfl
@[simp] theorem D5:Uv it g b k i σ h (some x)=(g x σ h).bind λp=>(b p.1 p.2).bind (P7 it g b k i):=rfl
@[simp] theorem tP (hk:k<1000):CQ it g b k i σ h=(it i h).bind (Uv it g b (k+1) (i+1) σ h):=by
 unfold CQ;rw[DT hk]
 show(it i h).bind _=_
 cases it i h with
 |none=>rfl
 |some o=>cases o<;>rfl
@[simp] theorem T9:P7 it g b k i (.nx σ,h2)=CQ it g b k i σ h2:=rfl
@[simp] theorem T8:P7 it g b k i (.ct σ,h2)=CQ it g b k i σ h2:=rfl
@[simp] theorem Ua:P7 it g b k i (.rt u,h2)=some (.rt u,h2):=rfl
def Io (it:mZ)(g:MG)(c:MT)(a:ME)(n k i:Nat)(σ:bG)(h:MH):Option MH:=jJ it g c a n (FU-k) i σ h
def Ss (it:mZ)(g:MG)(c:MT)(a:ME)(n k i:Nat)(σ:bG):U×MH->Option MH:=λq=>match q.2[n]? with
 |some (.lst acc)=>if acc.length<sizeLine then Io it g c a n k i σ (q.2.set n (.lst (acc++[q.1]))) else none
 |_=>none
@[simp] theorem z9:bY ix mi g c a σ h=(mi σ h).bind λp=>(Io p.1 g c a p.2.length 0 0 (ix.map (cf σ)) (p.2++[.lst []])).bind λh'=>some (.ref p.2.length,h'):=rfl
def Uu (it:mZ)(g:MG)(c:MT)(a:ME)(n k i:Nat)(σ:bG)(h:MH):Option U->Option MH
 |none=>some h
 |some x=>(g x σ h).bind λp=>(c p.1 p.2).bind λz=>if z.1=true then(a p.1 z.2).bind (Ss it g c a n k i p.1) else Io it g c a n k i p.1 z.2
@[simp] theorem Xb:Uu it g c a n k i σ h none=some h:=rfl
@[simp] theorem Qq:Uu it g c a n k i σ h (some x)=(g x σ h).bind λp=>(c p.1 p.2).bind λz=>if z.1=true then(a p.1 z.2).bind (Ss it g c a n k i p.1) else Io it g c a n k i p.1 z.2:=rfl
@[simp] theorem Ky (hk:k<1000):Io it g c a n k i σ h=(it i h).bind (Uu it g c a n (k+1) (i+1) σ h):=by
 unfold Io;rw[DT hk]
 show(it i h).bind _=_
 cases it i h with
 |none=>rfl
 |some o=>cases o<;>rfl
@[simp] theorem Hx (e:h2[n]?=some (.lst acc))(hl:acc.length<1000):Ss it g c a n k i σ (u,h2)=Io it g c a n k i σ (h2.set n (.lst (acc++[u]))):=by
 unfold Ss;dsimp only;rw[e];dsimp only;rw[abr (by rw[ab0];lia)]
end
@[simp] theorem NL:bS σ h=some (true,h):=rfl
noncomputable def W7 (b:MS):Fl×MH->Option (Fl×MH):=λp=>match p.1 with
 |.nx σ=>b σ p.2
 |f=>some (f,p.2)
@[simp] theorem Ub:W7 b (.nx σ,h)=b σ h:=rfl
@[simp] theorem Uc:W7 b (.rt u,h)=some (.rt u,h):=rfl
noncomputable def W4 (a b:MS)(σ:bG):Bool×MH->Option (Fl×MH):=λp=>if p.1=true then a σ p.2 else b σ p.2
@[simp] theorem W6:W4 a b σ (true,h)=a σ h:=rfl
@[simp] theorem W5:W4 a b σ (false,h)=b σ h:=rfl
def fF (h:MH):U->Option (mZ×MH)
 |.tup us=>some (lQ us,h)
 |.lst us=>some (lQ us,h)
 |.eA us=>some (lQ us,h)
 |.iY us=>some (lQ us,h)
 |.ref n=>match h[n]? with
  |some (.lst _)=>some (mj n,h)
  |_=>none
 |_=>none
@[simp] theorem fG:aD a σ h=(a σ h).bind λp=>fF p.2 p.1:=by
 unfold aD
 cases a σ h with
 |none=>rfl
 |some p=>obtain⟨x,y⟩:=p;cases x<;>rfl
@[simp] theorem We:fF h (.tup us)=some (lQ us,h):=rfl
@[simp] theorem Wd:fF h (.lst us)=some (lQ us,h):=rfl
noncomputable def GU {α:Type}(x:Option α)(y:Unit->Option α):Option α:=match x with
 |some r=>some r
 |none=>y ()
@[simp] theorem EU {α:Type}{r:α}{y:Unit->Option α}:GU (some r) y=some r:=rfl
@[simp] theorem KQ {α:Type}{y:Unit->Option α}:GU none y=y ():=rfl
@[simp] theorem Az:Ph m n σ h=GU (m σ h) λ_=>n σ h:=by unfold Ph GU;cases m σ h<;>rfl
@[simp] theorem nW:Ra m n σ h=GU (m σ h) λ_=>n σ h:=by unfold Ra GU;cases m σ h<;>rfl
@[simp] theorem XO:iG m n us h=GU (m us h) λ_=>n us h:=by unfold iG GU;cases m us h<;>rfl
section
def kS:U×MH->Option (mZ×MH):=λp=>fF p.2 p.1
@[simp] theorem ZY:kS (u,h)=fF h u:=rfl
@[simp high] theorem Yt:aD a σ h=(a σ h).bind kS:=fG
end
section
variable {h:MH}{n:Nat}{xs:List U}{K:List (NK.KD×U)}
noncomputable def SY (h:MH):Option MO->Option (U×MH)
 |some (.dK k)=>some (.int k.length,h)
 |some (.lst k)=>some (.int k.length,h)
 |_=>none
noncomputable def Vp (h:MH):Option MO->Option (U×MH)
 |some (.dT k)=>some (.int k.length,h)
 |_=>none
@[simp] theorem XG:SY h (some (.lst xs))=some (.int xs.length,h):=rfl
@[simp] theorem XF:SY h (some (.dT K))=none:=rfl
@[simp] theorem XH:Vp h (some (.dT K))=some (.int K.length,h):=rfl
@[simp] theorem VR:eV [.ref n] h=SY h h[n]?:=by
 unfold eV SY
 dsimp only
 all_goals (cases h[n]? with | none=>rfl | some o=>cases o<;>rfl)
@[simp] theorem X5:cN [.ref n] h=Vp h h[n]?:=by
 unfold cN Vp
 dsimp only
 all_goals (cases h[n]? with | none=>rfl | some o=>cases o<;>rfl)
@[simp] theorem VP:eV [.dT K] h=none:=rfl
@[simp] theorem X4:cN [.dT K] h=some (.int K.length,h):=rfl
theorem Hf {m:Nat}{ys:List U}(e:h[n]?=some (.lst xs))(f:h[m]?=some (.lst ys))(l:xs.length+ys.length<=1000000):aI (.ref n) (.ref m) h=some (.ref h.length,h++[.lst (xs++ys)]):=by
 show((bX h (.ref n)).bind λp=>(bX h (.ref m)).bind λq=>if p.length+q.length<=sizeLine then some (U.ref h.length,h++[.lst (p++q)]) else none)=_
 rw[show bX h (.ref n)=some xs from by unfold bX;dsimp only;rw[e],show bX h (.ref m)=some ys from by unfold bX;dsimp only;rw[f]]
 exact abr (abE l (by rw[ab0];decide))
end
end S
namespace D51
open PySem L2 S
variable [kf:KF]
inductive Lf where
 |say (x:Str) | Cu (x:Str) | on (x:Str) | off (x:Str) | leave | row
noncomputable def Lf.enc:Lf->U
 |.say x=>.tup [.str "say",.str x]
 |.Cu x=>.tup [.str "slip",.str x]
 |.on x=>.tup [.str "on",.str x]
 |.off x=>.tup [.str "off",.str x]
 |.leave=>.tup [.str "leave"]
 |.row=>.tup [.str "row"]
theorem enc_low (l:Lf):fH 0 l.enc:=by
 cases l<;>first | exact .tup (.cons .str (.cons .str .nil)) | exact .tup (.cons .str .nil)
theorem Ei (l:Lf)(h:MH):bj [l.enc] h=some (.lst [],h):=by
 refine c9 (n:=h.length) (g:=[.lst []]) (bc ?_) (abl _) (by simp) .nil
 cases l<;>simp[Lf.enc,fI,gL,List.lookup]
end D51
namespace S
open PySem L2
variable [kf:KF]
section
variable {α:Type}{it:mZ}{g:MG}{c:MT}{a:ME}{h1:MH}{xs:List α}{enc:α->U}{G:α->bG}{p:α->Bool}{f:α->U}
theorem oy (hn:n=h1.length)(hit:∀ (i:Nat) (l:List U),it i (h1++[.lst l])=some (xs.map enc)[i]?)(hl:xs.length<1000000)
  (hg:∀ x∈xs,∀ σ,(σ=σ0\/∃ y∈xs,σ=G y)->∀ l,g (enc x) σ (h1++[.lst l])=some (G x,h1++[.lst l])) (hc:∀ x∈xs,∀ l,c (G x) (h1++[.lst l])=some (p x,h1++[.lst l]))
  (ha:∀ x∈xs,p x=true->∀ l,a (G x) (h1++[.lst l])=some (f x,h1++[.lst l])):∀ (k m i) (σ) (acc),i+k=xs.length->k<m->(σ=σ0\/∃ y∈xs,σ=G y)->acc=((xs.take i).filter p).map f->
   jJ it g c a n m i σ (h1++[.lst acc])=some (h1++[.lst ((xs.filter p).map f)])
 |0,m+1,i,σ,acc,e,_,q,ju=>by
  have e':i=xs.length:=by lia
  have hu:(xs.map enc)[i]?=none:=by rw[e'];simp
  show((it i _).bind _)=_
  rw[hit,hu]
  show some (h1++[MO.lst acc])=_
  rw[ju,e',List.take_length]
 |k+1,m+1,i,σ,acc,e,hm,q,ju=>by
  have hi:i<xs.length:=by lia
  have hu:(xs.map enc)[i]?=some (enc xs[i]):=by rw[abG,abw hi];rfl
  have mem:xs[i]∈xs:=List.getElem_mem hi
  have ht:xs.take (i+1)=xs.take i++[xs[i]]:=List.take_succ_eq_append_getElem hi
  show((it i _).bind _)=_
  rw[hit,hu]
  show((g (enc xs[i]) σ _).bind _)=_
  rw[hg _ mem σ q]
  show((c (G xs[i]) _).bind _)=_
  rw[hc _ mem]
  show(if p xs[i]=true then _ else _)=_
  cases hp:p xs[i] with
  |true=>
   rw[abr rfl]
   show(a (G xs[i]) _).bind _=_
   rw[ha _ mem hp]
   show(match(h1++[MO.lst acc])[n]? with | some (.lst acc)=>_ | _=>none)=_
   have Eb:(h1++[MO.lst acc])[n]?=some (.lst acc):=by rw[hn];simp
   have hlen:acc.length<sizeLine:=by
    have h1:acc.length<=xs.length:=by
     rw[ju,ab1]
     exact abE (List.length_filter_le _ _) (List.length_take_le' _ _)
    have h2:1000000<=sizeLine:=by rw[ab0];decide
    lia
   rw[Eb]
   show(if acc.length<sizeLine then _ else none)=_
   rw[abr hlen]
   have Ee:(h1++[MO.lst acc]).set n (.lst (acc++[f xs[i]]))=h1++[MO.lst (acc++[f xs[i]])]:=by rw[hn];simp
   rw[Ee]
   exact oy hn hit hl hg hc ha k m (i+1) (G xs[i]) (acc++[f xs[i]]) (by lia) (by lia) (.inr ⟨_,mem,rfl⟩) (by rw[ht,List.filter_append,acm,<-ju];simp[hp])
  |false=>
   rw[abo abA]
   exact oy hn hit hl hg hc ha k m (i+1) (G xs[i]) acc (by lia) (by lia) (.inr ⟨_,mem,rfl⟩) (by rw[ht,List.filter_append,acm,<-ju];simp[hp])
theorem qF (xs:List α)(enc:α->U)(G:α->bG)(p:α->Bool)(f:α->U)(e:mi σ h=some (it,h1))(hit:∀ (i:Nat) (l:List U),it i (h1++[.lst l])=some (xs.map enc)[i]?)(hl:xs.length<1000000)
  (hg:∀ x∈xs,∀ σ',(σ'=ix.map (cf σ)\/∃ y∈xs,σ'=G y)->∀ l,g (enc x) σ' (h1++[.lst l])=some (G x,h1++[.lst l])) (hc:∀ x∈xs,∀ l,c (G x) (h1++[.lst l])=some (p x,h1++[.lst l]))
  (ha:∀ x∈xs,p x=true->∀ l,a (G x) (h1++[.lst l])=some (f x,h1++[.lst l])):bY ix mi g c a σ h=some (.ref h1.length,h1++[.lst ((xs.filter p).map f)]):=by
 unfold bY
 rw[e]
 show(jJ it g c a h1.length FU 0 (ix.map (cf σ)) (h1++[.lst []])).bind _=_
 rw[oy rfl hit hl hg hc ha xs.length FU 0 _ [] (by lia) (jS (by lia)) (.inl rfl) rfl]
 rfl
theorem oA (xs:List α)(enc:α->U)(G:α->bG)(f:α->U)(e:mi σ h=some (it,h1))(hit:∀ (i:Nat) (l:List U),it i (h1++[.lst l])=some (xs.map enc)[i]?)(hl:xs.length<1000000)
  (hg:∀ x∈xs,∀ σ',(σ'=ix.map (cf σ)\/∃ y∈xs,σ'=G y)->∀ l,g (enc x) σ' (h1++[.lst l])=some (G x,h1++[.lst l]))
  (ha:∀ x∈xs,∀ l,a (G x) (h1++[.lst l])=some (f x,h1++[.lst l])):bY ix mi g bS a σ h=some (.ref h1.length,h1++[.lst (xs.map f)]):=by
 have:=qF (c:=bS) xs enc G (λ_=>true) f e hit hl hg (λ_ _ _=>rfl) (λx hx _ l=>ha x hx l)
 rw[this,List.filter_eq_self.mpr (λ_ _=>rfl)]
end
theorem yx (e:h[n]?=some (.lst us))(e2:h[m]?=some (.lst ws))(hl:us.length+ws.length<=1000000):gD (.ref n) [.ref m] h=some (.aq,h.set n (.lst (us++ws))):=by
 show((bE h (.ref n)).bind λp=>(bX h (.ref m)).bind λr=>if p.2.length+r.length<=sizeLine then some (U.aq,h.set p.1 (.lst (p.2++r))) else none)=_
 rw[dX e,show bX h (.ref m)=some ws from by unfold bX;dsimp only;rw[e2]]
 exact abr (abE hl (by rw[ab0];decide))
theorem zm (e:h[n]?=some (.lst us)):i5 (.ref n) [] h=some (.aq,h.set n (.lst us.reverse)):=by
 show((bE h (.ref n)).bind _)=_
 rw[dX e];rfl
theorem LQ (e:a σ h=some ([.lst us],h1)):yV a σ h=some (BN us,h1):=by unfold yV;rw[e];rfl
end S
namespace D51
open PySem L2 S
variable [kf:KF]
inductive Dd where
 |lf (l:Lf) | rw(i:Nat) (ps:List Lf)
noncomputable def lI (ps:List Lf):Nat->U
 |0=>.tup (.str "row"::ps.map Lf.enc)
 |i+1=>.tup [.str "row",lI ps i]
def encD:Dd->U
 |.lf l=>l.enc
 |.rw i ps=>lI ps i
noncomputable def fq:Dd->List Dd
 |.lf _=>[]
 |.rw 0 ps=>ps.map .lf
 |.rw (i+1) ps=>[.rw i ps]
noncomputable def p7 (ps:List Lf):Nat->List Nat->List (List Nat×Dd)
 |0,a=>(a,.rw 0 ps)::ps.zipIdx.map λx=>(a++[x.2],.lf x.1)
 |i+1,a=>(a,.rw (i+1) ps)::p7 ps i (a++[0])
def sp (a:List Nat):Dd->List (List Nat×Dd)
 |.lf l=>[(a,.lf l)]
 |.rw i ps=>p7 ps i a
noncomputable def jQ (a:List Nat)(x:Dd):List (List Nat×Dd):=(fq x).zipIdx.map λy=>(a++[y.2],y.1)
def og:Dd->Prop
 |.lf _=>True
 |.rw i ps=>i<=7/\ps.length<=4
theorem u0 (h:og x):∀ y∈fq x,og y:=by
 intro y hy
 match x,h,hy with
 |.rw 0 ps,h,hy=>obtain⟨l,_,rfl⟩:=abu.mp hy;trivial
 |.rw (i+1) ps,h,hy=>
  obtain rfl:y=.rw i ps:=by simpa [fq]using hy
  exact⟨by have:=h.1;lia,h.2⟩
theorem u3 (h:og x):(fq x).length<=4:=by
 match x,h with
 |.lf _,_=>simp[fq]
 |.rw 0 ps,h=>simpa [fq]using h.2
 |.rw (i+1) ps,_=>simp[fq]
theorem F4 (a)(x):sp a x=(a,x)::(jQ a x).flatMap λy=>sp y.1 y.2:=by
 match x with
 |.lf l=>simp[sp,jQ,fq]
 |.rw 0 ps=>simp[sp,p7,jQ,fq,List.zipIdx_map,List.flatMap_map,aci,<-List.map_eq_flatMap]
 |.rw (i+1) ps=>simp[sp,p7,jQ,fq]
theorem Oi (a)(x):1<=(sp a x).length:=by rw[F4,abC];lia
theorem jG:∀ {x} (a),og x->(sp a x).length<=12
 |.lf _,_,_=>by simp[sp]
 |.rw i ps,a,h=>by
  have go:∀ i a,(sp a (.rw i ps)).length=i+1+ps.length:=by
   intro i
   induction i with
   |zero=>intro a;simp[sp,p7];lia
   |succ i ih=>intro a;have:=ih (a++[0]);simp only[sp,p7,abC]at this ⊢;lia
  rw[go];have:=h.1;have:=h.2;lia
theorem fR (x):fH 0 (encD x):=by
 match x with
 |.lf l=>exact enc_low l
 |.rw i ps=>
  induction i with
  |zero=>exact .tup (.cons .str (bw.mpr λu hu=>by obtain⟨l,_,rfl⟩:=abu.mp hu;exact enc_low l))
  |succ i ih=>exact .tup (.cons .str (.cons ih .nil))
theorem Am (q:og x):bj [encD x] h=some (.lst ((fq x).map encD),h):=by
 match x,q with
 |.lf l,_=>exact Ei l h
 |.rw 0 ps,q=>
  refine c9 (n:=h.length) (g:=[.lst (ps.map Lf.enc)]) (bc ?_) (abl _) (by simp[fq,encD,aci]) (bw.mpr λu hu=>by obtain⟨l,_,rfl⟩:=abu.mp hu;exact fR l)
  simp[encD,lI,fI,gL,List.lookup]
 |.rw (i+1) ps,q=>
  refine c9 (n:=h.length) (g:=[.lst [encD (.rw i ps)]]) (bc ?_) (abl _) (by simp[fq]) (.cons (fR _) .nil)
  simp[encD,lI,fI,gL,List.lookup]
noncomputable def h8 (a:List Nat):U:=.tup (a.map λk=>U.tup [.str "row",.int (k:Nat)])
def bf (x:List Nat×Dd):U:=.tup [h8 x.1,encD x.2]
noncomputable def H2 (h:MH)(F W:List U)(g:MH):MH:=h++(.lst F::.lst W::g)
section
theorem Pw:(H2 h F W g)[h.length]?=some (.lst F):=by simp[H2]
theorem Bd:(H2 h F W g)[h.length+1]?=some (.lst W):=by unfold H2;rw[abt (by lia)];simp
theorem GY:(H2 h F W g).set h.length (.lst F')=H2 h F' W g:=by simp[H2]
theorem zQ:(H2 h F W g).set (h.length+1) (.lst W')=H2 h F W' g:=by
 unfold H2;rw[abN _ _ (by lia)];simp
theorem Lq:(H2 h F W g).length=h.length+(g.length+2):=by simp[H2]
theorem GX:H2 h F W g++g'=H2 h F W (g++g'):=by simp[H2]
theorem xR:(H2 h F W (g++[.lst F']))[h.length+(g.length+2)]?=some (.lst F'):=by
 unfold H2;rw[abt (by lia)];simp
theorem GZ:(H2 h F W (g++[.lst F'])).set (h.length+(g.length+2)) (.lst W')=H2 h F W (g++[.lst W']):=by
 unfold H2;rw[abN _ _ (by lia)];simp
end
def vz:ME:=bY [none,none,some 4,some 5] (yV (ab (au 1 bj (ab (aa 5) af)) af)) (fW 2 (aM (nName 0) (aM (nName 1) fV))) bS (av (ab (ay aI (aa 2) (av (ab (av (ab (ah (aa 3) (mC (.int 0))) (ab (aa 0) af))) af))) (ab (aa 1) af)))
theorem LU (x):∃ w us,encD x=.tup (.str w::us)/\(fq x≠[]->w = "row"):=by
 match x with
 |.lf l=>cases l<;>exact⟨_,_,rfl,λh=>absurd rfl h⟩
 |.rw 0 ps=>exact⟨_,_,rfl,λ_=>rfl⟩
 |.rw (i+1) ps=>exact⟨_,_,rfl,λ_=>rfl⟩
theorem JV (e4:σ[4]?=some (some (h8 a)))(e5:σ[5]?=some (some (encD x)))(ha:a.length<=100)(q:og x) :
  vz σ h=some (.ref h.length,h++[.lst ((jQ a x).map bf)]):=by
 obtain⟨w,us,QE,hw⟩:=LU x
 have p4:cf σ (some 4)=some (h8 a):=by simp[cf,e4]
 have p5:cf σ (some 5)=some (encD x):=by simp[cf,e5]
 have hi:=u3 q
 have:=oA (ix:=[none,none,some 4,some 5]) (g:=fW 2 (aM (nName 0) (aM (nName 1) fV))) (mi:=yV (ab (au 1 bj (ab (aa 5) af)) af)) (a:=av (ab (ay aI (aa 2) (av (ab (av (ab (ah (aa 3) (mC (.int 0))) (ab (aa 0) af))) af))) (ab (aa 1) af))) (σ:=σ) (h:=h) (h1:=h) (it:=BN ((fq x).map encD)) (fq x).zipIdx (λy=>U.tup [.int (y.2:Nat),encD y.1])
  (λy=>[some (.int (y.2:Nat)),some (encD y.1),some (h8 a),some (encD x)]) (λy=>bf (a++[y.2],y.1))
  (LQ (by simp[e5,Am q]))
  (λi H=>by rw[HI,List.zipIdx_map,abT];rfl) (by simp;lia)
  (λy _ σ' hσ l=>by
   rcases hσ with rfl | ⟨z,_,rfl⟩
   ·simp[p4,p5]
   ·simp)
  (λy hy l=>by
   have h1:a.length+1<=1000000:=by lia
   have hw:=hw (λz=>by rw[z]at hy;simp at hy)
   subst hw
   simp[h8,QE,h1,bf])
 unfold vz
 rw[this]
 unfold jQ
 rw[abT];rfl
def vv:MS:=(ag (ak (i9 mV (aa 2) af) (nName 3))
  (ag (aK (i9 aV (aa 1) (ab (aa 3) af)))
  (ag (ak (ah (aa 3) (mC (.int 0))) (nName 4))
  (ag (ak (ah (aa 3) (mC (.int 1))) (nName 5))
  (ag (ak vz (nName 6))
  (ag (aK (i9 i5 (aa 6) af))
  (aK (i9 gD (aa 2) (ab (aa 6) af)))))))))
theorem JW (ha:a.length<=100)(q:og d)(hF:F.length<=1000)(hu:us.length<=1000) :
  ∃ g' o,vv [some u,some (.ref h.length),some (.ref (h.length+1)),o3,o4,o5,o6] (H2 h F (us++[bf (a,d)]) g)=some (.nx [some u,some (.ref h.length),some (.ref (h.length+1)),some (bf (a,d)),some (h8 a),some (encD d),o],H2 h (F++[bf (a,d)]) (us++((jQ a d).map bf).reverse) g'):=by
 refine⟨g++[.lst ((jQ a d).map bf).reverse],some (.ref (h.length+(g.length+2))),?_⟩
 have s1:ak (i9 mV (aa 2) af) (nName 3) [some u,some (.ref h.length),some (.ref (h.length+1)),o3,o4,o5,o6] (H2 h F (us++[bf (a,d)]) g)=some (.nx [some u,some (.ref h.length),some (.ref (h.length+1)),some (bf (a,d)),o4,o5,o6],H2 h F us g):=by
  refine(iU (u:=bf (a,d)) (h':=H2 h F us g) ?_)
  rw[FC]
  simp[dX Bd,pop_at Bd,zQ]
 have s2:aK (i9 aV (aa 1) (ab (aa 3) af)) [some u,some (.ref h.length),some (.ref (h.length+1)),some (bf (a,d)),o4,o5,o6] (H2 h F us g)=some (.nx [some u,some (.ref h.length),some (.ref (h.length+1)),some (bf (a,d)),o4,o5,o6],H2 h (F++[bf (a,d)]) us g):=by
  refine nh (u:=.aq) ?_
  rw[FC]
  simp[dX Pw,nX Pw (show F.length<1000000 by lia),GY]
 have s3:ak (ah (aa 3) (mC (.int 0))) (nName 4) [some u,some (.ref h.length),some (.ref (h.length+1)),some (bf (a,d)),o4,o5,o6] (H2 h (F++[bf (a,d)]) us g)=some (.nx [some u,some (.ref h.length),some (.ref (h.length+1)),some (bf (a,d)),some (h8 a),o5,o6],H2 h (F++[bf (a,d)]) us g):=by simp[bf]
 have s4:ak (ah (aa 3) (mC (.int 1))) (nName 5) [some u,some (.ref h.length),some (.ref (h.length+1)),some (bf (a,d)),some (h8 a),o5,o6] (H2 h (F++[bf (a,d)]) us g)=some (.nx [some u,some (.ref h.length),some (.ref (h.length+1)),some (bf (a,d)),some (h8 a),some (encD d),o6],H2 h (F++[bf (a,d)]) us g):=by simp[bf]
 have s5:ak vz (nName 6) [some u,some (.ref h.length),some (.ref (h.length+1)),some (bf (a,d)),some (h8 a),some (encD d),o6] (H2 h (F++[bf (a,d)]) us g)=some (.nx [some u,some (.ref h.length),some (.ref (h.length+1)),some (bf (a,d)),some (h8 a),some (encD d),some (.ref (h.length+(g.length+2)))],H2 h (F++[bf (a,d)]) us (g++[.lst ((jQ a d).map bf)])):=by
  refine iU (u:=.ref (h.length+(g.length+2))) ?_
  rw[JV rfl rfl ha q,Lq,GX]
 have s6:aK (i9 i5 (aa 6) af) [some u,some (.ref h.length),some (.ref (h.length+1)),some (bf (a,d)),some (h8 a),some (encD d),some (.ref (h.length+(g.length+2)))] (H2 h (F++[bf (a,d)]) us (g++[.lst ((jQ a d).map bf)]))=some (.nx [some u,some (.ref h.length),some (.ref (h.length+1)),some (bf (a,d)),some (h8 a),some (encD d),some (.ref (h.length+(g.length+2)))],H2 h (F++[bf (a,d)]) us (g++[.lst ((jQ a d).map bf).reverse])):=by
  refine nh (u:=.aq) ?_
  rw[FC]
  simp only[rP,Er,QL,Kr,Mr,Ep,abV,abB,abJ,dX xR,FF,zm xR,GZ]
 unfold vv
 rw[ai s1,ai s2,ai s3,ai s4,ai s5,ai s6]
 refine nh (u:=.aq) ?_
 have hl:(jQ a d).length<=4:=by unfold jQ;simpa using u3 q
 have ex:=yx (n:=h.length+1) (m:=h.length+(g.length+2)) (us:=us) (ws:=((jQ a d).map bf).reverse) (h:=H2 h (F++[bf (a,d)]) us (g++[.lst ((jQ a d).map bf).reverse])) Bd xR (by simp;lia)
 rw[zQ]at ex
 rw[FC]
 simp only[rP,Er,QL,Kr,Mr,Ep,abV,abB,abJ,dX Bd,FD,FF,ex]
abbrev zO:MF:=pS bj
def sr (x:List Nat×Dd):List (List Nat×Dd):=sp x.1 x.2
theorem yQ:∀ (st:List (List Nat×Dd)),st.length<=(st.flatMap sr).length
 |[]=>abO _
 |x::r=>by
  have:=yQ r
  have:=Oi x.1 x.2
  simp only[List.flatMap_cons,aby,abC,sr]at *;lia
theorem GC (q:og d0):zO [encD d0] h=some (.lst ((sp [] d0).map bf),h):=by
 obtain⟨f,h',e,g,o3,o4,o5,o6,rfl,rfl⟩:=er (c:=ij (aa 2)) (b:=vv) (I:=λn σ H=>∃ (st F:List (List Nat×Dd)) (g:MH) (o3 o4 o5 o6:Option U),n=(st.flatMap sr).length/\F++st.flatMap sr=sp [] d0/\(∀ x∈st,og x.2/\x.1.length+n<=100)/\H=H2 h (F.map bf) (st.reverse.map bf) g/\σ=[some (encD d0),some (.ref h.length),some (.ref (h.length+1)),o3,o4,o5,o6])
  (R:=λf H=>∃ (g:MH) (o3 o4 o5 o6:Option U),f=.nx [some (encD d0),some (.ref h.length),some (.ref (h.length+1)),o3,o4,o5,o6]/\H=H2 h ((sp [] d0).map bf) [] g) (λn σ H I=>by
   obtain⟨st,F,g,o3,o4,o5,o6,hn,hF,al,rfl,rfl⟩:=I
   have OI:F.length+(st.flatMap sr).length<=12:=by rw[<-aby,hF];exact jG [] q
   cases st with
   |nil=>
    refine .inl ⟨H2 h (F.map bf) [] g,?_,g,o3,o4,o5,o6,rfl,?_⟩
    ·simp[mY,Bd]
    ·rw[<-hF];simp
   |cons x r=>
    obtain⟨a,d⟩:=x
    obtain⟨gd,hl⟩:=al (a,d) (by simp)
    have hr:=yQ r
    have e1:((a,d)::r).flatMap sr=(a,d)::(jQ a d++r).flatMap sr:=by
     rw[List.flatMap_append,List.flatMap_cons]
     show sp a d++_=_
     rw[F4];rfl
    rw[e1]at hn hF OI
    rw[abC]at hn OI
    rw[List.flatMap_append,aby]at OI
    have L9:a.length+n<=100:=hl
    obtain⟨g',o,ht⟩:=JW (h:=h) (g:=g) (u:=encD d0) (o3:=o3) (o4:=o4) (o5:=o5) (o6:=o6) (F:=F.map bf) (us:=r.reverse.map bf) (a:=a) (d:=d) (by lia) gd (by simp;lia) (by simp;lia)
    refine .inr ⟨H2 h (F.map bf) (r.reverse.map bf++[bf (a,d)]) g,.nx [some (encD d0),some (.ref h.length),some (.ref (h.length+1)),some (bf (a,d)),some (h8 a),some (encD d),o],H2 h (F.map bf++[bf (a,d)]) (r.reverse.map bf++((jQ a d).map bf).reverse) g',?_,ht,((jQ a d++r).flatMap sr).length,by lia,jQ a d++r,F++[(a,d)],g',some (bf (a,d)),some (h8 a),some (encD d),o,rfl,?_,?_,?_,rfl⟩
    ·simp[mY,Bd]
    ·rw[<-hF];simp
    ·intro y hy
     rcases abP.mp hy with z | z
     ·unfold jQ at z
      obtain⟨w,hw,rfl⟩:=abu.mp z
      refine⟨u0 gd w.1 ?_,?_⟩
      ·obtain⟨i,hi⟩:=List.mem_iff_getElem?.mp hw
       rw[List.getElem?_zipIdx]at hi
       obtain⟨y,ey,e2⟩:=ab6.mp hi
       rw[<-e2];exact abY ey
      ·show(a++[w.2]).length+_<=100
       simp only[aby,abC,List.length_nil];lia
     ·obtain⟨y1,y2⟩:=al y (by simp[z])
      exact⟨y1,by lia⟩
    ·congr 1<;>simp)
  FU _ [some (encD d0),some (.ref h.length),some (.ref (h.length+1)),none,none,none,none] (H2 h [] [bf ([],d0)] []) (jS (n:=([(([]:List Nat),d0)].flatMap sr).length) (by have:=jG [] q;simp[sr];lia)) ⟨[([],d0)],[],[],none,none,none,none,rfl,by simp[sr],λx hx=>by
   obtain rfl:x=([],d0):=by simpa using hx
   exact⟨q,by have:=jG [] q;simp[sr];lia⟩,rfl,rfl⟩
 have run:ki bj [some (encD d0),none,none,none,none,none,none] h=some (.rt (.ref h.length),h++(.lst ((sp [] d0).map bf)::.lst []::g)):=by
  unfold ki
  rw[ai (σ':=[some (encD d0),some (.ref h.length),none,none,none,none,none]) (h':=h++[.lst []]) (by simp),ai (σ':=[some (encD d0),some (.ref h.length),some (.ref (h.length+1)),none,none,none,none]) (h':=H2 h [] [bf ([],d0)] []) (by simp[H2,bf,h8])]
  exact(ai (show c4 (ij (aa 2)) vv _ _=_ from e)).trans rfl
 exact c9 (bc run) (abl _) (by simp) (bw.mpr λu hu=>by
  obtain⟨x,_,rfl⟩:=abu.mp hu
  exact .tup (.cons (.tup (bw.mpr λu hu=>by obtain⟨y,_,rfl⟩:=abu.mp hu;exact .tup (.cons .str (.cons .int .nil)))) (.cons (fR _) .nil)))
def de (ks:U)(m0 m1 n:Str)(d:Dd):U:=.tup [ks,.tup [.str m0,.str m1],.tup [.tup [.str n,encD d]]]
noncomputable def cT (n:Str)(a:List Nat):U:=.tup (.str n::a.map λk=>U.int (k:Nat))
section
theorem oz {α:Type}{ix:List (Option Nat)}{e:ME}{w:Hw}{g:MG}{a:ME}{σ:bG}{u:U}(xs:List α)(enc:α->U)(G:α->bG)(f:α->U)(he:e σ h=some (u,h))(hu:u=.lst (xs.map enc)\/u=.tup (xs.map enc))(hl:xs.length<1000000)
  (hg:∀ x∈xs,∀ σ',(σ'=ix.map (cf σ)\/∃ y∈xs,σ'=G y)->∀ l,g (enc x) σ' (h++[.lst l])=some (G x,h++[.lst l]))
  (ha:∀ x∈xs,∀ l,a (G x) (h++[.lst l])=some (f x,h++[.lst l])):cC ix (aD e) w e g bS a σ h=some (.ref h.length,h++[.lst (xs.map f)]):=by
 have hi:aD e σ h=some (lQ (xs.map enc),h):=by
  rw[fG,he]
  rcases hu with rfl | rfl<;>rfl
 unfold cC
 rw[Az,oA xs enc G f hi (λi H=>rfl) hl hg ha,EU]
theorem Ff (ha:a.length<=100):jw [.str n,h8 a] h=some (cT n a,h):=by
 refine iw (g:=[.lst (a.map λk=>U.int (k:Nat))]) (bc ?_) (.tup (.cons .str (bw.mpr λu hu=>by obtain⟨k,_,rfl⟩:=abu.mp hu;exact .int)))
 have c:=oz (h:=h) (ix:=[none,none]) (e:=aa 1) (w:=.keys) (g:=fW 2 (aM (nName 0) (aM (nName 1) fV))) (a:=aa 1) (σ:=[some (.str n),some (h8 a)]) (u:=h8 a) a (λk=>U.tup [.str "row",.int (k:Nat)]) (λk=>[some (.str "row"),some (.int (k:Nat))]) (λk=>U.int (k:Nat))
  (by simp) (.inr rfl) (by lia) (λx _ σ' hσ l=>by rcases hσ with rfl | ⟨y,_,rfl⟩<;>simp) (λx _ l=>by simp)
 have h1:a.length+1<=1000000:=by lia
 have h2:1+a.length<=1000000:=by lia
 simp[qz,c,cp,cD,aQ,cT,h1,h2]
def Jw (n:Str)(x:List Nat×Dd):U:=.tup [.str n,h8 x.1,encD x.2]
abbrev zP:MF:=nP zO
theorem Jx (x:List Nat×Dd):fH 0 (Jw n x):=.tup (.cons .str (.cons (.tup (bw.mpr λu hu=>by obtain⟨y,_,rfl⟩:=abu.mp hu;exact .tup (.cons .str (.cons .int .nil)))) (.cons (fR _) .nil)))
theorem GD (q:og d):zP [de ks m0 m1 n d] h=some (.lst ((sp [] d).map (Jw n)),h):=by
 refine c9 (n:=h.length) (g:=[.lst ((sp [] d).map (Jw n)),.lst ((sp [] d).map (Jw n))]) (bc ?_) (abl _) (by simp) (bw.mpr λu hu=>by obtain⟨x,_,rfl⟩:=abu.mp hu;exact Jx x)
 have hl:=jG [] q
 have c:=λ(l:List U)=>oz (h:=h++[.lst l]) (ix:=[none,none,some 2]) (e:=au 1 zO (ab (aa 3) af)) (w:=.keys) (g:=fW 2 (aM (nName 0) (aM (nName 1) fV))) (a:=av (ab (aa 2) (ab (aa 0) (ab (aa 1) af)))) (σ:=[some (de ks m0 m1 n d),some (.ref h.length),some (.str n),some (encD d)]) (u:=.lst ((sp [] d).map bf)) (sp [] d) bf (λx=>[some (h8 x.1),some (encD x.2),some (.str n)]) (Jw n)
  (by simp[GC q]) (.inl rfl) (by lia) (λx _ σ' hσ l=>by rcases hσ with rfl | ⟨y,_,rfl⟩<;>simp[bf,cf]) (λx _ l=>by simp[Jw])
 have hz:(sp [] d).length<=1000000:=by lia
 simp only[de]at c
 simp[m6,de,aN,c,bE,gD,bX,hz]
abbrev qp:MF:=pP zP jw
theorem AS (q:og x):∀ (a) (y:List Nat×Dd),y∈sp a x->y.1.length<=a.length+12/\og y.2:=by
 match x,q with
 |.lf l,q=>
  intro a y hy
  obtain rfl:y=(a,.lf l):=by simpa [sp]using hy
  exact⟨by simp,trivial⟩
 |.rw i ps,q=>
  have go:∀ i,i<=7->∀ a y,y∈p7 ps i a->y.1.length<=a.length+i+1/\og y.2:=by
   intro i
   induction i with
   |zero=>
    intro hi a y hy
    simp only[p7,abW,abu]at hy
    rcases hy with rfl | ⟨z,_,rfl⟩
    ·exact⟨by simp,by lia,q.2⟩
    ·exact⟨by simp,trivial⟩
   |succ i ih=>
    intro hi a y hy
    simp only[p7,abW]at hy
    rcases hy with rfl | hy
    ·exact⟨by simp;lia,hi,q.2⟩
    ·have:=ih (by lia) (a++[0]) y hy
     exact⟨by simp at this;lia,this.2⟩
  intro a y hy
  have:=go i q.1 a y hy
  exact⟨by have:=q.1;lia,this.2⟩
theorem Ci (q:og d):qp [de ks m0 m1 n d] h=some (.lst ((sp [] d).map λx=>cT n x.1),h):=by
 refine c9 (n:=h.length) (g:=[.lst ((sp [] d).map λx=>cT n x.1)]) (bc ?_) (abl _) (by simp) (bw.mpr λu hu=>by
  obtain⟨x,_,rfl⟩:=abu.mp hu
  exact .tup (.cons .str (bw.mpr λu hu=>by obtain⟨k,_,rfl⟩:=abu.mp hu;exact .int)))
 have hl:=jG [] q
 have c:=oz (h:=h) (ix:=[none,none,none]) (e:=au 1 zP (ab (aa 0) af)) (w:=.keys) (g:=fW 3 (aM (nName 0) (aM (nName 1) (aM (nName 2) fV)))) (a:=au 2 jw (ab (aa 0) (ab (aa 1) af))) (σ:=[some (de ks m0 m1 n d)]) (u:=.lst ((sp [] d).map (Jw n))) (sp [] d) (Jw n) (λx=>[some (.str n),some (h8 x.1),some (encD x.2)]) (λx=>cT n x.1)
  (by simp[GD q]) (.inl rfl) (by lia) (λx _ σ' hσ l=>by rcases hσ with rfl | ⟨y,_,rfl⟩<;>simp[Jw]) (λx hx l=>by
   have:=(AS q [] x hx).1
   simp[Ff (a:=x.1) (by simp at this;lia)])
 simp[pw,c]
end
noncomputable def Bw:Dd->List Nat->Option Dd
 |d,[]=>some d
 |d,k::r=>((fq d)[k]?).bind λe=>Bw e r
theorem m9:∀ (d) (a b),Bw d (a++b)=(Bw d a).bind λe=>Bw e b
 |d,[],b=>rfl
 |d,k::r,b=>by
  show((fq d)[k]?).bind _=(((fq d)[k]?).bind _).bind _
  cases(fq d)[k]? with
  |none=>rfl
  |some e=>exact m9 e r b
theorem RT:∀ (d) (a),Bw d0 a=some d->∀ y∈sp a d,Bw d0 y.1=some y.2:=by
 intro d
 match d with
 |.lf l=>
  intro a h y hy
  obtain rfl:y=(a,.lf l):=by simpa [sp]using hy
  exact h
 |.rw i ps=>
  have go:∀ i a,Bw d0 a=some (.rw i ps)->∀ y∈p7 ps i a,Bw d0 y.1=some y.2:=by
   intro i
   induction i with
   |zero=>
    intro a h y hy
    simp only[p7,abW,abu]at hy
    rcases hy with rfl | ⟨z,hz,rfl⟩
    ·exact h
    ·rw[m9,h]
     obtain⟨j,hj⟩:=List.mem_iff_getElem?.mp hz
     rw[List.getElem?_zipIdx]at hj
     obtain⟨l,el,e2⟩:=ab6.mp hj
     subst e2
     simp[Bw,fq,el]
   |succ i ih=>
    intro a h y hy
    simp only[p7,abW]at hy
    rcases hy with rfl | hy
    ·exact h
    ·exact ih (a++[0]) (by rw[m9,h];rfl) y hy
  exact go i
section
abbrev Ab:MF:=tQ bj
theorem DF (q:og d):∀ {a}{e},Bw d a=some e->og e
 |[],e,h=>by cases h;exact q
 |k::r,e,h=>by
  obtain⟨x,e1,e2⟩:=bind_some (show((fq d)[k]?).bind _=some e from h)
  exact DF (u0 q x (abY e1)) e2
def qG:MS:=ak (ah (au 1 bj (ab (aa 2) af)) (aa 3)) (nName 2)
theorem Hz (q:og d)(ha:a.length<=100)(ea:Bw d a=some e):Ab [de ks m0 m1 n d,cT n a] h=some (encD e,h):=by
 have loop:∀ (b c:List Nat) (x:Dd) (k:Nat) (o:Option U) (H:MH),a=c++b->k=c.length->Bw d c=some x->∃ o' ,CQ (lQ (a.map λk=>U.int (k:Nat))) (nName 3) qG k k [some (de ks m0 m1 n d),some (cT n a),some (encD x),o] H=some (.nx [some (de ks m0 m1 n d),some (cT n a),some (encD e),o'],H):=by
  intro b
  induction b with
  |nil=>
   intro c x k o H hc hk hx
   rw[acj]at hc
   subst hc hk
   rw[ea]at hx;cases hx
   refine⟨o,?_⟩
   rw[tP (by lia),uR,acA (by simp)];rfl
  |cons j b ih=>
   intro c x k o H hc hk hx
   have Me:=ea
   rw[hc,m9,hx]at Me
   obtain⟨y,e1,_⟩:=bind_some (show((fq x)[j]?).bind _=some e from Me)
   have hq:=DF q hx
   have at':(a.map λk=>U.int (k:Nat))[k]?=some (.int (j:Nat)):=by rw[hc,hk];simp
   obtain⟨o',hh⟩:=ih (c++[j]) y (k+1) (some (.int (j:Nat))) H (by rw[hc];simp) (by simp[hk]) (by rw[m9,hx];simp[Bw,e1])
   refine⟨o',?_⟩
   rw[tP (by have:=congrArg List.length hc;simp at this;lia),uR,at']
   have ix:L2.iT ((fq x).map encD) ((j:Nat):Int)=some (encD y):=by rw[S.dW,abG,e1];rfl
   have bd:qG [some (de ks m0 m1 n d),some (cT n a),some (encD x),some (.int (j:Nat))] H=some (.nx [some (de ks m0 m1 n d),some (cT n a),some (encD y),some (.int (j:Nat))],H):=by
    simp[qG,Am hq,ix]
   rw[abJ,D5]
   show(qG [some (de ks m0 m1 n d),some (cT n a),some (encD x),some (.int (j:Nat))] H).bind _=_
   rw[bd]
   exact hh
 refine iw (g:=[.dK [(.inr n,encD d)]]) (bc ?_) (fR _)
 obtain⟨o',hh⟩:=loop a [] d 0 none (h++[.dK [(.inr n,encD d)]]) rfl rfl rfl
 have hf:aN (aD (sm (aa 1) (cJ (mC (.int 1))) bz)) .keys (sm (aa 1) (cJ (mC (.int 1))) bz) (nName 3) qG [some (de ks m0 m1 n d),some (cT n a),some (encD d),none] (h++[.dK [(.inr n,encD d)]])=some (.nx [some (de ks m0 m1 n d),some (cT n a),some (encD e),o'],h++[.dK [(.inr n,encD d)]]):=by
  unfold aN
  rw[nW,qM,fG]
  have:sm (aa 1) (cJ (mC (.int 1))) bz [some (de ks m0 m1 n d),some (cT n a),some (encD d),none] (h++[.dK [(.inr n,encD d)]])=some (.tup (a.map λk=>U.int (k:Nat)),h++[.dK [(.inr n,encD d)]]):=by simp[cT]
  rw[this]
  show GU (CQ _ _ _ _ _ _ _) _=_
  rw[hh];rfl
 have s1:ak (ah (ig nc (ab (ah (aa 0) (mC (.int 2))) af)) (ah (aa 1) (mC (.int 0)))) (nName 2) [some (de ks m0 m1 n d),some (cT n a),none,none] h=some (.nx [some (de ks m0 m1 n d),some (cT n a),some (encD d),none],h++[.dK [(.inr n,encD d)]]):=by
  simp[de,cT,nc,oU,bP,ic,aZ,aQ,rA,p3,b6,cD]
 show ow bj [some (de ks m0 m1 n d),some (cT n a),none,none] h=_
 unfold ow
 rw[ai s1]
 exact(ai hf).trans (by simp)
end
end D51
namespace S
open PySem L2
mutual
theorem A6:∀ k:NK.KD,r9 (ae k)=some k
 |.aq=>by simp[ae,r9]
 |.int _=>by simp[ae,r9]
 |.str _=>by simp[ae,r9]
 |.tup ks=>by simp[ae,r9,xK ks]
theorem xK:∀ ks:List NK.KD,pW (cQ ks)=some ks
 |[]=>by simp[cQ,pW]
 |k::ks=>by simp[cQ,pW,A6 k,xK ks]
end
theorem Ar (h:(NK.KD.tup ks).lo 8=true):cL (ae (.tup ks))=some (.tup ks):=by
 have e:ae (.tup ks)=.tup (cQ ks):=by simp[ae]
 unfold cL
 rw[e]
 dsimp only
 rw[<-e,A6]
 simp[h]
mutual
theorem dz:∀ {j} (k),fH j (ae k)
 |_,.aq=>by unfold ae;exact .aq
 |_,.int _=>by unfold ae;exact .int
 |_,.str _=>by unfold ae;exact .str
 |_,.tup ks=>by unfold ae;exact .tup (tU ks)
theorem tU:∀ {j} (ks),dB j (cQ ks)
 |_,[]=>by unfold cQ;exact .nil
 |_,k::ks=>by unfold cQ;exact .cons (dz k) (tU ks)
end
@[simp] theorem Vm:(NK.KD.int i).lo n=true:=by cases n<;>rfl
@[simp] theorem MJ:(NK.KD.str i).lo n=true:=by cases n<;>rfl
@[simp] theorem Vn:NK.KD.aq.lo n=true:=by cases n<;>rfl
@[simp] theorem Vo:(NK.KD.tup ks).lo (n+1)=ks.all (NK.KD.lo n):=by cases ks<;>rfl
@[simp] theorem B6 {α:Type}{f:α->NK.KD}:∀ {xs:List α},cQ (xs.map f)=xs.map λx=>ae (f x)
 |[]=>by simp[cQ]
 |x::xs=>by simp[cQ,B6 (xs:=xs)]
section
variable {κ:Type}[DecidableEq κ]
theorem dH {α:Type}{f:α->κ}{g:α->U}:∀ {xs:List α}{x:α},(xs.map f).Nodup->x∈xs->b6 (xs.map λy=>(f y,g y)) (f x)=some (g x)
 |[],_,_,h=>by cases h
 |y::ys,x,nd,h=>by
  rw[abH,List.nodup_cons]at nd
  unfold b6
  rw[abH,acr]
  by_cases e:f y=f x
  ·rcases abW.mp h with rfl | hx
   ·simp
   ·exact absurd (e▸acx hx) nd.1
  ·have hx:x∈ys:=by
    rcases abW.mp h with rfl | hx
    ·exact absurd rfl e
    ·exact hx
   simp only[e,decide_false]
   exact dH nd.2 hx
theorem n9 {kvs:List (κ×U)}{k:κ}(h:k∉kvs.map (·.1)):b6 kvs k=none:=by
 unfold b6
 rw[List.find?_eq_none.mpr λx hx=>by
  simp only[decide_eq_true_eq]
  intro e;exact h (e▸acx hx)]
 rfl
end
end S
namespace D51
open PySem L2 S
variable [kf:KF][c:Cw]
noncomputable def qo (n:Str)(a:List Nat):NK.KD:=.tup (.str n::a.map λk=>NK.KD.int (k:Nat))
theorem tW:ae (qo n a)=cT n a:=by simp[qo,cT,ae,cQ]
theorem qk:cL (cT n a)=some (qo n a):=by
 rw[<-tW];exact Ar (by simp)
theorem map_one {α β:Type}{f:α->β}(hf:∀ x y,f x=f y->x=y):∀ {a b:List α},a.map f=b.map f->a=b
 |[],[],_=>rfl
 |[],_::_,e=>by simp at e
 |_::_,[],e=>by simp at e
 |x::a,y::b,e=>by
  rw[abH,abH]at e
  injection e with e1 e2
  rw[hf x y e1,map_one hf e2]
theorem EK {α:Type}{xs:List α}{i j:Nat}{x:α}(nd:xs.Nodup)(hi:xs[i]?=some x)(hj:xs[j]?=some x)(h:i<j):False:=by
 obtain⟨a1,a2⟩:=abn.mp hi
 obtain⟨b1,b2⟩:=abn.mp hj
 exact ace.mp nd i j a1 b1 h (a2.trans b2.symm)
theorem zg (e:qo n a=qo n b):a=b:=by
 simp only[qo,NK.KD.tup.injEq,List.cons.injEq,true_and]at e
 exact map_one (λx y h=>by injection h with h;lia) e
theorem rV:∀ (d) (a),((sp a d).map (·.1)).Nodup:=by
 intro d
 match d with
 |.lf l=>intro a;simp[sp]
 |.rw i ps=>
  have len:∀ i a,∀ y∈p7 ps i a,a.length<=y.1.length:=by
   intro i
   induction i with
   |zero=>intro a y hy;simp only[p7,abW,abu]at hy;rcases hy with rfl | ⟨z,_,rfl⟩<;>simp
   |succ i ih=>
    intro a y hy
    simp only[p7,abW]at hy
    rcases hy with rfl | hy
    ·exact abl _
    ·have:=ih (a++[0]) y hy;simp at this;lia
  intro a
  show((p7 ps i a).map (·.1)).Nodup
  induction i generalizing a with
  |zero=>
   simp only[p7,abH,abT,List.nodup_cons]
   refine⟨λm=>?_,?_⟩
   ·obtain⟨z,_,e⟩:=abu.mp m
    have:=congrArg List.length e
    simp at this
   ·refine ace.mpr λi j hi hj Xn e=>?_
    simp at e
    lia
  |succ i ih=>
   simp only[p7,abH,List.nodup_cons]
   refine⟨λm=>?_,ih (a++[0])⟩
   obtain⟨y,hy,e⟩:=abu.mp m
   have:=len i (a++[0]) y hy
   rw[e]at this;simp at this;lia
@[simp] theorem S9:cj σ h=some (.ref h.length,h++[.dT []]):=rfl
@[simp] theorem S8:uT σ h=some (.ref h.length,h++[.dK []]):=rfl
@[simp] theorem VV:bJ C m k f o a σ h=(o σ h).bind λp=>(aL p.2 p.1).bind λi=>if i.2.1=C/\i.2.2.lookup m=none then(a σ p.2).bind λq=>if q.1.length+1=k then f (p.1::q.1) q.2 else none else none:=rfl
@[simp] theorem YI:c.ck.cl c.cv (Str.ofString "house")=True:=eq_true (c.fv _ (by simp[VF]))
@[simp] theorem YJ:c.ck.cl c.cv (Str.ofString "watcher")=True:=eq_true (c.fv _ (by simp[VF]))
@[simp] theorem YH:c.ck.cl c.cv (Str.ofString "deeds")=True:=eq_true (c.fv _ (by simp[VF]))
@[simp] theorem WT:c.ck.cl c.cg (Str.ofString "view")=True:=eq_true (c.fg _ (by simp[GF]))
@[simp] theorem WS:c.ck.cl c.cg (Str.ofString "table")=True:=eq_true (c.fg _ (by simp[GF]))
@[simp] theorem WR:c.ck.cl c.cg (Str.ofString "stands")=True:=eq_true (c.fg _ (by simp[GF]))
@[simp] theorem WU:c.ck.cl c.cg (Str.ofString "waiting")=True:=eq_true (c.fg _ (by simp[GF]))
@[simp] theorem WW:c.ck.cl c.cm (Str.ofString "prices")=True:=eq_true (c.fm _ (by simp[Lr]))
@[simp] theorem WV:c.ck.cl c.cm (Str.ofString "origins")=True:=eq_true (c.fm _ (by simp[Lr]))
@[simp] theorem WX:c.ck.cl c.cm (Str.ofString "stalls")=True:=eq_true (c.fm _ (by simp[Lr]))
@[simp] theorem WY:c.ck.cl c.cm (Str.ofString "pending")=True:=eq_true (c.fm _ (by simp[Lr]))
@[simp] theorem WO:c.ck.cl c.ce (Str.ofString "view")=True:=eq_true (c.fe _ (by simp[EF]))
@[simp] theorem WM:c.ck.cl c.ce (Str.ofString "market")=True:=eq_true (c.fe _ (by simp[EF]))
@[simp] theorem WN:c.ck.cl c.ce (Str.ofString "stands")=True:=eq_true (c.fe _ (by simp[EF]))
@[simp] theorem WQ:c.ck.cl c.ce (Str.ofString "ways")=True:=eq_true (c.fe _ (by simp[EF]))
@[simp] theorem W3:c.ck.cl c.cr (Str.ofString "view")=True:=eq_true (c.fr _ (by simp[RF]))
@[simp] theorem W2:c.ck.cl c.cr (Str.ofString "table")=True:=eq_true (c.fr _ (by simp[RF]))
@[simp] theorem W0:c.ck.cl c.cr (Str.ofString "endings")=True:=eq_true (c.fr _ (by simp[RF]))
@[simp] theorem WZ:c.ck.cl c.cr (Str.ofString "beginnings")=True:=eq_true (c.fr _ (by simp[RF]))
def fX (n:Str)(xs:List (List Nat×Dd)):List (NK.KD×U):=xs.map λx=>(qo n x.1,encD x.2)
def vf (ks:U)(m0 m1 n:Str)(d:Dd)(k:Nat):List (Str×U):=[("house",de ks m0 m1 n d),("watcher",.aq),("deeds",.ref k)]
section
abbrev Ll:MF:=pL c.ck qp Ab
def Wy:MS:=az (ba (aj c.ck.cl "deeds") (aa 0)) (aa 3) (au 2 Ab (ab (aa 1) (ab (aa 3) af)))
theorem wH {xs:List (List Nat×Dd)}{i}{x:List Nat×Dd}(nd:(xs.map (·.1)).Nodup)(e:xs[i]?=some x):qo n x.1∉(fX n (xs.take i)).map (·.1):=by
 intro m
 simp only[fX,abT,abu]at m
 obtain⟨y,hy,ey⟩:=m
 have e1:y.1=x.1:=zg ey
 obtain⟨j,hj⟩:=List.mem_iff_getElem?.mp hy
 have SJ:j<i:=by
  have:=(abn.mp hj).1
  rw[acz]at this;lia
 rw[List.getElem?_take_of_lt SJ]at hj
 exact EK (x:=x.1) nd (by rw[abG,hj,<-e1];rfl) (by rw[abG,e];rfl) SJ
theorem JR (q:og d):Ll [.ref h.length,de ks m0 m1 n d,.aq] (h++[.ins c.cv []])=some (.aq,h++[.ins c.cv (vf ks m0 m1 n d (h.length+1)),.dT (fX n (sp [] d))]):=by
 have hl:=jG [] q
 obtain⟨f,h',e,o,rfl,rfl⟩:=ei (g:=nName 3) (b:=Wy) (mi:=aD (au 1 qp (ab (aa 1) af))) (it:=lQ ((sp [] d).map λx=>cT n x.1)) (us:=(sp [] d).map λx=>cT n x.1) (σ:=[some (.ref h.length),some (de ks m0 m1 n d),some .aq,none]) (h:=h++[.ins c.cv (vf ks m0 m1 n d (h.length+1)),.dT []]) (h1:=h++[.ins c.cv (vf ks m0 m1 n d (h.length+1)),.dT []])
  (λi σ H=>∃ o,σ=[some (.ref h.length),some (de ks m0 m1 n d),some .aq,o]/\H=h++[.ins c.cv (vf ks m0 m1 n d (h.length+1)),.dT (fX n ((sp [] d).take i))])
  (λf H=>∃ o,f=.nx [some (.ref h.length),some (de ks m0 m1 n d),some .aq,o]/\H=h++[.ins c.cv (vf ks m0 m1 n d (h.length+1)),.dT (fX n (sp [] d))])
  (by simp[Ci q]) (λi H=>rfl) (by simp;lia) ⟨none,rfl,by simp[fX]⟩
  (λi u σ H hu ⟨o,hσ,hH⟩=>by
   subst hσ hH
   rw[abG]at hu
   obtain⟨x,ex,rfl⟩:=ab6.mp hu
   have mem:x∈sp [] d:=abY ex
   have dp:=(AS q [] x mem).1
   have nw:=wH (n:=n) (rV d []) ex
   have tk:(sp [] d).take (i+1)=(sp [] d).take i++[x]:=by rw[List.take_succ,ex];rfl
   have da:=λh=>Hz (ks:=ks) (m0:=m0) (m1:=m1) (n:=n) (h:=h) q (a:=x.1) (e:=x.2) (by simp at dp;lia) (RT d [] rfl x mem)
   have ln:(fX n ((sp [] d).take i)).length<1000:=by simp[fX];lia
   refine⟨_,_,.nx [some (.ref h.length),some (de ks m0 m1 n d),some .aq,some (cT n x.1)],_,rfl,?_,some (cT n x.1),rfl,rfl⟩
   simp[Wy,da,aj,aL,vf,List.lookup,aZ,ed,qk,cE nw,tk,ln,Nat.lt_trans ln (show 1000<1000000 by lia)]
   simp[fX])
  (λσ H ⟨o,hσ,hH⟩=>⟨o,by rw[hσ],by rw[hH];simp⟩)
 refine eR (σ:=[some (.ref h.length),some (de ks m0 m1 n d),some .aq,o]) ?_
 show j6 c.ck qp Ab [some (.ref h.length),some (de ks m0 m1 n d),some .aq,none] _=_
 unfold j6
 rw[ai (σ':=[some (.ref h.length),some (de ks m0 m1 n d),some .aq,none]) (h':=h++[.ins c.cv [("house",de ks m0 m1 n d)]]) (by simp[bU,aL,fx])]
 rw[ai (σ':=[some (.ref h.length),some (de ks m0 m1 n d),some .aq,none]) (h':=h++[.ins c.cv [("house",de ks m0 m1 n d),("watcher",.aq)]]) (by simp[bU,aL,fx])]
 rw[ai (σ':=[some (.ref h.length),some (de ks m0 m1 n d),some .aq,none]) (h':=h++[.ins c.cv (vf ks m0 m1 n d (h.length+1)),.dT []]) (by simp[bU,aL,fx,vf])]
 exact(congrFun (congrFun (show aN _ _ _ _ Wy=_ from rfl) _) _).trans ((nW).trans (by rw[e];rfl))
end
end D51
namespace S
open PySem L2
variable [kf:KF]
@[simp] theorem Uk:PyData.eqv (.str a) (.str b)=(a == b):=by unfold PyData.eqv;rfl
theorem str_beq {a b:Str}:(a == b)=decide (a=b):=by
 by_cases e:a=b
 ·subst e;simp
 ·simp[e]
theorem m7 {α:Type}{h:MH}{ix:List (Option Nat)}{e:ME}{w:Hw}{g:MG}{c:MT}{a:ME}{σ:bG}{u:U}(xs:List α)(enc:α->U)(G:α->bG)(p:α->Bool)(f:α->U)(he:e σ h=some (u,h))(hu:u=.lst (xs.map enc)\/u=.tup (xs.map enc))(hl:xs.length<1000000)
  (hg:∀ x∈xs,∀ σ',(σ'=ix.map (cf σ)\/∃ y∈xs,σ'=G y)->∀ l,g (enc x) σ' (h++[.lst l])=some (G x,h++[.lst l])) (hc:∀ x∈xs,∀ l,c (G x) (h++[.lst l])=some (p x,h++[.lst l]))
  (ha:∀ x∈xs,p x=true->∀ l,a (G x) (h++[.lst l])=some (f x,h++[.lst l])):cC ix (aD e) w e g c a σ h=some (.ref h.length,h++[.lst ((xs.filter p).map f)]):=by
 have hi:aD e σ h=some (lQ (xs.map enc),h):=by
  rw[fG,he]
  rcases hu with rfl | rfl<;>rfl
 unfold cC
 rw[Az,qF xs enc G p f hi (λi H=>rfl) hl hg hc ha,EU]
end S
namespace D51
open PySem L2 S
variable [kf:KF][c:Cw]
noncomputable def fU (ms:List Str):U:=.tup (ms.map .str)
noncomputable def Ir (ms:List Str):NK.KD:=.tup (ms.map .str)
theorem KO:ae (Ir ms)=fU ms:=by simp[Ir,fU,ae]
noncomputable def Lf.mk (m0 m1:Str)(ms:List Str):Lf->List Str
 |.on x=>[m0,m1].filter λm=>decide (m∈ms) || decide (m=x)
 |.off x=>ms.filter λm=>decide (m≠x)
 |_=>ms
noncomputable def Lf.end (p:U):Lf->U
 |.Cu _=>p
 |.leave=>.str "leave"
 |_=>.str "done"
structure Vw (H:MH)(v dd:Nat)(ks:U)(m0 m1 n:Str)(d:Dd):Prop where
 v:H[v]?=some (.ins c.cv (vf ks m0 m1 n d dd))
 d:H[dd]?=some (.dT (fX n (sp [] d)))
section
variable {ks:U}{m0 m1 n:Str}{d:Dd}{h H:MH}{v dd:Nat}{l:Lf}{ms:List Str}
theorem fK:fH 0 (fU ms):=.tup tO
theorem Bi (hm:ms.length<=100):g9 [de ks m0 m1 n d,l.enc,fU ms] h=some (fU (l.mk m0 m1 ms),h):=by
 cases l with
 |on x=>
  refine iw (g:=[.lst ((Lf.mk m0 m1 ms (.on x)).map .str)]) (bc ?_) fK
  have cc:=m7 (h:=h) (ix:=[none,some 1,some 2]) (e:=ah (aa 0) (mC (.int 1))) (w:=.keys) (g:=nName 0) (c:=uV (mB (dS false (aa 0) (aa 2))) (mB (ay (c6 false) (aa 0) (ah (aa 1) (mC (.int 1)))))) (a:=aa 0) (σ:=[some (de ks m0 m1 n d),some (.tup [.str "on",.str x]),some (fU ms)]) (u:=.tup [.str m0,.str m1]) [m0,m1] (λm=>U.str m) (λm=>[some (.str m),some (.tup [.str "on",.str x]),some (fU ms)]) (λm=>decide (m∈ms) || decide (m=x)) (λm=>U.str m)
   (by simp[de]) (.inr rfl) (by simp) (λy _ σ' hσ l=>by rcases hσ with rfl | ⟨z,_,rfl⟩<;>simp[cf])
   (λy _ l=>by
    by_cases h1:y∈ms<;>simp[dS,fU,h1,str_beq])
   (λy _ _ l=>by simp)
  simp[eM,Lf.enc,cc,cp,cD,aQ]
  constructor<;>simp[fU,Lf.mk]
 |off x=>
  refine iw (g:=[.lst ((Lf.mk m0 m1 ms (.off x)).map .str)]) (bc ?_) fK
  have cc:=m7 (h:=h) (ix:=[none,some 1]) (e:=aa 2) (w:=.keys) (g:=nName 0) (c:=mB (ay (c6 true) (aa 0) (ah (aa 1) (mC (.int 1))))) (a:=aa 0) (σ:=[some (de ks m0 m1 n d),some (.tup [.str "off",.str x]),some (fU ms)]) (u:=fU ms) ms (λm=>U.str m) (λm=>[some (.str m),some (.tup [.str "off",.str x])]) (λm=>decide (m≠x)) (λm=>U.str m)
   (by simp) (.inr rfl) (by lia) (λy _ σ' hσ l=>by rcases hσ with rfl | ⟨z,_,rfl⟩<;>simp[cf])
   (λy _ l=>by simp[str_beq])
   (λy _ _ l=>by simp)
  simp[eM,Lf.enc,cc,cp,cD,aQ]
  constructor<;>simp[fU,Lf.mk]
 |_=>
  refine nr (bc ?_) fK
  simp[eM,Lf.enc,Lf.mk]
abbrev FQ:MF:=lD c.ck g9 (mU c.ck)
theorem wR (V:Vw H v dd ks m0 m1 n d):mU c.ck [.ref v,s] H=some (s,H):=by
 refine bc ?_
 simp[qy,aj,aL,V.v,vf,List.lookup,oG,d7]
theorem FR (V:Vw H v dd ks m0 m1 n d)(hm:ms.length<=100):FQ [.ref v,l.enc,fU ms] H=some (fU (l.mk m0 m1 ms),H):=by
 refine bc ?_
 simp[kh,aj,aL,V.v,vf,List.lookup,oG,d7,wR V,Bi hm]
theorem Ct (hr:l≠.row):jx [p,l.enc,.aq] h=some (l.end p,h):=by
 refine bc ?_
 cases l<;>first | exact absurd rfl hr | simp[m4,Lf.enc,Lf.end,dS,Ak,fD,cD,aQ]
theorem DS (V:Vw H v dd ks m0 m1 n d):dv c.ck [.ref v] H=some (.tup [cT n [],fU [],.aq],H):=by
 refine bc ?_
 simp[ph,aj,aL,V.v,vf,de,List.lookup,oG,d7,cT,fU]
end
def b9 (n:Str)(a:List Nat)(ms:List Str):U:=.tup [cT n a,fU ms,.aq]
noncomputable def toU (k k':U):U:=.tup [.tup [],.tup [k,k',.aq],.aq]
noncomputable def ft (w:U):U:=.tup [.tup [],.aq,w]
section
variable {ks:U}{m0 m1 n:Str}{d:Dd}{h H:MH}{v dd:Nat}{l:Lf}{ms ms':List Str}{a:List Nat}{x:Dd}{us:List U}
theorem vY (m:(a,x)∈sp [] d):b6 (fX n (sp [] d)) (qo n a)=some (encD x):=by
 have nd:((sp [] d).map λy=>qo n y.1).Nodup:=by
  have:=rV d []
  rw[show(λy:List Nat×Dd=>qo n y.1)=(qo n)∘(·.1) from rfl,<-abT]
  exact List.Pairwise.map _ (λp q hpq e=>hpq (zg e)) this
 exact dH (f:=λy:List Nat×Dd=>qo n y.1) (g:=λy=>encD y.2) (x:=(a,x)) nd m
theorem Vw.HA (V:Vw H v dd ks m0 m1 n d)(m:(a,x)∈sp [] d):bP H (.ref dd) (cT n a)=some (some (encD x)):=by
 simp[bP,V.d,qk,vY m]
theorem Vw.SX (V:Vw H v dd ks m0 m1 n d):aZ H (.ref dd)=true:=by simp[aZ,V.d]
@[simp] theorem Lj:jy [e,s] h=some (ft (.tup [e,s]),h):=bc (by simp[qA,ft])
theorem zw (ha:a.length<=100):oN [b9 n a ms,.int (k:Nat),fU ms',.aq] h=some (toU (b9 n a ms) (b9 n (a++[k]) ms'),h):=by
 have h1:a.length+1+1<=1000000:=by lia
 exact bc (by simp[sS,toU,b9,cT,h1])
abbrev Co:MF:=pR jy oN
theorem nK:fH 0 (b9 n a ms):=.tup (.cons (by rw[<-tW];exact dz _) (.cons fK (.cons .aq .nil)))
theorem qt (hl:us.length<=1000):Co [k,.tup (.str "row"::us),.int (us.length:Nat),fU ms] h=some (.lst [ft (.tup [.str "done",fU ms])],h):=by
 refine c9 (n:=h.length) (g:=[.lst [ft (.tup [.str "done",fU ms])]]) (bc ?_) (abl _) (by simp) (.cons (.tup (.cons (.tup .nil) (.cons .aq (.cons (.tup (.cons .str (.cons fK .nil))) .nil)))) .nil)
 simp[kg,iG]
theorem zp (hk:k<us.length)(hl:us.length<=1000)(ha:a.length<=100):Co [b9 n a ms,.tup (.str "row"::us),.int (k:Nat),fU ms'] h=some (.lst [toU (b9 n a ms) (b9 n (a++[k]) ms')],h):=by
 refine c9 (n:=h.length) (g:=[.lst [toU (b9 n a ms) (b9 n (a++[k]) ms')]]) (bc ?_) (abl _) (by simp) (.cons (.tup (.cons (.tup .nil) (.cons (.tup (.cons nK (.cons nK (.cons .aq .nil)))) (.cons .aq .nil)))) .nil)
 have st:=zw (n:=n) (ms:=ms) (ms':=ms') (k:=k) (h:=h) ha
 have ne:((k:Int) == (us.length:Int))=false:=by rw[acg];lia
 have at2:L2.iT [cT n a,fU ms,U.aq] 2=some U.aq:=by simp
 simp only[b9]at st ⊢
 simp[kg,iG,st,ne]
abbrev firstM:MF:=mx c.ck Co jy jx FQ
theorem lN (V:Vw H v dd ks m0 m1 n d)(m:(a,x)∈sp [] d)(ex:encD x=.tup (.str "row"::us))(hr:Co [b9 n a ms,.tup (.str "row"::us),.int 0,fU ms] H=some (r,H))(lr:fH 0 r):firstM [.ref v,b9 n a ms] H=some (r,H):=by
 refine nr (bc ?_) lr
 have dg:=V.HA m
 rw[ex]at dg
 simp only[b9]at hr
 simp[iM,aj,aL,V.v,vf,List.lookup,b9,V.SX,dg,hr]
theorem yz (V:Vw H v dd ks m0 m1 n d)(m:(a,.lf l)∈sp [] d)(hm:ms.length<=100):firstM [.ref v,b9 n a ms] H=some (.lst [ft (.tup [l.end (cT n a),fU (l.mk m0 m1 ms)])],H):=by
 by_cases hr:l=.row
 ·subst hr
  exact lN V m (us:=[]) rfl (qt (us:=[]) (by simp)) (.lst (.cons (.tup (.cons (.tup .nil) (.cons .aq (.cons (.tup (.cons .str (.cons fK .nil))) .nil)))) .nil))
 have dg:=V.HA m
 have sc:=FR (l:=l) V hm
 have se:=Ct (h:=H) (p:=cT n a) hr
 have lo:fH 0 (l.end (cT n a)):=by
  cases l<;>first | exact .str | (show fH 0 (cT n a);rw[<-tW];exact dz _)
 refine c9 (n:=H.length) (g:=[.lst [ft (.tup [l.end (cT n a),fU (l.mk m0 m1 ms)])]]) (bc ?_) (abl _) (by simp) (.cons (.tup (.cons (.tup .nil) (.cons .aq (.cons (.tup (.cons lo (.cons fK .nil))) .nil)))) .nil)
 obtain⟨w,us,ew,w1,w2,w3,w4,w5,w6,w7⟩:∃ (w:String) (us:List U),l.enc=.tup (.str w::us)/\w≠"row"/\w≠"pick"/\w≠"again"/\w≠"when"/\w≠"call"/\w≠"clean"/\w≠"catch":=by
  cases l<;>first | exact absurd rfl hr | exact⟨_,_,rfl,by decide,by decide,by decide,by decide,by decide,by decide,by decide⟩
 have YN:bP H (.ref dd) (cT n a)=some (some (.tup (.str w::us))):=by rw[dg];exact congrArg (λz=>some (some z)) ew
 rw[ew]at sc se
 simp[iM,aj,aL,V.v,vf,List.lookup,b9,V.SX,YN,dS,Ak,fD,cD,aQ,sc,se,w1,w2,w3,w4,w5,w6,w7,acd w6,acd w7]
end
section
inductive gB (n:Str):U->Prop
 |str {s:String}:s≠"done"->gB n (.str s)
 |pl {a:List Nat}:gB n (cT n a)
theorem BZ {m:Nat}{a:List Nat}:fD (bq h m) (a.map λk=>U.int (k:Nat))=some (a.map λk=>PyData.int (k:Nat)):=by
 induction a with
 |nil=>rfl
 |cons x a ih=>simp[fD,ih]
theorem kz (e:fD (bq h m) us=some ds):bq h (m+1) (.tup us)=some (.tuple ds):=by
 show(fD (bq h m) us).bind _=_
 rw[e];rfl
theorem Aa:bq h (m+1) (cT n a)=some (.tuple (.str n::a.map λk=>PyData.int (k:Nat))):=
 kz (by
  show(bq h m (.str n)).bind _=_
  rw[kr]
  show(fD (bq h m) _).bind _=_
  rw[BZ];rfl)
theorem LW:PyData.eqv (.tuple xs) (.str z)=false:=by unfold PyData.eqv;rfl
theorem xa (q:gB n e)(hs:e≠.str s):S.c6 false e (.str s) h=some (.bl false,h):=by
 cases q with
 |@str z hz=>
  have:z≠s:=λe=>hs (by rw[e])
  simp[this]
 |@pl a=>
  show(bq h (_+1) (cT n a)).bind _=_
  rw[Aa]
  rw[abJ,kr]
  show some (U.bl (PyData.eqv _ _),h)=_
  rw[LW]
theorem gB.ne (q:gB n e):e≠.str "done":=by
 cases q with
 |str hs=>intro z;injection z with z;exact hs (nV z)
 |pl=>intro z;cases z
abbrev nextM:MF:=nO c.ck Co
theorem IZ:L2.iT (U.str n::((a++[k]).map λk=>U.int (k:Nat))) (-1)=some (.int (k:Nat)):=by
 rw[acm,<-List.cons_append]
 exact S.vK
theorem Kq:sJ (cT n (a++[k])) (.int (-1)) h=some (.int (k:Nat),h):=by
 show(L2.iT _ _).bind _=_
 rw[IZ];rfl
theorem Ek:aZ h (cT n a)=false:=rfl
theorem oP (V:Vw H v dd ks m0 m1 n d)(m:(a,x)∈sp [] d)(ex:encD x=.tup (.str "row"::us))(hr:Co [b9 n a ms,.tup (.str "row"::us),.int ((k:Nat)+1),fU KH] H=some (r,H))(lr:fH 0 r) :
  nextM [.ref v,.tup [b9 n a ms,b9 n (a++[k]) ms',.aq],.tup [.str "done",fU KH]] H=some (r,H):=by
 refine nr (bc ?_) lr
 have dg:=V.HA m
 rw[ex]at dg
 simp only[b9]at hr
 simp[jk,aj,aL,V.v,vf,List.lookup,b9,V.SX,dg,hr,jP,Kq,Ek]
theorem wZ (V:Vw H v dd ks m0 m1 n d)(m:(a,x)∈sp [] d)(ex:encD x=.tup (.str "row"::us))(q:gB n e)(le:fH 0 e) :
  nextM [.ref v,.tup [b9 n a ms,b9 n (a++[k]) ms',.aq],.tup [e,fU KH]] H=some (.lst [ft (.tup [e,fU KH])],H):=by
 refine c9 (n:=H.length) (g:=[.lst [ft (.tup [e,fU KH])]]) (bc ?_) (abl _) (by simp) (.cons (.tup (.cons (.tup .nil) (.cons .aq (.cons (.tup (.cons le (.cons fK .nil))) .nil)))) .nil)
 have dg:=V.HA m
 rw[ex]at dg
 have nd:=xa (h:=H) q q.ne
 simp[jk,aj,aL,V.v,vf,List.lookup,b9,V.SX,dg,nd,jP,Kq,Ek,ft]
end
noncomputable def par (d i:Nat):Nat:=min (i-1) d
def bH (X:Nat->NK.KD)(d i:Nat):NK.KD:=.tup [X (par d i),X i,.aq]
noncomputable def zv (s:NK.KD):U:=.tup [.tup [],ae s,.aq]
def F1 (X W:Nat->NK.KD)(d N i:Nat):U:=if i<=d/\i+1<N then zv (bH X d (i+1)) else ft (ae (W i))
def F2 (X W:Nat->NK.KD)(d N i:Nat):U:=if d<i/\i+1<N then zv (bH X d (i+1)) else ft (ae (W (par d i)))
structure Ch (h0:MH)(v d N:Nat)(X W:Nat->NK.KD):Prop where
 kx:∀ i,i<N->cL (ae (X i))=some (X i)
 kw:∀ i,i<N->cL (ae (W i))=some (W i)
 ks:∀ i,1<=i->i<N->cL (ae (bH X d i))=some (bH X d i)
 inj:∀ i j,i<N->j<N->X i=X j->i=j
 wr:∀ i,i<=d->W i=W 0
 hd:d<N
 hn:N<=100
 first:∀ g i,i<N->firstM [.ref v,ae (X i)] (h0++g)=some (.lst [F1 X W d N i],h0++g)
 next:∀ g i,1<=i->i<N->nextM [.ref v,ae (bH X d i),ae (W i)] (h0++g)=some (.lst [F2 X W d N i],h0++g)
 front:∀ g,dv c.ck [.ref v] (h0++g)=some (ae (X 0),h0++g)
noncomputable def pr (f g:Nat->List (NK.KD×U))(k:Nat):MH:=(List.range k).flatMap λi=>[.dT (f i),.dT (g i)]
section
theorem gI:pr f g (k+1)=pr f g k++[.dT (f k),.dT (g k)]:=by simp[pr,abZ]
theorem mW:(pr f g k).length=2*k:=by
 induction k with
 |zero=>rfl
 |succ k ih=>rw[gI,aby,ih];simp;lia
theorem Vz (h:i<k):(pr f g k)[2*i]?=some (.dT (f i)):=by
 induction k with
 |zero=>lia
 |succ k ih=>
  rw[gI]
  by_cases e:i=k
  ·subst e;rw[abt (by rw[mW];lia),mW];simp
  ·rw[abq (by rw[mW];lia)];exact ih (by lia)
theorem rM (hf:∀ i,i<k->f i=f' i)(hg:∀ i,i<k->g i=g' i):pr f g k=pr f' g' k:=by
 induction k with
 |zero=>rfl
 |succ k ih=>rw[gI,gI,ih (λi h=>hf i (by lia)) (λi h=>hg i (by lia)),hf k (by lia),hg k (by lia)]
end
noncomputable def tb (X:Nat->NK.KD)(L k:Nat):List (NK.KD×U):=(List.range k).map λi=>(X i,.ref (L+(2*i+4)))
noncomputable def sb (X:Nat->NK.KD)(L k:Nat):List (NK.KD×U):=(List.range k).map λi=>(X i,.ref (L+(2*i+5)))
noncomputable def gf (v L:Nat):List (Str×U):=[("view",.ref v),("table",.ref (L+1)),("stands",.ref (L+2)),("waiting",.ref (L+3))]
section
theorem Ch.nd (C:Ch h0 v d N X W)(hk:k<=N):((List.range k).map X).Nodup:=by
 refine ace.mpr λi j hi hj Xn e=>?_
 simp at hi hj e
 have:=C.inj i j (by lia) (by lia) e
 lia
theorem Ch.Gs (C:Ch h0 v d N X W)(hk:k<=N)(hi:i<k):b6 (tb X h0.length k) (X i)=some (.ref (h0.length+(2*i+4))):=
 dH (f:=X) (g:=λi=>U.ref (h0.length+(2*i+4))) (C.nd hk) (by simpa using hi)
theorem Ch.FO (C:Ch h0 v d N X W)(hk:k<=N)(hi:i<k):b6 (sb X h0.length k) (X i)=some (.ref (h0.length+(2*i+5))):=
 dH (f:=X) (g:=λi=>U.ref (h0.length+(2*i+5))) (C.nd hk) (by simpa using hi)
theorem Ch.Gu (C:Ch h0 v d N X W)(hk:k<N):X k∉(tb X h0.length k).map (·.1):=by
 simp only[tb,abT,abu,abQ]
 rintro⟨j,hj,e⟩
 have:=C.inj j k (by lia) hk e
 lia
theorem Ch.NU (C:Ch h0 v d N X W)(hk:k<N):X k∉(sb X h0.length k).map (·.1):=by
 simp only[sb,abT,abu,abQ]
 rintro⟨j,hj,e⟩
 have:=C.inj j k (by lia) hk e
 lia
theorem JI:tb X L (k+1)=tb X L k++[(X k,.ref (L+(2*k+4)))]:=by simp[tb,abZ]
theorem Jl:sb X L (k+1)=sb X L k++[(X k,.ref (L+(2*k+5)))]:=by simp[sb,abZ]
theorem OF:(tb X L k).length=k:=by simp[tb]
theorem NT:(sb X L k).length=k:=by simp[sb]
end
section
variable {h0 ps:MH}{v d N k i:Nat}{X W:Nat->NK.KD}{T S0:MO}{wl:List U}{u st:U}
abbrev jA:MF:=gz c.ck
theorem xA (hl:wl.length<=1000)(lw:dB 0 wl)(lu:fH 0 u)(ls:fH 0 st):jA [.ref h0.length,u,.lst [st]] (h0++(.ins c.cg (gf v h0.length)::T::S0::.lst wl::ps))=some (.aq,h0++(.ins c.cg (gf v h0.length)::T::S0::.lst (wl++[.tup [u,st]])::ps)):=by
 have e:(h0++(.ins c.cg (gf v h0.length)::T::S0::.lst wl::ps)).set (h0.length+3) (.lst (wl++[.tup [u,st]]))=h0++(.ins c.cg (gf v h0.length)::T::S0::.lst (wl++[.tup [u,st]])::ps):=by simp
 rw[<-e]
 refine Ag (u:=.aq) (g:=[.lst [.tup [u,st]]]) (eR (σ:=[some (.ref h0.length),some u,some (.lst [st])]) ?_) (dB.mono (abO _) (show dB 0 (wl++[.tup [u,st]]) from bw.mpr λx hx=>?_)) .aq
 ·have h1:wl.length+1<=1000000:=by lia
  simp[gw,gf,aj,aL,List.lookup,cC,fF,cf,gD,bE,bX,h1]
 ·rcases abP.mp hx with hx | hx
  ·exact bw.mp lw x hx
  ·obtain rfl:x=.tup [u,st]:=by simpa using hx
   exact .tup (.cons lu (.cons ls .nil))
theorem Lo:fH 0 (F1 X W d N i):=by
 unfold F1;split
 ·exact .tup (.cons (.tup .nil) (.cons (dz _) (.cons .aq .nil)))
 ·exact .tup (.cons (.tup .nil) (.cons .aq (.cons (dz _) .nil)))
theorem Lp:fH 0 (F2 X W d N i):=by
 unfold F2;split
 ·exact .tup (.cons (.tup .nil) (.cons (dz _) (.cons .aq .nil)))
 ·exact .tup (.cons (.tup .nil) (.cons .aq (.cons (dz _) .nil)))
abbrev nQ:MF:=iB c.ck c.cg firstM jA
theorem pT (C:Ch h0 v d N X W)(hk:k<N)(hp:ps.length=2*k):nQ [.ref h0.length,ae (X k)] (h0++(.ins c.cg (gf v h0.length)::.dT (tb X h0.length k)::.dT (sb X h0.length k)::.lst []::ps)) =
  some (.aq,h0++(.ins c.cg (gf v h0.length)::.dT (tb X h0.length (k+1))::.dT (sb X h0.length (k+1))::.lst [.tup [ae (X k),F1 X W d N k]]::(ps++[.dT [],.dT []]))):=by
 refine eR (σ:=[some (.ref h0.length),some (ae (X k))]) ?_
 have so:=λT S0 ps=>xA (h0:=h0) (v:=v) (T:=T) (S0:=S0) (ps:=ps) (wl:=[]) (u:=ae (X k)) (st:=F1 X W d N k) (by simp) .nil (dz _) Lo
 have hn:=C.hn
 have l1:(tb X h0.length k).length<1000000:=by rw[OF];lia
 have l2:(sb X h0.length k).length<1000000:=by rw[NT];lia
 have fi:=λg=>C.first g k hk
 have a1:h0.length+(ps.length+4)=h0.length+(2*k+4):=by lia
 have a2:h0.length+(ps.length+5)=h0.length+(2*k+5):=by lia
 simp only[gf]at so
 simp[iq,gf,aj,aL,List.lookup,dS,aZ,bP,C.kx k hk,n9 (C.Gu hk),ed,cE (C.Gu hk),cE (C.NU hk),l1,l2,fi,so,JI,Jl,a1,a2]
end
section
abbrev hJ:MF:=gy c.ck c.cg nextM nQ jA
abbrev i3:MF:=iC c.ck c.cg nextM jA
theorem vq:b6 ([]:List (NK.KD×U)) q=none:=rfl
theorem u9:p3 ([]:List (NK.KD×U)) q u=[(q,u)]:=rfl
theorem i4:ae (bH X d i)=.tup [ae (X (par d i)),ae (X i),.aq]:=by simp[bH,ae,cQ]
theorem sN (C:Ch h0 v d N X W)(h1:1<=k)(hk:k<N)(hp:ps.length=2*k):hJ [.ref h0.length,ae (bH X d k)] (h0++(.ins c.cg (gf v h0.length)::.dT (tb X h0.length k)::.dT (sb X h0.length k)::.lst []::ps)) =
  some (.aq,h0++(.ins c.cg (gf v h0.length)::.dT (tb X h0.length (k+1))::.dT (sb X h0.length (k+1))::.lst [.tup [ae (X k),F1 X W d N k]]::(ps++[.dT [],.dT [(bH X d k,.bl true)]]))):=by
 refine eR (σ:=[some (.ref h0.length),some (ae (bH X d k)),some (ae (X k)),none]) ?_
 have nk:=pT C hk hp
 have t1:=C.Gs (k:=k+1) (i:=k) (by lia) (by lia)
 have s1:=C.FO (k:=k+1) (i:=k) (by lia) (by lia)
 have kx:=C.kx k hk
 have Vf:=C.ks k h1 hk
 have QP:=Vf
 rw[i4]at QP
 have a1:(ps++[MO.dT [],MO.dT []])[2*k]?=some (.dT []):=by rw[abt (by lia),hp];simp
 have a2:(ps++[MO.dT [],MO.dT []])[2*k+1]?=some (.dT []):=by rw[abt (by lia),hp];simp
 have a3:∀ o,(ps++[MO.dT [],MO.dT []]).set (2*k+1) o=ps++[.dT [],o]:=λo=>by rw[abN _ _ (by lia),hp];simp
 have a4:∀ o,(ps++[MO.dT [],o])[2*k]?=some (.dT []):=λo=>by rw[abt (by lia),hp];simp
 have a5:∀ o o',(ps++[MO.dT [],o]).set (2*k) o'=ps++[o',o]:=λo o'=>by rw[abN _ _ (by lia),hp];simp
 have a6:∀ o o',(ps++[o',o])[2*k]?=some o':=λo o'=>by rw[abt (by lia),hp];simp
 have a7:∀ o o' Vt,(ps++[o',o]).set (2*k) Vt=ps++[Vt,o]:=λo o' Vt=>by rw[abN _ _ (by lia),hp];simp
 rw[i4]at *
 simp only[gf]at nk
 simp[gv,gf,aj,aL,List.lookup,nk,dS,aZ,bP,kx,QP,t1,s1,vq,ed,u9,a1,a2,a3,a4,a5,a6,a7,aN,fF,iA,cO,rk,iP]
end
section
theorem y7 (C:Ch h0 v d N X W)(hi:i<k)(hk:k<=N)(ha:A.length=2*i):i3 [.ref h0.length,ae (X i),ae (W i)] (h0++(.ins c.cg (gf v h0.length)::.dT (tb X h0.length k)::.dT (sb X h0.length k)::.lst []::(A++(.dT []::.dT []::B)))) =
  some (.aq,h0++(.ins c.cg (gf v h0.length)::.dT (tb X h0.length k)::.dT (sb X h0.length k)::.lst []::(A++(.dT [(W i,.bl true)]::.dT []::B)))):=by
 refine eR (σ:=[some (.ref h0.length),some (ae (X i)),some (ae (W i)),none]) ?_
 have t1:=C.Gs (k:=k) (i:=i) hk hi
 have s1:=C.FO (k:=k) (i:=i) hk hi
 have kx:=C.kx i (by lia)
 have kw:=C.kw i (by lia)
 have a1:∀ o o',(A++(o::o'::B))[2*i]?=some o:=λo o'=>by rw[abt (by lia),ha];simp
 have a2:∀ o o',(A++(o::o'::B))[2*i+1]?=some o':=λo o'=>by rw[abt (by lia),ha];simp
 have a3:∀ o o' q,(A++(o::o'::B)).set (2*i) q=A++(q::o'::B):=λo o' q=>by rw[abN _ _ (by lia),ha];simp
 have a4:∀ o o' q,(A++(o::o'::B)).set (2*i+1) q=A++(o::q::B):=λo o' q=>by rw[abN _ _ (by lia),ha];simp
 simp[eI,gf,aj,aL,List.lookup,dS,aZ,bP,kx,kw,t1,s1,vq,ed,u9,a1,a2,a3,a4,aN,fF,iA,cO,rk,iP]
theorem y9 (C:Ch h0 v d N X W)(h1:1<=i)(hi:i<k)(hk:k<=N)(ha:A.length=2*i):i3 [.ref h0.length,ae (X i),ae (W i)] (h0++(.ins c.cg (gf v h0.length)::.dT (tb X h0.length k)::.dT (sb X h0.length k)::.lst []::(A++(.dT []::.dT [(bH X d i,.bl true)]::B)))) =
  some (.aq,h0++(.ins c.cg (gf v h0.length)::.dT (tb X h0.length k)::.dT (sb X h0.length k)::.lst [.tup [ae (X (par d i)),F2 X W d N i]]::(A++(.dT [(W i,.bl true)]::.dT [(bH X d i,.bl true)]::B)))):=by
 refine eR (σ:=[some (.ref h0.length),some (ae (X i)),some (ae (W i)),some (ae (bH X d i))]) ?_
 have t1:=C.Gs (k:=k) (i:=i) hk hi
 have s1:=C.FO (k:=k) (i:=i) hk hi
 have kx:=C.kx i (by lia)
 have kw:=C.kw i (by lia)
 have so:=λT S0 ps=>xA (h0:=h0) (v:=v) (T:=T) (S0:=S0) (ps:=ps) (wl:=[]) (u:=ae (X (par d i))) (st:=F2 X W d N i) (by simp) .nil (dz _) Lp
 have nx:=λg=>C.next g i h1 (by lia)
 simp only[gf]at so
 rw[i4]at nx ⊢
 have a1:∀ o o',(A++(o::o'::B))[2*i]?=some o:=λo o'=>by rw[abt (by lia),ha];simp
 have a2:∀ o o',(A++(o::o'::B))[2*i+1]?=some o':=λo o'=>by rw[abt (by lia),ha];simp
 have a3:∀ o o' q,(A++(o::o'::B)).set (2*i) q=A++(q::o'::B):=λo o' q=>by rw[abN _ _ (by lia),ha];simp
 have a4:∀ o o' q,(A++(o::o'::B)).set (2*i+1) q=A++(o::q::B):=λo o' q=>by rw[abN _ _ (by lia),ha];simp
 simp[eI,gf,aj,aL,List.lookup,dS,aZ,bP,kx,kw,t1,s1,vq,ed,u9,a1,a2,a3,a4,aN,fF,iA,cO,rk,iP,i4,nx,so]
end
section
def ltB:MS:=(ag (ak (i9 mV (ba (aj c.ck.cl "waiting") (aa 1)) af) (nName 2))
  (ag (ak (ah (aa 2) (mC (.int 1))) (nName 3))
  (bg (mB (ay (oG false) (ah (aa 3) (mC (.int 1))) (mC .aq))) (aK (bJ c.cg "need_way" 3 i3 (aa 1) (ab (ah (aa 2) (mC (.int 0))) (ab (ah (aa 3) (mC (.int 2))) af)))) (aK (bJ c.cg "need_stand" 2 hJ (aa 1) (ab (ah (aa 3) (mC (.int 1))) af))))))
def gh (h0:MH)(v k:Nat)(X:Nat->NK.KD)(wl:List U)(ps:MH):MH:=h0++(.ins c.cg (gf v h0.length)::.dT (tb X h0.length k)::.dT (sb X h0.length k)::.lst wl::ps)
noncomputable def sl (v L:Nat)(o2 o3:Option U):bG:=[some (.ref v),some (.ref L),o2,o3,none,none,none]
theorem zL (e:hJ [.ref h0.length,ae (bH X d i)] (gh h0 v k X [] ps)=some (.aq,Ja)):ltB (sl v h0.length o2 o3) (gh h0 v k X [.tup [u,zv (bH X d i)]] ps)=some (.nx (sl v h0.length (some (.tup [u,zv (bH X d i)])) (some (zv (bH X d i)))),Ja):=by
 have kn:me (ae (bH X d i))=false:=by rw[i4];rfl
 simp only[gh,gf]at e
 simp[ltB,sl,gh,gf,aj,aL,List.lookup,mV,bE,zv,d7,kn,e]
theorem vo (e:i3 [.ref h0.length,u,ae w] (gh h0 v k X [] ps)=some (.aq,Ja)):ltB (sl v h0.length o2 o3) (gh h0 v k X [.tup [u,ft (ae w)]] ps)=some (.nx (sl v h0.length (some (.tup [u,ft (ae w)])) (some (ft (ae w)))),Ja):=by
 simp only[gh,gf]at e
 simp[ltB,sl,gh,gf,aj,aL,List.lookup,mV,bE,ft,d7,e]
theorem sf:ij (ba (aj c.ck.cl "waiting") (aa 1)) (sl v h0.length o2 o3) (gh h0 v k X [u] ps)=some (true,gh h0 v k X [u] ps):=by
 simp[sl,gh,gf,aj,aL,List.lookup,mY]
theorem Sd:ij (ba (aj c.ck.cl "waiting") (aa 1)) (sl v h0.length o2 o3) (gh h0 v k X [] ps)=some (false,gh h0 v k X [] ps):=by
 simp[sl,gh,gf,aj,aL,List.lookup,mY]
noncomputable def wd (W:Nat->NK.KD)(p:Nat->Bool)(j:Nat):List (NK.KD×U):=if p j=true then[(W j,.bl true)] else[]
def sw (X:Nat->NK.KD)(d j:Nat):List (NK.KD×U):=if j=0 then[] else[(bH X d j,.bl true)]
theorem Sh (e:p j=q j):wd W p j=wd W q j:=by unfold wd;rw[e]
theorem Ny (f g:Nat->List (NK.KD×U))(hi:i<k):∃ B,pr f g k=pr f g i++(.dT (f i)::.dT (g i)::B)/\∀ x,pr (λj=>if j=i then x else f j) g k=pr f g i++(.dT x::.dT (g i)::B):=by
 induction k with
 |zero=>lia
 |succ k ih=>
  by_cases e:i=k
  ·subst e
   refine⟨[],by rw[gI],λx=>?_⟩
   have e2:pr (λj=>if j=i then x else f j) g i=pr f g i:=rM (λj hj=>abo (by lia)) (λ_ _=>rfl)
   rw[gI,e2];simp
  ·obtain⟨B,b1,b2⟩:=ih (by lia)
   refine⟨B++[.dT (f k),.dT (g k)],by rw[gI,b1];simp,λx=>?_⟩
   rw[gI,b2];simp[show k≠i by lia]
theorem GG (C:Ch h0 v d N X W)(hi:i<k)(hk:k<=N)(hp:p i=false):i3 [.ref h0.length,ae (X i),ae (W i)] (gh h0 v k X [] (pr (wd W p) (sw X d) k)) =
  some (.aq,gh h0 v k X (if i=0 then[] else[.tup [ae (X (par d i)),F2 X W d N i]]) (pr (wd W λj=>p j || decide (j=i)) (sw X d) k)):=by
 obtain⟨B,b1,b2⟩:=Ny (wd W p) (sw X d) hi
 have e0:wd W p i=[]:=by simp[wd,hp]
 have e1:pr (wd W λj=>p j || decide (j=i)) (sw X d) k=pr (wd W p) (sw X d) i++(.dT [(W i,.bl true)]::.dT (sw X d i)::B):=by
  rw[<-b2 [(W i,.bl true)]]
  refine rM (λj hj=>?_) (λ_ _=>rfl)
  by_cases e:j=i
  ·subst e;simp[wd]
  ·simp[wd,e]
 rw[b1,e0,e1]
 by_cases z:i=0
 ·have s0:sw X d i=[]:=by simp[sw,z]
  rw[s0,abr z]
  exact y7 C hi hk mW
 ·have s0:sw X d i=[(bH X d i,.bl true)]:=by simp[sw,z]
  rw[s0,abo z]
  exact y9 C (by lia) hi hk mW
theorem xt (C:Ch h0 v d N X W)(h1:1<=k)(hk:k<N)(hp:p k=false):hJ [.ref h0.length,ae (bH X d k)] (gh h0 v k X [] (pr (wd W p) (sw X d) k)) =
  some (.aq,gh h0 v (k+1) X [.tup [ae (X k),F1 X W d N k]] (pr (wd W p) (sw X d) (k+1))):=by
 rw[gI]
 have e0:wd W p k=[]:=by simp[wd,hp]
 have s0:sw X d k=[(bH X d k,.bl true)]:=by simp[sw];lia
 rw[e0,s0]
 exact sN C h1 hk mW
end
section
noncomputable def pA (d g j:Nat):Bool:=decide (d<j/\j<g)
noncomputable def pM (d g j:Nat):Bool:=decide (d<j/\j<=g)
noncomputable def pB (g j:Nat):Bool:=decide (g<j)
theorem eU (e:∀ j,j<k->p j=q j):gh h0 v k X wl (pr (wd W p) (sw X d) k)=gh h0 v k X wl (pr (wd W q) (sw X d) k):=by
 rw[rM (λj hj=>Sh (e j hj)) (λ_ _=>rfl)]
inductive GI (h0:MH)(v d N:Nat)(X W:Nat->NK.KD)(n:Nat):bG->MH->Prop
 |a (o2 o3:Option U) (g:Nat):g<N->(g<=d->g+1<N)->2*(N-g)+d+2<=n->GI h0 v d N X W n (sl v h0.length o2 o3) (gh h0 v (g+1) X [.tup [ae (X g),F1 X W d N g]] (pr (wd W (pA d g)) (sw X d) (g+1)))
 |b (o2 o3:Option U) (g:Nat):d<g->g+1<N->2*(N-g)+d+1<=n->GI h0 v d N X W n (sl v h0.length o2 o3) (gh h0 v (g+1) X [.tup [ae (X d),zv (bH X d (g+1))]] (pr (wd W (pM d g)) (sw X d) (g+1)))
 |c (o2 o3:Option U) (g:Nat):g<=d->g+1<=n->GI h0 v d N X W n (sl v h0.length o2 o3) (gh h0 v N X [.tup [ae (X g),ft (ae (W g))]] (pr (wd W (pB g)) (sw X d) N))
 |e (o2 o3:Option U):GI h0 v d N X W n (sl v h0.length o2 o3) (gh h0 v N X [] (pr (wd W λ_=>true) (sw X d) N))
inductive GR (h0:MH)(v d N:Nat)(X W:Nat->NK.KD):Fl->MH->Prop
 |mk (o2 o3:Option U):GR h0 v d N X W (.nx (sl v h0.length o2 o3)) (gh h0 v N X [] (pr (wd W λ_=>true) (sw X d) N))
theorem HL (C:Ch h0 v d N X W):∃ o2 o3,c4 (ij (ba (aj c.ck.cl "waiting") (aa 1))) ltB (sl v h0.length none none) (gh h0 v 1 X [.tup [ae (X 0),F1 X W d N 0]] (pr (wd W λ_=>false) (sw X d) 1))=some (.nx (sl v h0.length o2 o3),gh h0 v N X [] (pr (wd W λ_=>true) (sw X d) N)):=by
 have hd:=C.hd
 obtain⟨_,_,e,⟨o2,o3⟩⟩:=er (c:=ij (ba (aj c.ck.cl "waiting") (aa 1))) (b:=ltB) (I:=GI h0 v d N X W) (R:=GR h0 v d N X W)
  (λn σ H I=>by
   cases I with
   |a o2 o3 g hg hgd HR=>
    by_cases gd:g<=d
    ·rw[show F1 X W d N g=zv (bH X d (g+1)) from abr ⟨gd,hgd gd⟩]
     have st:=xt C (k:=g+1) (p:=pA d g) (by lia) (hgd gd) (by simp[pA])
     by_cases last:g+1<=d/\g+2=N
     ·obtain⟨l1,l2⟩:=last
      obtain rfl:d=g+1:=by lia
      subst l2
      rw[show F1 X W (g+1) (g+2) (g+1)=ft (ae (W (g+1))) from abo (by lia),eU (k:=g+1+1) (q:=pB (g+1)) λj hj=>by simp only[pA,pB,decide_eq_decide];lia]at st
      exact .inr ⟨_,_,_,sf,zL st,g+2,by lia,.c _ _ (g+1) (abl _) (abl _)⟩
     ·rw[eU (k:=g+1+1) (q:=pA d (g+1)) λj hj=>by simp only[pA,decide_eq_decide];lia]at st
      exact .inr ⟨_,_,_,sf,zL st,2*(N-(g+1))+d+2,by lia,.a _ _ (g+1) (hgd gd) (by lia) (abl _)⟩
    ·rw[show F1 X W d N g=ft (ae (W g)) from abo (by lia)]
     have wy:=GG C (k:=g+1) (i:=g) (p:=pA d g) (by lia) (by lia) (by simp[pA])
     have pd:par d g=d:=Nat.min_eq_right (by lia)
     rw[abo (show g≠0 by lia),pd]at wy
     by_cases last:g+1<N
     ·rw[show F2 X W d N g=zv (bH X d (g+1)) from abr ⟨by lia,last⟩,eU (p:=λj=>pA d g j || decide (j=g)) (q:=pM d g) λj hj=>by simp only[pA,pM,<-Bool.decide_or,decide_eq_decide];lia]at wy
      exact .inr ⟨_,_,_,sf,vo wy,2*(N-g)+d+1,by lia,.b _ _ g (by lia) last (abl _)⟩
     ·have f2:F2 X W d N g=ft (ae (W d)):=by unfold F2;rw[abo (by lia),pd]
      obtain rfl:N=g+1:=by lia
      rw[f2,eU (p:=λj=>pA d g j || decide (j=g)) (q:=pB d) λj hj=>by simp only[pA,pB,<-Bool.decide_or,decide_eq_decide];lia]at wy
      exact .inr ⟨_,_,_,sf,vo wy,d+1,by lia,.c _ _ d (abl _) (abl _)⟩
   |b o2 o3 g hdg Xl HR=>
    have st:=xt C (k:=g+1) (p:=pM d g) (by lia) Xl (by simp[pM])
    rw[eU (k:=g+1+1) (q:=pA d (g+1)) λj hj=>by simp only[pA,pM,decide_eq_decide];lia]at st
    exact .inr ⟨_,_,_,sf,zL st,2*(N-(g+1))+d+2,by lia,.a _ _ (g+1) Xl (by lia) (abl _)⟩
   |c o2 o3 g hg HR=>
    have wy:=GG C (k:=N) (i:=g) (p:=pB g) (by lia) (abl _) (by simp[pB])
    by_cases z:g=0
    ·rw[abr z,eU (p:=λj=>pB g j || decide (j=g)) (q:=λ_=>true) λj hj=>by simp only[pB,<-Bool.decide_or,decide_eq_true_eq];lia]at wy
     exact .inr ⟨_,_,_,sf,vo wy,0,by lia,.e _ _⟩
    ·have e1:par d g=g-1:=acv (by lia)
     have f2:F2 X W d N g=ft (ae (W (g-1))):=by unfold F2;rw[abo (by lia),e1]
     rw[abo z,f2,e1,eU (p:=λj=>pB g j || decide (j=g)) (q:=pB (g-1)) λj hj=>by simp only[pB,<-Bool.decide_or,decide_eq_decide];lia]at wy
     exact .inr ⟨_,_,_,sf,vo wy,g,by lia,.c _ _ (g-1) (by lia) (by lia)⟩
   |e o2 o3=>exact .inl ⟨_,Sd,.mk o2 o3⟩)
  FU (2*N+d+2) (sl v h0.length none none) (gh h0 v 1 X [.tup [ae (X 0),F1 X W d N 0]] (pr (wd W λ_=>false) (sw X d) 1)) (jS (by have:=C.hn;lia)) (by
   by_cases z:N=1
   ·subst z
    obtain rfl:d=0:=by lia
    rw[show F1 X W 0 1 0=ft (ae (W 0)) from abo (by lia),eU (q:=pB 0) λj hj=>by simp[pB];lia]
    exact .c _ _ 0 (abl _) (by lia)
   ·rw[eU (q:=pA d 0) λj hj=>by simp[pA]]
    exact .a _ _ 0 (by lia) (by lia) (by lia))
 exact⟨o2,o3,e⟩
end
section
abbrev yF:MF:=mn c.ck
abbrev zF:MF:=my c.ck c.cg (dv c.ck) yF nQ i3 hJ
theorem D0:yF [.ref h0.length,.ref v] (h0++[.ins c.cg []])=some (.aq,h0++[.ins c.cg (gf v h0.length),.dT [],.dT [],.lst []]):=by
 refine eR (σ:=[some (.ref h0.length),some (.ref v)]) ?_
 simp[l5,bU,aL,fx,gf]
noncomputable def nt (X:Nat->NK.KD)(b i:Nat):List (NK.KD×U):=(List.range i).map λj=>(X j,.ref (b+j))
noncomputable def nl (W:Nat->NK.KD)(i:Nat):MH:=(List.range i).map λj=>.lst [ae (W j)]
def S2:MS:=az (aa 4) (aa 5) (ig (iG eW mT) (ab (aa 6) af))
def gF (h0:MH)(v N:Nat)(X:Nat->NK.KD)(T:MO)(P r:MH):MH:=h0++(.ins c.cg (gf v h0.length)::T::.dT (sb X h0.length N)::.lst []::(P++r))
theorem BB (C:Ch h0 v d N X W)(hp:P.length=2*N)(hP:∀ j,j<N->P[2*j]?=some (.dT [(W j,.bl true)]))(hi:i<N){T:MO}{s0 s1 s2 s3 s4:Option U} :
  S2 [s0,s1,s2,s3,some (.ref (h0.length+(2*N+4))),some (ae (X i)),some (.ref (h0.length+(2*i+4)))] (gF h0 v N X T P (.dT (nt X (h0.length+(2*N+5)) i)::nl W i)) =
   some (.nx [s0,s1,s2,s3,some (.ref (h0.length+(2*N+4))),some (ae (X i)),some (.ref (h0.length+(2*i+4)))],gF h0 v N X T P (.dT (nt X (h0.length+(2*N+5)) (i+1))::nl W (i+1))):=by
 have hn:=C.hn
 have b1:∀ D ls,(P++(D::ls))[2*N]?=some D:=λD ls=>by rw[abt (by lia),hp];simp
 have b2:∀ D ls o,(P++(D::ls)).set (2*N) o=P++(o::ls):=λD ls o=>by rw[abN _ _ (by lia),hp];simp
 have b3:∀ r,(P++r)[2*i]?=some (.dT [(W i,.bl true)]):=λr=>by rw[abq (by lia)];exact hP i hi
 have nw:X i∉(nt X (h0.length+(2*N+5)) i).map (·.1):=by
  simp only[nt,abT,abu,abQ]
  rintro⟨j,hj,e⟩
  have:=C.inj j i (by lia) hi e
  lia
 have l1:(nt X (h0.length+(2*N+5)) i).length<1000000:=by simp[nt];lia
 have l2:(nl W i).length=i:=by simp[nl]
 have f1:nt X (h0.length+(2*N+5)) (i+1)=nt X (h0.length+(2*N+5)) i++[(X i,.ref (h0.length+(2*N+(i+1)+4)))]:=by
  simp only[nt,abZ,acm,abH,List.map_nil]
  rw[show h0.length+(2*N+5)+i=h0.length+(2*N+(i+1)+4) by lia]
 have f2:nl W (i+1)=nl W i++[.lst [ae (W i)]]:=by simp[nl,abZ]
 rw[f1,f2]
 generalize nt X (h0.length+(2*N+5)) i=D at nw l1 ⊢
 generalize nl W i=ls at l2 ⊢
 simp[S2,gF,eW,aQ,mT,b3,aZ,ed,b1,b2,C.kx i hi,cE nw,l1,hp,l2]
theorem Gp (C:Ch h0 v d N X W):∃ P:MH,P.length=2*N+4/\zF [.ref v] h0=some (.ref (h0.length+(2*N+4)),h0++(P++(.dT (nt X (h0.length+(2*N+5)) N)::nl W N))):=by
 have hn:=C.hn
 have hd:=C.hd
 obtain⟨o2,o3,gr⟩:=HL C
 generalize hP:pr (wd W λ_=>true) (sw X d) N=P at gr
 have hp:P.length=2*N:=by rw[<-hP];exact mW
 have Y0:∀ j,j<N->P[2*j]?=some (.dT [(W j,.bl true)]):=λj hj=>by rw[<-hP,Vz hj];simp[wd]
 have gl:(gh h0 v N X [] P).length=h0.length+(2*N+4):=by simp[gh,hp]
 obtain⟨f,h',e1,o5,o6,rfl,rfl⟩:=ei (g:=fW 2 (aM (nName 5) (aM (nName 6) fV))) (b:=S2) (mi:=cO .items (ba (aj c.ck.cl "table") (aa 1))) (it:=lQ ((tb X h0.length N).map (iP .items))) (us:=(tb X h0.length N).map (iP .items)) (σ:=[some (.ref v),some (.ref h0.length),o2,o3,some (.ref (h0.length+(2*N+4))),none,none]) (h:=gF h0 v N X (.dT (tb X h0.length N)) P [.dT []]) (h1:=gF h0 v N X (.fT (tb X h0.length N)) P [.dT []])
  (λi σ H=>∃ o5 o6,σ=[some (.ref v),some (.ref h0.length),o2,o3,some (.ref (h0.length+(2*N+4))),o5,o6]/\H=gF h0 v N X (.fT (tb X h0.length N)) P (.dT (nt X (h0.length+(2*N+5)) i)::nl W i))
  (λf H=>∃ o5 o6,f=.nx [some (.ref v),some (.ref h0.length),o2,o3,some (.ref (h0.length+(2*N+4))),o5,o6]/\H=gF h0 v N X (.fT (tb X h0.length N)) P (.dT (nt X (h0.length+(2*N+5)) N)::nl W N))
  (by simp[cO,gF,gf,aj,aL,List.lookup]) (λi H=>rfl) (by simp[tb];lia) ⟨none,none,rfl,by simp[nt,nl]⟩
  (λi u σ H hu ⟨o5,o6,hσ,hH⟩=>by
   subst hσ hH
   have hi:i<N:=by
    have:=(abn.mp hu).1
    simpa [tb]using this
   have eu:u=.tup [ae (X i),.ref (h0.length+(2*i+4))]:=by
    simp[tb,ab3 hi,iP]at hu
    exact hu.symm
   subst eu
   exact⟨_,_,_,_,by simp,BB C hp Y0 hi (s4:=none),_,_,rfl,rfl⟩)
  (λσ H ⟨o5,o6,hσ,hH⟩=>⟨o5,o6,by rw[hσ],by rw[hH];simp[tb]⟩)
 have let1:iA (ba (aj c.ck.cl "table") (aa 1)) (df (cO .items (ba (aj c.ck.cl "table") (aa 1))) (fW 2 (aM (nName 5) (aM (nName 6) fV))) S2) [some (.ref v),some (.ref h0.length),o2,o3,some (.ref (h0.length+(2*N+4))),none,none] (gF h0 v N X (.dT (tb X h0.length N)) P [.dT []])=some (.nx [some (.ref v),some (.ref h0.length),o2,o3,some (.ref (h0.length+(2*N+4))),o5,o6],gF h0 v N X (.dT (tb X h0.length N)) P (.dT (nt X (h0.length+(2*N+5)) N)::nl W N)):=by
  have fl:ba (aj c.ck.cl "table") (aa 1) [some (.ref v),some (.ref h0.length),o2,o3,some (.ref (h0.length+(2*N+4))),none,none] (gF h0 v N X (.dT (tb X h0.length N)) P [.dT []])=some (.ref (h0.length+1),gF h0 v N X (.dT (tb X h0.length N)) P [.dT []]):=by simp[gF,gf,aj,aL,List.lookup]
  unfold iA
  rw[fl]
  show(df _ _ _ _ _).bind _=_
  rw[e1]
  simp[rk,gF]
 refine⟨.ins c.cg (gf v h0.length)::.dT (tb X h0.length N)::.dT (sb X h0.length N)::.lst []::P,by simp[hp],bc ?_⟩
 ·show iO _ _ _ _ _ _ _ [some (.ref v),none,none,none,none,none,none] h0=_
  unfold iO
  have s1:ak (lA c.cg 2 yF (ab (aa 0) af)) (nName 1) [some (.ref v),none,none,none,none,none,none] h0=some (.nx [some (.ref v),some (.ref h0.length),none,none,none,none,none],h0++[.ins c.cg (gf v h0.length),.dT [],.dT [],.lst []]):=by
   simp[D0]
  have nk:=pT C (k:=0) (ps:=[]) (by lia) rfl
  have fr:=C.front [.ins c.cg (gf v h0.length),.dT [],.dT [],.lst []]
  have s2:aK (bJ c.cg "need_key" 2 nQ (aa 1) (ab (au 1 (dv c.ck) (ab (aa 0) af)) af)) [some (.ref v),some (.ref h0.length),none,none,none,none,none] (h0++[.ins c.cg (gf v h0.length),.dT [],.dT [],.lst []])=some (.nx (sl v h0.length none none),gh h0 v 1 X [.tup [ae (X 0),F1 X W d N 0]] (pr (wd W λ_=>false) (sw X d) 1)):=by
   simp only[gf]at fr nk
   simp[gf,aL,List.lookup,fr]
   simp[tb,sb]at nk
   simp[nk,gh,sl,gf,pr,wd,sw,tb,sb]
  rw[ai s1,ai s2]
  refine(ai (show c4 _ ltB _ _=_ from gr)).trans ?_
  rw[ai (σ':=[some (.ref v),some (.ref h0.length),o2,o3,some (.ref (h0.length+(2*N+4))),none,none]) (h':=gF h0 v N X (.dT (tb X h0.length N)) P [.dT []]) (by
   simp[sl,gl]
   simp[gh,gF])]
  exact(ai let1).trans (by simp[gF])
end
noncomputable def mf (m:Nat):List (Str×U):=[("prices",.ref (m+1)),("origins",.ref (m+2)),("stalls",.ref (m+3)),("pending",.ref (m+4))]
def mh (b:MH)(pri ori:List (NK.KD×U))(stl:List (Key×U))(pen:List U)(R:MH):MH:=b++(.ins c.cm (mf b.length)::.dT pri::.dT ori::.dK stl::.lst pen::R)
section
variable {b R:MH}{pri ori:List (NK.KD×U)}{stl:List (Key×U)}{pen:List Int}{th:NK.KD}{p:Int}{o:U}
abbrev uY:MF:=mv c.ck
theorem wU:uY [.ref b.length] (b++[.ins c.cm []])=some (.aq,mh b [] [] [] [] []):=by
 refine eR (σ:=[some (.ref b.length)]) ?_
 simp[l6,bU,aL,fx,mf,mh]
abbrev Lg:MF:=iD c.ck
def Wj:MS:=(ag (ak (ay tE (ay aI (aa 2) (aa 3)) (mC (.int 2))) (nName 4))
  (bg (mB (ay Sx (ah (ba (aj c.ck.cl "pending") (aa 0)) (aa 4)) (aa 1))) (ak (ay aI (aa 4) (mC (.int 1))) (nName 2)) (ak (aa 4) (nName 3))))
theorem Jy (hp:∀ q∈pen,q<=p)(hl:pen.length<=100):Lg [.ref b.length,.int p] (mh b pri ori stl (pen.map .int) R)=some (.int 0,mh b pri ori stl (pen.map .int) R):=by
 obtain⟨f,h',e,o,rfl,rfl⟩:=er (c:=mB (ay QW (aa 2) (aa 3))) (b:=Wj)
  (I:=λn σ H=>∃ o,σ=[some (.ref b.length),some (.int p),some (.int 0),some (.int (n:Nat)),o]/\n<=pen.length/\H=mh b pri ori stl (pen.map .int) R)
  (R:=λf H=>∃ o,f=.nx [some (.ref b.length),some (.int p),some (.int 0),some (.int (0:Nat)),o]/\H=mh b pri ori stl (pen.map .int) R)
  (λn σ H ⟨o,hσ,hn,hH⟩=>by
   subst hσ hH
   by_cases z:n=0
   ·subst z
    exact .inl ⟨_,by simp,o,rfl,rfl⟩
   ·have hm:n/2<pen.length:=by lia
    have at':L2.iT (pen.map U.int) (((n:Nat):Int)/2)=some (.int pen[n/2]):=by
     rw[show((n:Nat):Int)/2=((n/2:Nat):Int) by lia,S.dW,abG,abw hm];rfl
    have ng:¬ p<pen[n/2]:=by have:=hp _ (List.getElem_mem hm);lia
    have nz:(0:Int)<((n:Nat):Int):=by lia
    refine .inr ⟨mh b pri ori stl (pen.map .int) R,.nx [some (.ref b.length),some (.int p),some (.int 0),some (.int ((n/2:Nat):Int)),some (.int ((n/2:Nat):Int))],mh b pri ori stl (pen.map .int) R,by simp;lia,?_,n/2,by lia,_,rfl,by lia,rfl⟩
    simp[Wj,tE,ii,mh,mf,aj,aL,List.lookup,aZ,sJ,aQ,at',ng])
  FU pen.length [some (.ref b.length),some (.int p),some (.int 0),some (.int (pen.length:Nat)),none] (mh b pri ori stl (pen.map .int) R) (jS (by lia)) ⟨none,rfl,abl _,rfl⟩
 refine bc ?_
 show eJ c.ck [some (.ref b.length),some (.int p),none,none,none] _=_
 unfold eJ
 rw[ai (σ':=[some (.ref b.length),some (.int p),some (.int 0),none,none]) (h':=mh b pri ori stl (pen.map .int) R) (by simp)]
 rw[ai (σ':=[some (.ref b.length),some (.int p),some (.int 0),some (.int (pen.length:Nat)),none]) (h':=mh b pri ori stl (pen.map .int) R) (by simp[mh,mf,aj,aL,List.lookup,iG])]
 exact(ai (show c4 _ Wj _ _=_ from e)).trans (by simp)
abbrev d9:MF:=lC c.ck c.cm Lg
theorem oS (kt:cL (ae th)=some th)(f1:th∉pri.map (·.1))(f2:th∉ori.map (·.1))(f3:(Sum.inl p:Key)∉stl.map (·.1))(hp:∀ q∈pen,q<=p)(hl:pen.length<=100)(l1:pri.length<=1000)(l2:ori.length<=1000)(l3:stl.length<=1000) :
  d9 [.ref b.length,ae th,.int p,o] (mh b pri ori stl (pen.map .int) R)=some (.aq,mh b (pri++[(th,.int p)]) (ori++[(th,o)]) (stl++[(.inl p,.ref (b.length+(R.length+5)))]) ((p::pen).map .int) (R++[.lst [ae th]])):=by
 refine eR (σ:=[some (.ref b.length),some (ae th),some (.int p),some o]) ?_
 have sp:=λpri ori stl R=>Jy (b:=b) (pri:=pri) (ori:=ori) (stl:=stl) (R:=R) hp hl
 have v1:=n9 f1
 have v3:=n9 f3
 have g1:pri.length<1000000:=by lia
 have g2:ori.length<1000000:=by lia
 have g3:stl.length<1000000:=by lia
 have g4:pen.length<1000000:=by lia
 have v4:b6 (stl++[((Sum.inl p:Key),U.ref (b.length+(R.length+5)))]) (Sum.inl p)=some (.ref (b.length+(R.length+5))):=by
  unfold b6 at v3 ⊢
  rw[List.find?_append]
  have:stl.find? (λkv=>decide (kv.1=(Sum.inl p:Key)))=none:=by simpa using v3
  rw[this];simp
 have a1:∀ x,(R++[x])[R.length]?=some x:=λx=>by simp
 have a2:∀ x y,(R++[x]).set R.length y=R++[y]:=λx y=>by simp
 simp only[mh,mf]at sp
 simp[gW,mh,mf,aj,aL,List.lookup,dS,aZ,bP,ic,kt,v1,v3,ed,cE f1,cE f2,cE f3,g1,g2,g3,sp,qh,bE,g4,v4,aV,a1,a2]
end
end D51
namespace S
open PySem L2
variable [kf:KF]
theorem yo {α:Type}{h h1:MH}{ix:List (Option Nat)}{e:ME}{w:Hw}{g:MG}{c:MT}{a:ME}{σ:bG}{n:Nat}(xs:List α)(enc:α->U)(G:α->bG)(p:α->Bool)(f:α->U)(he:e σ h=some (.ref n,h1))(hu:h1[n]?=some (.lst (xs.map enc)))(hl:xs.length<1000000)
  (hg:∀ x∈xs,∀ σ',(σ'=ix.map (cf σ)\/∃ y∈xs,σ'=G y)->∀ l,g (enc x) σ' (h1++[.lst l])=some (G x,h1++[.lst l])) (hc:∀ x∈xs,∀ l,c (G x) (h1++[.lst l])=some (p x,h1++[.lst l]))
  (ha:∀ x∈xs,p x=true->∀ l,a (G x) (h1++[.lst l])=some (f x,h1++[.lst l])):cC ix (aD e) w e g c a σ h=some (.ref h1.length,h1++[.lst ((xs.filter p).map f)]):=by
 have hi:aD e σ h=some (mj n,h1):=by
  rw[fG,he]
  show fF h1 (.ref n)=_
  simp[fF,hu]
 have hn:=(abn.mp hu).1
 unfold cC
 rw[Az,qF xs enc G p f hi (λi l=>by unfold mj;rw[abq hn,hu]) hl hg hc ha,EU]
end S
namespace D51
open PySem L2 S
variable [kf:KF][c:Cw]
section
variable {b R:MH}{pri ori:List (NK.KD×U)}{stl:List (Key×U)}{pen:List Int}{pu:List U}{th:NK.KD}{p:Int}{o:U}{r:Nat}{ts:List U}{ths:List NK.KD}
theorem zd (kt:cL (ae th)=some th)(f1:th∉pri.map (·.1))(f2:th∉ori.map (·.1))(f3:b6 stl (.inl p)=some (.ref (b.length+(r+5))))(hr:R[r]?=some (.lst ts))(l1:pri.length<=1000)(l2:ori.length<=1000)(l3:ts.length<=1000) :
  d9 [.ref b.length,ae th,.int p,o] (mh b pri ori stl pu R)=some (.aq,mh b (pri++[(th,.int p)]) (ori++[(th,o)]) stl pu (R.set r (.lst (ts++[ae th])))):=by
 refine eR (σ:=[some (.ref b.length),some (ae th),some (.int p),some o]) ?_
 have v1:=n9 f1
 have g1:pri.length<1000000:=by lia
 have g2:ori.length<1000000:=by lia
 have g3:ts.length<1000000:=by lia
 simp[gW,mh,mf,aj,aL,List.lookup,dS,aZ,bP,ic,kt,v1,ed,cE f1,cE f2,g1,g2,f3,bE,aV,hr,g3]
abbrev nZ:MF:=c5 c.ck
theorem A0 (h1:b6 stl (.inl p)=some (.ref (b.length+(r+5))))(hr:R[r]?=some (.lst (ths.map ae)))(hl:ths.length<=1000)(hk:∀ t∈ths,cL (ae t)=some t/\b6 pri t=some (.int p))(ls:∀ x∈stl,∃ j,x.2=.ref (b.length+(j+5))/\j<R.length) :
  nZ [.ref b.length] (mh b pri ori stl ((pen++[p]).map .int) R)=some (.lst (ths.map ae),mh b pri ori (stl.filter λkv=>decide (kv.1≠.inl p)) (pen.map .int) R):=by
 have O6:=(abn.mp hr).1
 have run:fZ 2 (bT c.ck) [.ref b.length] (mh b pri ori stl ((pen++[p]).map .int) R)=some (.ref (b.length+(R.length+5)),mh b pri ori (stl.filter λkv=>decide (kv.1≠.inl p)) (pen.map .int) R++[.lst (ths.map ae)]):=by
  refine bc ?_
  show bT c.ck [some (.ref b.length),none] _=_
  unfold bT
  rw[ai (σ':=[some (.ref b.length),some (.int p)]) (h':=mh b pri ori stl (pen.map .int) R) (by simp[mh,mf,aj,aL,List.lookup,mV,bE])]
  have cx:=yo (h:=mh b pri ori stl (pen.map .int) R) (h1:=mh b pri ori (stl.filter λkv=>decide (kv.1≠.inl p)) (pen.map .int) R) (ix:=[none,some 1,some 0]) (e:=oM (ba (aj c.ck.cl "stalls") (aa 0)) (aa 1)) (w:=.keys) (g:=nName 0) (c:=mB (ay (c6 false) (ah (ba (aj c.ck.cl "prices") (aa 2)) (aa 0)) (aa 1))) (a:=aa 0) (σ:=[some (.ref b.length),some (.int p)]) (n:=b.length+(r+5)) ths ae (λt=>[some (ae t),some (.int p),some (.ref b.length)]) (λ_=>true) ae
   (by simp[oM,mh,mf,aj,aL,List.lookup,aZ,Ac,ic,h1]) (by simp[mh,hr]) (by lia)
   (λx _ σ' hσ l=>by rcases hσ with rfl | ⟨y,_,rfl⟩<;>simp[cf])
   (λx hx l=>by simp[mh,mf,aj,aL,List.lookup,aZ,bP,(hk x hx).1,(hk x hx).2])
   (λx _ _ l=>by simp)
  rw[Jk cx,List.filter_eq_self.mpr (λ_ _=>rfl)]
  simp[mh]
 unfold nZ c5 dG
 rw[run]
 show HK _ _ _=_
 have ln:(mh b pri ori stl ((pen++[p]).map .int) R).length=b.length+(R.length+5):=by simp[mh]
 have ln2:(mh b pri ori (stl.filter λkv=>decide (kv.1≠.inl p)) (pen.map .int) R).length=b.length+(R.length+5):=by simp[mh]
 rw[yD (u':=.lst (ths.map ae))]
 ·rw[ln,<-ln2,rY]
 ·refine .za (us:=ths.map ae) (by rw[ln];exact abl _) (by rw[<-ln2];simp) (dB.dE (bw.mpr λu hu=>by obtain⟨t,_,rfl⟩:=abu.mp hu;exact dz _))
 ·refine⟨by rw[aby,ln,ln2];lia,λi hi=>?_⟩
  rw[ln]at hi ⊢
  rw[abq (by rw[ln2];exact hi)]
  by_cases i1:i<b.length
  ·exact .inl (by unfold mh;rw[abq i1,abq i1])
  ·obtain⟨j,rfl⟩:∃ j,i=b.length+j:=⟨i-b.length,by lia⟩
   unfold mh
   rw[pF,pF]
   match j with
   |0=>exact .inl rfl
   |1=>exact .inl rfl
   |2=>exact .inl rfl
   |3=>
    refine .inr ⟨_,rfl,?_⟩
    refine bw.mpr λu hu=>?_
    simp only[lS,abu,List.mem_filter]at hu
    obtain⟨x,⟨hx,_⟩,rfl⟩:=hu
    obtain⟨j,e,hj⟩:=ls x hx
    rw[e];exact .ref (by lia)
   |4=>
    refine .inr ⟨_,rfl,?_⟩
    refine bw.mpr λu hu=>?_
    simp only[lS,abu]at hu
    obtain⟨x,_,rfl⟩:=hu
    exact .int
   |j+5=>exact .inl rfl
end
section
variable {h0 bb R:MH}{v d N i L:Nat}{X W:Nat->NK.KD}{pri ori:List (NK.KD×U)}{stl:List (Key×U)}{pen:List Int}{pu:List U}{th:NK.KD}{p:Int}{o s w:U}{r:Nat}{ts:List U}{ths:List NK.KD}{E:MO}
theorem Ch.ext (C:Ch h0 v d N X W)(g):Ch (h0++g) v d N X W:=
 ⟨C.kx,C.kw,C.ks,C.inj,C.wr,C.hd,C.hn,λg' i hi=>by rw[aca];exact C.first _ i hi,λg' i h1 hi=>by rw[aca];exact C.next _ i h1 hi,λg'=>by rw[aca];exact C.front _⟩
def eh (bb:MH)(E:MO)(pri ori:List (NK.KD×U))(stl:List (Key×U))(pen:List U)(R:MH):MH:=bb++(E::.ins c.cm (mf (bb.length+1))::.dT pri::.dT ori::.dK stl::.lst pen::R)
theorem tD:mh (bb++[E]) pri ori stl pu R=eh bb E pri ori stl pu R:=by simp[eh,mh]
theorem rE (kt:cL (ae th)=some th)(f1:th∉pri.map (·.1))(f2:th∉ori.map (·.1))(f3:(Sum.inl p:Key)∉stl.map (·.1))(hp:∀ q∈pen,q<=p)(hl:pen.length<=100)(l1:pri.length<=1000)(l2:ori.length<=1000)(l3:stl.length<=1000) :
  d9 [.ref (bb.length+1),ae th,.int p,o] (eh bb E pri ori stl (pen.map .int) R)=some (.aq,eh bb E (pri++[(th,.int p)]) (ori++[(th,o)]) (stl++[(.inl p,.ref (bb.length+(R.length+6)))]) ((p::pen).map .int) (R++[.lst [ae th]])):=by
 have e:=oS (b:=bb++[E]) (R:=R) (o:=o) kt f1 f2 f3 hp hl l1 l2 l3
 rw[tD,tD,show(bb++[E]).length=bb.length+1 by simp]at e
 rw[e,show bb.length+1+(R.length+5)=bb.length+(R.length+6) by lia]
theorem xf (kt:cL (ae th)=some th)(f1:th∉pri.map (·.1))(f2:th∉ori.map (·.1))(f3:b6 stl (.inl p)=some (.ref (bb.length+(r+6))))(hr:R[r]?=some (.lst ts))(l1:pri.length<=1000)(l2:ori.length<=1000)(l3:ts.length<=1000) :
  d9 [.ref (bb.length+1),ae th,.int p,o] (eh bb E pri ori stl pu R)=some (.aq,eh bb E (pri++[(th,.int p)]) (ori++[(th,o)]) stl pu (R.set r (.lst (ts++[ae th])))):=by
 have YS:b6 stl (.inl p)=some (.ref ((bb++[E]).length+(r+5))):=by rw[f3];congr 2;simp;lia
 have e:=zd (b:=bb++[E]) (R:=R) (o:=o) (pu:=pu) kt f1 f2 YS hr l1 l2 l3
 rw[tD,tD,show(bb++[E]).length=bb.length+1 by simp]at e
 exact e
theorem R7 (h1:b6 stl (.inl p)=some (.ref (bb.length+(r+6))))(hr:R[r]?=some (.lst (ths.map ae)))(hl:ths.length<=1000)(hk:∀ t∈ths,cL (ae t)=some t/\b6 pri t=some (.int p))(ls:∀ x∈stl,∃ j,x.2=.ref (bb.length+(j+6))/\j<R.length) :
  nZ [.ref (bb.length+1)] (eh bb E pri ori stl ((pen++[p]).map .int) R)=some (.lst (ths.map ae),eh bb E pri ori (stl.filter λkv=>decide (kv.1≠.inl p)) (pen.map .int) R):=by
 have Uw:b6 stl (.inl p)=some (.ref ((bb++[E]).length+(r+5))):=by rw[h1];congr 2;simp;lia
 have e:=A0 (b:=bb++[E]) (ori:=ori) (pen:=pen) Uw hr hl hk (λx hx=>by
  obtain⟨j,e,hj⟩:=ls x hx
  exact⟨j,by rw[e];congr 1;simp;lia,hj⟩)
 rw[tD,tD,show(bb++[E]).length=bb.length+1 by simp]at e
 exact e
noncomputable def ef (v L:Nat):List (Str×U):=[("view",.ref v),("market",.ref (L+1)),("stands",.ref (L+6)),("ways",.ref (L+7))]
abbrev cu:MF:=fw c.ck c.cm d9
theorem xB (hn:me (ae q)=false)(e:d9 [.ref (bb.length+1),ae q,.int p,.tup [.tup [],s,w]] (eh bb (.ins c.ce (ef v bb.length)) pri ori stl pu R)=some (.aq,H')) :
  cu [.ref bb.length,k,.lst [zv q],.int p,s,w] (eh bb (.ins c.ce (ef v bb.length)) pri ori stl pu R)=some (.aq,H'):=by
 refine eR (σ:=[some (.ref bb.length),some k,some (.lst [zv q]),some (.int p),some s,some w,some (zv q),some (ae q)]) ?_
 simp only[eh,ef,mf]at e
 simp[dc,eh,ef,mf,zv,aj,aL,List.lookup,aN,fF,d7,hn,e]
theorem xC (e:d9 [.ref (bb.length+1),ae (.tup [k,q]),.int p,.tup [.tup [],s,w]] (eh bb (.ins c.ce (ef v bb.length)) pri ori stl pu R)=some (.aq,H')) :
  cu [.ref bb.length,ae k,.lst [ft (ae q)],.int p,s,w] (eh bb (.ins c.ce (ef v bb.length)) pri ori stl pu R)=some (.aq,H'):=by
 refine eR (σ:=[some (.ref bb.length),some (ae k),some (.lst [ft (ae q)]),some (.int p),some s,some w,some (ft (ae q)),some (.tup [ae k,ae q])]) ?_
 have ek:ae (.tup [k,q])=.tup [ae k,ae q]:=by simp[ae,cQ]
 rw[ek]at e
 simp only[eh,ef,mf]at e
 simp[dc,eh,ef,mf,ft,aj,aL,List.lookup,aN,fF,d7,e]
end
noncomputable def sd (X:Nat->NK.KD)(L k:Nat):List (NK.KD×U):=(List.range k).map λi=>(X i,.ref (L+(2*i+8)))
noncomputable def wl (X:Nat->NK.KD)(L k:Nat):List (NK.KD×U):=(List.range k).map λi=>(X i,.ref (L+(2*i+9)))
section
variable {bb P Q Q':MH}{v d N i L:Nat}{X W:Nat->NK.KD}{pri ori I0 IP:List (NK.KD×U)}{stl JD:List (Key×U)}{pu S7:List U}{R:MH}{a b:Int}{H':MH}
theorem Ch.xr (C:Ch bb v d N X W)(hi:i<N):b6 (sd X L N) (X i)=some (.ref (L+(2*i+8))):=
 dH (f:=X) (g:=λi=>U.ref (L+(2*i+8))) (C.nd (abl _)) (by simpa using hi)
theorem Ch.i7 (C:Ch bb v d N X W)(hi:i<N):b6 (wl X L N) (X i)=some (.ref (L+(2*i+9))):=
 dH (f:=X) (g:=λi=>U.ref (L+(2*i+9))) (C.nd (abl _)) (by simpa using hi)
def eo (v L:Nat):MO:=.ins c.ce (ef v L)
abbrev tI:MF:=jL c.ck c.ce nextM cu
theorem Qr (C:Ch bb v d N X W)(h1:1<=i)(hi:i<N)(kk:cL (ae (.tup [X i,W i]))=some (.tup [X i,W i]))(p1:b6 pri (bH X d i)=some (.int a))(p2:b6 pri (.tup [X i,W i])=some (.int b))
  (e:cu [.ref bb.length,ae (X (par d i)),.lst [F2 X W d N i],.int (a+b),ae (bH X d i),ae (W i)] (eh bb (eo v bb.length) pri ori stl pu R)=some (.aq,H')) :
  tI [.ref bb.length,ae (bH X d i),ae (W i)] (eh bb (eo v bb.length) pri ori stl pu R)=some (.aq,H'):=by
 refine eR (σ:=[some (.ref bb.length),some (ae (bH X d i)),some (ae (W i)),some (.int (a+b))]) ?_
 have ek:ae (.tup [X i,W i])=.tup [ae (X i),ae (W i)]:=by simp[ae,cQ]
 have ks:=C.ks i h1 hi
 have nx:=λg=>C.next g i h1 hi
 rw[ek]at kk
 rw[i4]at *
 simp only[eh,eo,ef,mf,ab4,Nat.reduceAdd]at e
 simp[ab4,jI,eh,eo,ef,mf,aj,aL,List.lookup,aZ,bP,ks,kk,p1,p2,nx,e]
abbrev ff:MF:=eX c.ck c.ce tI
abbrev hX:MF:=fS c.ck c.ce tI
theorem Hh (hP:P.length=2*i):(P++(o::o'::Q))[2*i]?=some o:=by rw[abt (by lia),hP];simp
theorem Hi (hP:P.length=2*i):(P++(o::o'::Q))[2*i+1]?=some o':=by rw[abt (by lia),hP];simp
theorem Lb (hP:P.length=2*i):(P++(o::o'::Q)).set (2*i) q=P++(q::o'::Q):=by rw[abN _ _ (by lia),hP];simp
theorem Lc (hP:P.length=2*i):(P++(o::o'::Q)).set (2*i+1) q=P++(o::q::Q):=by rw[abN _ _ (by lia),hP];simp
theorem JB (C:Ch bb v d N X W)(hi:i<N)(hP:P.length=2*i):ff [.ref bb.length,ae (bH X d i)] (eh bb (eo v bb.length) pri ori stl pu (.dT (sd X bb.length N)::.dT (wl X bb.length N)::(P++(.lst []::.lst []::Q)))) =
  some (.aq,eh bb (eo v bb.length) pri ori stl pu (.dT (sd X bb.length N)::.dT (wl X bb.length N)::(P++(.lst [ae (bH X d i)]::.lst []::Q)))):=by
 refine eR (σ:=[some (.ref bb.length),some (ae (bH X d i)),none]) ?_
 have s1:=C.xr (L:=bb.length) hi
 have w1:=C.i7 (L:=bb.length) hi
 have kx:=C.kx i hi
 rw[i4]at *
 simp[ab4,abV,abB,cW,eh,eo,ef,mf,aj,aL,List.lookup,aZ,bP,kx,s1,w1,bE,Hh hP,Hi hP,Lb hP,aV,aN,fF,mj]
theorem JC (C:Ch bb v d N X W)(hi:i<N)(hP:P.length=2*i)
  (e:tI [.ref bb.length,ae (bH X d i),ae (W i)] (eh bb (eo v bb.length) pri ori stl pu (.dT (sd X bb.length N)::.dT (wl X bb.length N)::(P++(.lst [ae (bH X d i)]::.lst [ae (W i)]::Q))))=some (.aq,eh bb (eo v bb.length) I0 IP JD S7 (.dT (sd X bb.length N)::.dT (wl X bb.length N)::(P++(.lst [ae (bH X d i)]::.lst [ae (W i)]::Q'))))) :
  ff [.ref bb.length,ae (bH X d i)] (eh bb (eo v bb.length) pri ori stl pu (.dT (sd X bb.length N)::.dT (wl X bb.length N)::(P++(.lst []::.lst [ae (W i)]::Q)))) =
  some (.aq,eh bb (eo v bb.length) I0 IP JD S7 (.dT (sd X bb.length N)::.dT (wl X bb.length N)::(P++(.lst [ae (bH X d i)]::.lst [ae (W i)]::Q')))):=by
 refine eR (σ:=[some (.ref bb.length),some (ae (bH X d i)),some (ae (W i))]) ?_
 have s1:=C.xr (L:=bb.length) hi
 have w1:=C.i7 (L:=bb.length) hi
 have kx:=C.kx i hi
 rw[i4]at *
 simp only[eh,eo,ef,mf,ab4,Nat.reduceAdd]at e
 simp[ab4,abV,abB,cW,eh,eo,ef,mf,aj,aL,List.lookup,aZ,bP,kx,s1,w1,bE,Hh hP,Hi hP,Lb hP,aV,aN,fF,mj,e]
theorem Sf (C:Ch bb v d N X W)(hi:i<N)(hP:P.length=2*i):hX [.ref bb.length,ae (X i),ae (W i)] (eh bb (eo v bb.length) pri ori stl pu (.dT (sd X bb.length N)::.dT (wl X bb.length N)::(P++(.lst []::.lst []::Q)))) =
  some (.aq,eh bb (eo v bb.length) pri ori stl pu (.dT (sd X bb.length N)::.dT (wl X bb.length N)::(P++(.lst []::.lst [ae (W i)]::Q)))):=by
 refine eR (σ:=[some (.ref bb.length),some (ae (X i)),some (ae (W i)),none]) ?_
 have s1:=C.xr (L:=bb.length) hi
 have w1:=C.i7 (L:=bb.length) hi
 have kx:=C.kx i hi
 simp[ab4,abV,abB,dk,eh,eo,ef,mf,aj,aL,List.lookup,aZ,bP,kx,s1,w1,bE,Hh hP,Hi hP,Lc hP,aV,aN,fF,mj]
theorem Sg (C:Ch bb v d N X W)(hi:i<N)(hP:P.length=2*i)
  (e:tI [.ref bb.length,ae (bH X d i),ae (W i)] (eh bb (eo v bb.length) pri ori stl pu (.dT (sd X bb.length N)::.dT (wl X bb.length N)::(P++(.lst [ae (bH X d i)]::.lst [ae (W i)]::Q))))=some (.aq,eh bb (eo v bb.length) I0 IP JD S7 (.dT (sd X bb.length N)::.dT (wl X bb.length N)::(P++(.lst [ae (bH X d i)]::.lst [ae (W i)]::Q'))))) :
  hX [.ref bb.length,ae (X i),ae (W i)] (eh bb (eo v bb.length) pri ori stl pu (.dT (sd X bb.length N)::.dT (wl X bb.length N)::(P++(.lst [ae (bH X d i)]::.lst []::Q)))) =
  some (.aq,eh bb (eo v bb.length) I0 IP JD S7 (.dT (sd X bb.length N)::.dT (wl X bb.length N)::(P++(.lst [ae (bH X d i)]::.lst [ae (W i)]::Q')))):=by
 refine eR (σ:=[some (.ref bb.length),some (ae (X i)),some (ae (W i)),some (ae (bH X d i))]) ?_
 have s1:=C.xr (L:=bb.length) hi
 have w1:=C.i7 (L:=bb.length) hi
 have kx:=C.kx i hi
 simp only[eh,eo,ef,mf,ab4,Nat.reduceAdd]at e
 simp[ab4,abV,abB,dk,eh,eo,ef,mf,aj,aL,List.lookup,aZ,bP,kx,s1,w1,bE,Hh hP,Hi hP,Lc hP,aV,aN,fF,mj,e]
end
inductive Th where
 |s (g:Nat) | w (g:Nat)
def Th.key (X W:Nat->NK.KD)(d:Nat):Th->NK.KD
 |.s g=>bH X d g
 |.w g=>.tup [X g,W g]
noncomputable def Th.aU (d N:Nat):Th->Int
 |.s g=>if g<=d+1 then 1 else(g:Int)-d
 |.w g=>if d<g then 1 else(N:Int)-g
def Th.ok (N:Nat):Th->Prop
 |.s g=>1<=g/\g<N
 |.w g=>g<N
noncomputable def pV (d N i:Nat):Th:=if i<=d/\i+1<N then .s (i+1) else .w i
def pri (X W:Nat->NK.KD)(d N:Nat)(ts:List Th):List (NK.KD×U):=ts.map λt=>(t.key X W d,.int (t.aU d N))
noncomputable def lq (f g:Nat->List U)(k:Nat):MH:=(List.range k).flatMap λi=>[.lst (f i),.lst (g i)]
section
variable {f g:Nat->List U}{k i:Nat}
theorem iz:lq f g (k+1)=lq f g k++[.lst (f k),.lst (g k)]:=by simp[lq,abZ]
theorem gq:(lq f g k).length=2*k:=by
 induction k with
 |zero=>rfl
 |succ k ih=>rw[iz,aby,ih];simp;lia
theorem wM (hf:∀ i,i<k->f i=f' i)(hg:∀ i,i<k->g i=g' i):lq f g k=lq f' g' k:=by
 induction k with
 |zero=>rfl
 |succ k ih=>rw[iz,iz,ih (λi h=>hf i (by lia)) (λi h=>hg i (by lia)),hf k (by lia),hg k (by lia)]
theorem EB (f g:Nat->List U)(hi:i<k):∃ Q,lq f g k=lq f g i++(.lst (f i)::.lst (g i)::Q)/\∀ x y,lq (λj=>if j=i then x else f j) (λj=>if j=i then y else g j) k=lq f g i++(.lst x::.lst y::Q):=by
 induction k with
 |zero=>lia
 |succ k ih=>
  by_cases e:i=k
  ·subst e
   refine⟨[],by rw[iz],λx y=>?_⟩
   have e2:lq (λj=>if j=i then x else f j) (λj=>if j=i then y else g j) i=lq f g i:=wM (λj hj=>abo (by lia)) (λj hj=>abo (by lia))
   rw[iz,e2];simp
  ·obtain⟨B,b1,b2⟩:=ih (by lia)
   refine⟨B++[.lst (f k),.lst (g k)],by rw[iz,b1];simp,λx y=>?_⟩
   rw[iz,b2];simp[show k≠i by lia]
end
section
variable {bb:MH}{v d N i k L:Nat}{X W:Nat->NK.KD}{t u:Th}{ts:List Th}
theorem oI (C:Ch bb v d N X W)(kk:∀ i,i<N->cL (ae (.tup [X i,W i]))=some (.tup [X i,W i]))(h:t.ok N):cL (ae (t.key X W d))=some (t.key X W d):=by
 cases t with
 |s g=>exact C.ks g h.1 h.2
 |w g=>exact kk g h
theorem As (C:Ch bb v d N X W)(h:t.ok N)(h':u.ok N)(e:t.key X W d=u.key X W d):t=u:=by
 cases t<;>cases u<;>simp only[Th.key,bH,NK.KD.tup.injEq,List.cons.injEq]at e
 ·rename_i a b
  rw[C.inj a b h.2 h'.2 e.2.1]
 ·simp at e
 ·simp at e
 ·rename_i a b
  rw[C.inj a b h h' e.1]
theorem rN (C:Ch bb v d N X W)(nd:ts.Nodup)(ok:∀ x∈ts,x.ok N)(m:t∈ts):b6 (pri X W d N ts) (t.key X W d)=some (.int (t.aU d N)):=by
 refine dH (f:=λt:Th=>t.key X W d) (g:=λt=>U.int (t.aU d N)) ?_ m
 refine ace.mpr λa b ha hb hab e=>?_
 simp only[ab1]at ha hb
 simp only[List.getElem_map]at e
 have:=As C (ok _ (List.getElem_mem ha)) (ok _ (List.getElem_mem hb)) e
 exact ace.mp nd a b ha hb hab this
theorem AH (C:Ch bb v d N X W)(ok:∀ x∈ts,x.ok N)(h:t.ok N)(m:t∉ts):t.key X W d∉(ts.map λt=>t.key X W d):=by
 intro hm
 obtain⟨x,hx,e⟩:=abu.mp hm
 exact m (As C (ok x hx) h e▸hx)
theorem xn:(pri X W d N ts).map (·.1)=ts.map λt=>t.key X W d:=by simp[pri,aci]
theorem xo:pri X W d N (ts++[t])=pri X W d N ts++[(t.key X W d,.int (t.aU d N))]:=by simp[pri]
theorem Jp:sd X L (k+1)=sd X L k++[(X k,.ref (L+(2*k+8)))]:=by simp[sd,abZ]
theorem JY:wl X L (k+1)=wl X L k++[(X k,.ref (L+(2*k+9)))]:=by simp[wl,abZ]
theorem Ch.NZ (C:Ch bb v d N X W)(hk:k<N):X k∉(sd X L k).map (·.1):=by
 simp only[sd,abT,abu,abQ]
 rintro⟨j,hj,e⟩
 have:=C.inj j k (by lia) hk e
 lia
theorem Ch.OQ (C:Ch bb v d N X W)(hk:k<N):X k∉(wl X L k).map (·.1):=by
 simp only[wl,abT,abu,abQ]
 rintro⟨j,hj,e⟩
 have:=C.inj j k (by lia) hk e
 lia
end
section
variable {B:MH}{v d N i k T0:Nat}{X W:Nat->NK.KD}
def Sv:MS:=ag (az (ba (aj c.ck.cl "stands") (aa 0)) (aa 3) (bZ af)) (az (ba (aj c.ck.cl "ways") (aa 0)) (aa 3) (bZ af))
def Uh:MS:=aK (bJ c.ce "offer_steps" 6 cu (aa 0) (ab (aa 3) (ab (au 2 firstM (ab (aa 1) (ab (aa 3) af))) (ab (mC (.int 1)) (ab (mC .aq) (ab (mC .aq) af))))))
noncomputable def nn:Nat->List U:=λ_=>[]
theorem OM (C:Ch B v d N X W)(hi:i<N):Sv [some (.ref B.length),some (.ref v),some (.ref T0),some (ae (X i))] (eh B (eo v B.length) [] [] [] [] (.dT (sd X B.length i)::.dT (wl X B.length i)::lq nn nn i)) =
  some (.nx [some (.ref B.length),some (.ref v),some (.ref T0),some (ae (X i))],eh B (eo v B.length) [] [] [] [] (.dT (sd X B.length (i+1))::.dT (wl X B.length (i+1))::lq nn nn (i+1))):=by
 have hn:=C.hn
 have l1:(sd X B.length i).length<1000000:=by simp[sd];lia
 have l2:(wl X B.length i).length<1000000:=by simp[wl];lia
 have n1:=C.NZ (L:=B.length) hi
 have n2:=C.OQ (L:=B.length) hi
 rw[iz,Jp,JY]
 have hl:(lq nn nn i).length=2*i:=gq
 generalize lq nn nn i=P at hl ⊢
 have a8:B.length+(P.length+8)=B.length+(2*i+8):=by lia
 have a9:B.length+(P.length+9)=B.length+(2*i+9):=by lia
 have s1:az (ba (aj c.ck.cl "stands") (aa 0)) (aa 3) (bZ af) [some (.ref B.length),some (.ref v),some (.ref T0),some (ae (X i))] (eh B (eo v B.length) [] [] [] [] (.dT (sd X B.length i)::.dT (wl X B.length i)::P))=some (.nx [some (.ref B.length),some (.ref v),some (.ref T0),some (ae (X i))],eh B (eo v B.length) [] [] [] [] (.dT (sd X B.length i++[(X i,.ref (B.length+(2*i+8)))])::.dT (wl X B.length i)::(P++[.lst []]))):=by
  generalize sd X B.length i=S1 at l1 n1 ⊢
  simp[ab4,eh,eo,ef,mf,aj,aL,List.lookup,aZ,ed,C.kx i hi,cE n1,l1,a8]
 unfold Sv
 rw[ai s1]
 generalize wl X B.length i=W1 at l2 n2 ⊢
 simp[ab4,eh,eo,ef,mf,aj,aL,List.lookup,aZ,ed,C.kx i hi,cE n2,l2,a9,nn]
def f6 (d N i:Nat):List Th:=(List.range i).map (pV d N)
def oT (X W:Nat->NK.KD)(d N i:Nat):List (NK.KD×U):=(f6 d N i).map λt=>(t.key X W d,.tup [.tup [],.aq,.aq])
theorem sh:f6 d N (i+1)=f6 d N i++[pV d N i]:=by simp[f6,abZ]
theorem Gv (hd:d<N)(hi:i<N):(pV d N i).ok N:=by
 unfold pV;split
 ·exact⟨by lia,by lia⟩
 ·exact hi
theorem uk (hd:d<N)(hi:i<N):(pV d N i).aU d N=1:=by
 unfold pV;split
 ·simp only[Th.aU];rw[abr (by lia)]
 ·simp only[Th.aU];split
  ·rfl
  ·lia
theorem vn (hd:d<N)(hk:k<=N):∀ x∈f6 d N k,x.ok N:=by
 intro x hx
 obtain⟨j,hj,rfl⟩:=abu.mp hx
 exact Gv hd (by have:=abQ.mp hj;lia)
theorem A4 {a b:Nat}(e:pV d N a=pV d N b):a=b:=by
 unfold pV at e
 split at e<;>split at e<;>simp at e<;>lia
theorem o9:(f6 d N k).Nodup:=by
 refine ace.mpr λa b ha hb hab e=>?_
 simp[f6]at e
 have:=A4 e;lia
theorem JM:pV d N k∉f6 d N k:=by
 intro m
 obtain⟨j,hj,e⟩:=abu.mp m
 have:=abQ.mp hj
 have:=A4 e;lia
noncomputable def stI (L N i:Nat):List (Key×U):=if i=0 then[] else[(.inl 1,.ref (L+(2*N+8)))]
noncomputable def vD (i:Nat):List Int:=if i=0 then[] else[1]
def ou (X W:Nat->NK.KD)(d N i:Nat):MH:=if i=0 then[] else[.lst ((f6 d N i).map λt=>ae (t.key X W d))]
theorem DO {k:NK.KD}{pri ori:List (NK.KD×U)}{stl:List (Key×U)}{pu:List U}{R H':MH}{s w:U}{p:Int}(hk:i<N->k=X i)(hi:i<N)(e:d9 [.ref (B.length+1),ae ((pV d N i).key X W d),.int p,.tup [.tup [],s,w]] (eh B (eo v B.length) pri ori stl pu R)=some (.aq,H')) :
  cu [.ref B.length,ae (X i),.lst [F1 X W d N i],.int p,s,w] (eh B (eo v B.length) pri ori stl pu R)=some (.aq,H'):=by
 unfold F1
 unfold pV at e
 split at e
 ·rename_i h
  rw[abr h]
  exact xB (by show me (ae (bH X d (i+1)))=false;rw[i4];rfl) e
 ·rename_i h
  rw[abo h]
  exact xC e
theorem ON (C:Ch B v d N X W)(kk:∀ i,i<N->cL (ae (.tup [X i,W i]))=some (.tup [X i,W i]))(hi:i<N):Uh [some (.ref B.length),some (.ref v),some (.ref T0),some (ae (X i))] (eh B (eo v B.length) (pri X W d N (f6 d N i)) (oT X W d N i) (stI B.length N i) ((vD i).map .int) (.dT (sd X B.length N)::.dT (wl X B.length N)::(lq nn nn N++ou X W d N i))) =
  some (.nx [some (.ref B.length),some (.ref v),some (.ref T0),some (ae (X i))],eh B (eo v B.length) (pri X W d N (f6 d N (i+1))) (oT X W d N (i+1)) (stI B.length N (i+1)) ((vD (i+1)).map .int) (.dT (sd X B.length N)::.dT (wl X B.length N)::(lq nn nn N++ou X W d N (i+1)))):=by
 have hn:=C.hn
 have hd:=C.hd
 have ok:=Gv (d:=d) hd hi
 have kt:=oI C kk ok
 have f1:=AH C (vn hd (Nat.le_of_lt hi)) ok JM
 have f2:(pV d N i).key X W d∉(oT X W d N i).map (·.1):=by
  have:(oT X W d N i).map (·.1)=(f6 d N i).map λt=>t.key X W d:=by simp[oT,aci]
  rw[this];exact f1
 rw[<-xn (N:=N)]at f1
 have l1:(pri X W d N (f6 d N i)).length<=1000:=by simp[pri,f6];lia
 have l2:(oT X W d N i).length<=1000:=by simp[oT,f6];lia
 have e1:pri X W d N (f6 d N (i+1))=pri X W d N (f6 d N i)++[((pV d N i).key X W d,.int 1)]:=by rw[sh,xo,uk hd hi]
 have e2:oT X W d N (i+1)=oT X W d N i++[((pV d N i).key X W d,.tup [.tup [],.aq,.aq])]:=by simp[oT,sh]
 have fi:=λg=>C.first g i hi
 have of:d9 [.ref (B.length+1),ae ((pV d N i).key X W d),.int 1,.tup [.tup [],.aq,.aq]] (eh B (eo v B.length) (pri X W d N (f6 d N i)) (oT X W d N i) (stI B.length N i) ((vD i).map .int) (.dT (sd X B.length N)::.dT (wl X B.length N)::(lq nn nn N++ou X W d N i)))=some (.aq,eh B (eo v B.length) (pri X W d N (f6 d N (i+1))) (oT X W d N (i+1)) (stI B.length N (i+1)) ((vD (i+1)).map .int) (.dT (sd X B.length N)::.dT (wl X B.length N)::(lq nn nn N++ou X W d N (i+1)))):=by
  rw[e1,e2]
  by_cases z:i=0
  ·subst z
   have o:=rE (bb:=B) (E:=eo v B.length) (R:=.dT (sd X B.length N)::.dT (wl X B.length N)::lq nn nn N) (stl:=[]) (pen:=[]) (p:=1) (o:=.tup [.tup [],.aq,.aq]) kt f1 f2 (by simp) (by simp) (by simp) l1 l2 (by simp)
   have hl:(lq nn nn N).length=2*N:=gq
   simp only[stI,vD,ou,abr,acj,Nat.zero_add,Nat.one_ne_zero,acb]
   rw[o]
   simp[hl,f6,abZ]
  ·have hl:(lq nn nn N).length=2*N:=gq
   have hr:(MO.dT (sd X B.length N)::.dT (wl X B.length N)::(lq nn nn N++ou X W d N i))[2*N+2]?=some (.lst ((f6 d N i).map λt=>ae (t.key X W d))):=by
    simp only[ou,abo z,abB]
    rw[abt (by lia),hl];simp
   have o:=xf (bb:=B) (E:=eo v B.length) (R:=.dT (sd X B.length N)::.dT (wl X B.length N)::(lq nn nn N++ou X W d N i)) (stl:=stI B.length N i) (pu:=(vD i).map .int) (p:=1) (r:=2*N+2) (o:=.tup [.tup [],.aq,.aq]) kt f1 f2 (by simp[stI,z,b6]) hr l1 l2 (by simp[f6];lia)
   rw[o]
   simp only[stI,vD,ou,abo z,Nat.add_one_ne_zero,acb,List.set_cons_succ]
   rw[abN _ _ (by lia),hl]
   simp[sh]
 have os:=DO (B:=B) (v:=v) (k:=X i) (λ_=>rfl) hi of
 generalize eh B (eo v B.length) (pri X W d N (f6 d N (i+1))) (oT X W d N (i+1)) (stI B.length N (i+1)) ((vD (i+1)).map .int) (.dT (sd X B.length N)::.dT (wl X B.length N)::(lq nn nn N++ou X W d N (i+1)))=H' at os ⊢
 simp only[eh,eo]at os
 simp[Uh,eh,eo,aL,ef,List.lookup,fi]
 simp only[ef]at os
 simp[os]
end
end D51
namespace S
open PySem L2
variable [kf:KF]
theorem tF {e:ME}{g:MG}{b:MS}{σ σ':bG}{H H2:MH}{T:Nat}{kvs:List (NK.KD×U)}(he:e σ H=some (.ref T,H))(hT:H[T]?=some (.dT kvs))(hf:df (cO .keys e) g b σ H=some (.nx σ',H2))(h2:H2[T]?=some (.fT kvs)) :
  aN (aD e) .keys e g b σ H=some (.nx σ',H2.set T (.dT kvs)):=by
 unfold aN
 rw[nW]
 have n:df (aD e) g b σ H=none:=by
  rw[qM,fG,he]
  show(fF H (.ref T)).bind _=none
  simp[fF,hT]
 rw[n,KQ]
 unfold iA
 rw[he]
 show(df _ _ _ _ _).bind _=_
 rw[hf]
 simp[rk,hT,h2]
end S
namespace D51
open PySem L2 S
variable [kf:KF][c:Cw]
section
variable {bb:MH}{N i T0:Nat}{X:Nat->NK.KD}{E:MO}{pri ori:List (NK.KD×U)}{stl:List (Key×U)}{pu:List U}{R:MH}{kvs:List (NK.KD×U)}
theorem Kc {t:Nat}(ht:t<bb.length):(eh bb E pri ori stl pu R)[t]?=bb[t]?:=by unfold eh;rw[abq ht]
theorem yt {t:Nat}{o:MO}(ht:t<bb.length):(eh bb E pri ori stl pu R).set t o=eh (bb.set t o) E pri ori stl pu R:=by
 unfold eh;rw[acB _ _ ht,ab8]
structure Tb (bb:MH)(T0 N:Nat)(X:Nat->NK.KD)(kvs:List (NK.KD×U)):Prop where
 at':bb[T0]?=some (.dT kvs)
 ks:kvs.map (·.1)=(List.range N).map X
theorem Tb.lt (t:Tb bb T0 N X kvs):T0<bb.length:=(abn.mp t.at').1
theorem Tb.us (t:Tb bb T0 N X kvs):kvs.map (iP .keys)=(List.range N).map λi=>ae (X i):=by
 have:kvs.map (iP .keys)=(kvs.map (·.1)).map ae:=by rw[abT];rfl
 rw[this,t.ks,abT];rfl
theorem gK {t:Nat}{o o':MO}(e:bb[t]?=some o):(bb.set t o').set t o=bb:=by
 rw[List.set_set]
 apply List.ext_getElem?
 intro i
 by_cases hi:t=i
 ·subst hi;rw[abR (abn.mp e).1,e]
 ·rw[abF hi]
theorem tG (t:Tb bb T0 N X kvs)(hN:N<=100){b:MS}{σ0:Option U->bG}{S0:Nat->MH->MH}{j jn:Nat}(hv:∀ o H,aa j (σ0 o) H=some (.ref T0,H))(hg:∀ o u H,nName jn u (σ0 o) H=some (σ0 (some u),H))(lo:∀ i bb',bb'.length=bb.length->∀ o,(S0 i bb')[T0]?=bb'[T0]?/\(S0 i bb').set T0 o=S0 i (bb'.set T0 o))
  (turn:∀ i,i<N->b (σ0 (some (ae (X i)))) (S0 i (bb.set T0 (.fT kvs)))=some (.nx (σ0 (some (ae (X i)))),S0 (i+1) (bb.set T0 (.fT kvs)))) {o:Option U} :
  ∃ o',aN (aD (aa j)) .keys (aa j) (nName jn) b (σ0 o) (S0 0 bb)=some (.nx (σ0 o'),S0 N bb):=by
 have hl:=t.lt
 obtain⟨f,h',e1,o',rfl,rfl⟩:=ei (g:=nName jn) (b:=b) (mi:=cO .keys (aa j)) (it:=lQ (kvs.map (iP .keys))) (us:=kvs.map (iP .keys)) (σ:=σ0 o) (h:=S0 0 bb) (h1:=S0 0 (bb.set T0 (.fT kvs)))
  (λi σ H=>∃ o,σ=σ0 o/\H=S0 i (bb.set T0 (.fT kvs))) (λf H=>∃ o,f=.nx (σ0 o)/\H=S0 N (bb.set T0 (.fT kvs)))
  (by
   unfold cO
   rw[hv]
   simp[(lo 0 bb rfl (.fT kvs)).1,(lo 0 bb rfl (.fT kvs)).2,t.at'])
  (λi H=>rfl) (by rw[t.us];simp;lia) ⟨o,rfl,rfl⟩
  (λi u σ H hu ⟨o,hσ,hH⟩=>by
   subst hσ hH
   rw[t.us]at hu
   have hi:i<N:=by
    have:=(abn.mp hu).1
    simpa using this
   have eu:u=ae (X i):=by simp[ab3 hi]at hu;exact hu.symm
   subst eu
   exact⟨_,_,.nx (σ0 (some (ae (X i)))),_,hg o _ _,turn i hi,_,rfl,rfl⟩)
  (λσ H ⟨o,hσ,hH⟩=>⟨o,by rw[hσ],by rw[hH,t.us];simp⟩)
 refine⟨o',?_⟩
 have l1:=lo 0 bb rfl (.fT kvs)
 have l2:=lo N (bb.set T0 (.fT kvs)) (by simp) (.dT kvs)
 have at2:(S0 N (bb.set T0 (.fT kvs)))[T0]?=some (.fT kvs):=by rw[l2.1,abR hl]
 rw[tF (hv o _) (by rw[l1.1];exact t.at') e1 at2,l2.2,gK t.at']
end
section
variable {bb:MH}{v d N i T0:Nat}{X W:Nat->NK.KD}{kvs:List (NK.KD×U)}
abbrev wa:MF:=lB c.ck c.cm c.ce firstM uY cu
theorem yu (CF:Ch (bb.set T0 (.fT kvs)) v d N X W)(t:Tb bb T0 N X kvs)(kk:∀ i,i<N->cL (ae (.tup [X i,W i]))=some (.tup [X i,W i])) :
  wa [.ref bb.length,.ref v,.ref T0] (bb++[.ins c.ce []])=some (.aq,eh bb (eo v bb.length) (pri X W d N (f6 d N N)) (oT X W d N N) (stI bb.length N N) ((vD N).map .int) (.dT (sd X bb.length N)::.dT (wl X bb.length N)::(lq nn nn N++ou X W d N N))):=by
 have hl:=t.lt
 have hn:=CF.hn
 obtain⟨o1,l1⟩:=tG t hn (b:=Sv) (j:=2) (jn:=3) (σ0:=λo=>[some (.ref bb.length),some (.ref v),some (.ref T0),o]) (S0:=λi bb'=>eh bb' (eo v bb'.length) [] [] [] [] (.dT (sd X bb'.length i)::.dT (wl X bb'.length i)::lq nn nn i))
  (λo H=>by simp) (λo u H=>by simp) (λi bb' hb o=>⟨Kc (by lia),by rw[yt (by lia),ab8]⟩)
  (λi hi=>by
   have:=OM (T0:=T0) CF hi
   rw[ab8]at this
   rw[ab8]
   exact this) (o:=none)
 obtain⟨o2,l2⟩:=tG t hn (b:=Uh) (j:=2) (jn:=3) (σ0:=λo=>[some (.ref bb.length),some (.ref v),some (.ref T0),o]) (S0:=λi bb'=>eh bb' (eo v bb'.length) (pri X W d N (f6 d N i)) (oT X W d N i) (stI bb'.length N i) ((vD i).map .int) (.dT (sd X bb'.length N)::.dT (wl X bb'.length N)::(lq nn nn N++ou X W d N i)))
  (λo H=>by simp) (λo u H=>by simp) (λi bb' hb o=>⟨Kc (by lia),by rw[yt (by lia),ab8]⟩)
  (λi hi=>by
   have:=ON (T0:=T0) CF kk hi
   rw[ab8]at this
   rw[ab8]
   exact this) (o:=o1)
 refine eR (σ:=[some (.ref bb.length),some (.ref v),some (.ref T0),o2]) ?_
 show gV c.ck c.cm c.ce firstM uY cu [some (.ref bb.length),some (.ref v),some (.ref T0),none] _=_
 unfold gV
 rw[ai (σ':=[some (.ref bb.length),some (.ref v),some (.ref T0),none]) (h':=bb++[.ins c.ce [("view",.ref v)]]) (by simp[bU,aL,fx])]
 have mi:=wU (b:=bb++[.ins c.ce [("view",.ref v)]])
 rw[show(bb++[MO.ins c.ce [(("view":Str),U.ref v)]]).length=bb.length+1 by simp]at mi
 simp only[mh,mf,aca,List.cons_append,List.nil_append,aby,abC,List.length_nil,Nat.zero_add]at mi
 rw[ai (σ':=[some (.ref bb.length),some (.ref v),some (.ref T0),none]) (h':=bb++[.ins c.ce [("view",.ref v),("market",.ref (bb.length+1))],.ins c.cm (mf (bb.length+1)),.dT [],.dT [],.dK [],.lst []]) (by
  simp[mi]
  simp[bU,aL,fx,mf])]
 rw[ai (σ':=[some (.ref bb.length),some (.ref v),some (.ref T0),none]) (h':=bb++[.ins c.ce [("view",.ref v),("market",.ref (bb.length+1)),("stands",.ref (bb.length+6))],.ins c.cm (mf (bb.length+1)),.dT [],.dT [],.dK [],.lst [],.dT []]) (by simp[bU,aL,fx])]
 rw[ai (σ':=[some (.ref bb.length),some (.ref v),some (.ref T0),none]) (h':=eh bb (eo v bb.length) [] [] [] [] [.dT [],.dT []]) (by simp[bU,aL,fx,eh,eo,ef])]
 have Vg:aN (aD (aa 2)) .keys (aa 2) (nName 3) Sv [some (.ref bb.length),some (.ref v),some (.ref T0),none] (eh bb (eo v bb.length) [] [] [] [] [.dT [],.dT []])=some (.nx [some (.ref bb.length),some (.ref v),some (.ref T0),o1],eh bb (eo v bb.length) [] [] [] [] (.dT (sd X bb.length N)::.dT (wl X bb.length N)::lq nn nn N)):=by
  have:=l1
  simpa [sd,wl,lq]using this
 refine(ai Vg).trans ?_
 have XE:=l2
 simp only[f6,oT,stI,vD,ou,pri,List.range_zero,List.map_nil,abr,acj]at XE ⊢
 exact XE
end
section
variable {B:MH}{v d N i T0:Nat}{X W:Nat->NK.KD}{ts:List Th}{ori:List (NK.KD×U)}{stl:List (Key×U)}{pu:List U}{f g:Nat->List U}{ar:MH}
def BA:MS:=bg (mB (ay (S.c6 false) (ig (iG eV cN) (ab (aa 3) af)) (mC (.int 2)))) (aK (bJ c.ce "settle_way" 3 hX (aa 2) (ab (ah (aa 3) (mC (.int 0))) (ab (ah (aa 3) (mC (.int 1))) af)))) (aK (bJ c.ce "settle_stand" 2 ff (aa 2) (ab (aa 3) af)))
def EH (B:MH)(v d N:Nat)(X W:Nat->NK.KD)(ts:List Th)(ori:List (NK.KD×U))(stl:List (Key×U))(pu:List U)(f g:Nat->List U)(ar:MH):MH:=
 eh B (eo v B.length) (pri X W d N ts) ori stl pu (.dT (sd X B.length N)::.dT (wl X B.length N)::(lq f g N++ar))
noncomputable def sE (v T0 L:Nat)(o:Option U):bG:=[some (.ref v),some (.ref T0),some (.ref L),o]
noncomputable def ud (f:Nat->List U)(i:Nat)(x:List U):Nat->List U:=λj=>if j=i then x else f j
theorem qu:ud f i (f i)=f:=by funext j;unfold ud;split<;>simp_all
theorem Qj {H':MH}(e:ff [.ref B.length,ae (bH X d i)] (EH B v d N X W ts ori stl pu f g ar)=some (.aq,H')):BA (sE v T0 B.length (some (ae (bH X d i)))) (EH B v d N X W ts ori stl pu f g ar)=some (.nx (sE v T0 B.length (some (ae (bH X d i)))),H'):=by
 rw[i4]at *
 simp only[EH,eh,eo]at e
 simp[BA,sE,EH,eh,eo,aL,ef,List.lookup,iG]
 simp only[ef]at e
 simp[e]
theorem Qk {H':MH}(e:hX [.ref B.length,ae (X i),ae (W i)] (EH B v d N X W ts ori stl pu f g ar)=some (.aq,H')):BA (sE v T0 B.length (some (ae (.tup [X i,W i])))) (EH B v d N X W ts ori stl pu f g ar)=some (.nx (sE v T0 B.length (some (ae (.tup [X i,W i])))),H'):=by
 have ek:ae (.tup [X i,W i])=.tup [ae (X i),ae (W i)]:=by simp[ae,cQ]
 rw[ek]
 simp only[EH,eh,eo]at e
 simp[BA,sE,EH,eh,eo,aL,ef,List.lookup,iG]
 simp only[ef]at e
 simp[e]
theorem uq (hi:i<N):∃ Q,(∀ ts ori stl pu ar,EH B v d N X W ts ori stl pu f g ar=eh B (eo v B.length) (pri X W d N ts) ori stl pu (.dT (sd X B.length N)::.dT (wl X B.length N)::(lq f g i++(.lst (f i)::.lst (g i)::(Q++ar)))))/\
  ∀ ts ori stl pu ar x y,EH B v d N X W ts ori stl pu (ud f i x) (ud g i y) ar=eh B (eo v B.length) (pri X W d N ts) ori stl pu (.dT (sd X B.length N)::.dT (wl X B.length N)::(lq f g i++(.lst x::.lst y::(Q++ar)))):=by
 obtain⟨Q,q1,q2⟩:=EB f g hi
 refine⟨Q,λts ori stl pu ar=>?_,λts ori stl pu ar x y=>?_⟩
 ·unfold EH;rw[q1];simp
 ·unfold EH ud;rw[q2];simp
theorem MU (C:Ch B v d N X W)(hi:i<N)(hf:f i=[])(hg:g i=[]):BA (sE v T0 B.length (some (ae (bH X d i)))) (EH B v d N X W ts ori stl pu f g ar)=some (.nx (sE v T0 B.length (some (ae (bH X d i)))),EH B v d N X W ts ori stl pu (ud f i [ae (bH X d i)]) g ar):=by
 refine Qj ?_
 obtain⟨Q,q1,q2⟩:=uq (B:=B) (v:=v) (d:=d) (X:=X) (W:=W) (f:=f) (g:=g) hi
 have e:=q2 ts ori stl pu ar [ae (bH X d i)] (g i)
 rw[qu]at e
 rw[q1,e,hf,hg]
 exact JB C hi gq
theorem zb (C:Ch B v d N X W)(hi:i<N)(hf:f i=[])(hg:g i=[]):BA (sE v T0 B.length (some (ae (.tup [X i,W i])))) (EH B v d N X W ts ori stl pu f g ar)=some (.nx (sE v T0 B.length (some (ae (.tup [X i,W i])))),EH B v d N X W ts ori stl pu f (ud g i [ae (W i)]) ar):=by
 refine Qk ?_
 obtain⟨Q,q1,q2⟩:=uq (B:=B) (v:=v) (d:=d) (X:=X) (W:=W) (f:=f) (g:=g) hi
 have e:=q2 ts ori stl pu ar (f i) [ae (W i)]
 rw[qu]at e
 rw[q1,e,hf,hg]
 exact Sf C hi gq
def dY (d N i:Nat):Th:=if d<i/\i+1<N then .s (i+1) else .w (par d i)
theorem rZ (hd:d<N)(h1:1<=i)(hi:i<N):(dY d N i).ok N:=by
 unfold dY;split
 ·exact⟨by lia,by lia⟩
 ·show par d i<N;unfold par;lia
theorem CA (hd:d<N)(h1:1<=i)(hi:i<N):(Th.s i).aU d N+(Th.w i).aU d N=(dY d N i).aU d N:=by
 unfold dY par
 by_cases a:d<i
 ·by_cases b:i+1<N
  ·rw[abr ⟨a,b⟩]
   simp only[Th.aU,abr a]
   split<;>split<;>lia
  ·rw[abo (by lia),show min (i-1) d=d by lia]
   simp only[Th.aU,abr a]
   split<;>split<;>lia
 ·rw[abo (by lia),show min (i-1) d=i-1 by lia]
  simp only[Th.aU]
  rw[abo a,abr (by lia),abo (by lia)]
  lia
theorem D6 (C:Ch B v d N X W)(kk:∀ i,i<N->cL (ae (.tup [X i,W i]))=some (.tup [X i,W i]))(h1:1<=i)(hi:i<N)(nd:ts.Nodup)(ok:∀ x∈ts,x.ok N)(ms:Th.s i∈ts)(mw:Th.w i∈ts)(nw:dY d N i∉ts)(ho:ori.map (·.1)=ts.map λt=>t.key X W d)(hl:ts.length<=1000) :
  tI [.ref B.length,ae (bH X d i),ae (W i)] (EH B v d N X W ts ori [] [] f g ar)=some (.aq,EH B v d N X W (ts++[dY d N i]) (ori++[((dY d N i).key X W d,.tup [.tup [],ae (bH X d i),ae (W i)])]) [(.inl ((dY d N i).aU d N),.ref (B.length+(2*N+ar.length+8)))] [.int ((dY d N i).aU d N)] f g (ar++[.lst [ae ((dY d N i).key X W d)]])):=by
 have t2:=rZ (d:=d) C.hd h1 hi
 have f1:=AH C ok t2 nw
 have f2:(dY d N i).key X W d∉ori.map (·.1):=by rw[ho];exact f1
 rw[<-xn (N:=N)]at f1
 have l2:ori.length<=1000:=by
  have:=congrArg List.length ho
  simp at this;lia
 have p1:=rN C nd ok ms
 have p2:=rN C nd ok mw
 have of:=rE (bb:=B) (E:=eo v B.length) (R:=.dT (sd X B.length N)::.dT (wl X B.length N)::(lq f g N++ar)) (stl:=[]) (pen:=[]) (p:=(dY d N i).aU d N) (o:=.tup [.tup [],ae (bH X d i),ae (W i)]) (oI C kk t2) f1 f2 (by simp) (by simp) (by simp) (by simp[pri];lia) l2 (by simp)
 have ll:(lq f g N).length=2*N:=gq
 have Pg:d9 [.ref (B.length+1),ae ((dY d N i).key X W d),.int ((dY d N i).aU d N),.tup [.tup [],ae (bH X d i),ae (W i)]] (EH B v d N X W ts ori [] [] f g ar)=some (.aq,EH B v d N X W (ts++[dY d N i]) (ori++[((dY d N i).key X W d,.tup [.tup [],ae (bH X d i),ae (W i)])]) [(.inl ((dY d N i).aU d N),.ref (B.length+(2*N+ar.length+8)))] [.int ((dY d N i).aU d N)] f g (ar++[.lst [ae ((dY d N i).key X W d)]])):=by
  unfold EH
  rw[xo]
  refine of.trans ?_
  simp[ll]
 refine Qr C h1 hi (kk i hi) p1 p2 ?_
 rw[CA C.hd h1 hi]
 have fin:∀ H',d9 [.ref (B.length+1),ae ((dY d N i).key X W d),.int ((dY d N i).aU d N),.tup [.tup [],ae (bH X d i),ae (W i)]] (EH B v d N X W ts ori [] [] f g ar)=some (.aq,H')->cu [.ref B.length,ae (X (par d i)),.lst [F2 X W d N i],.int ((dY d N i).aU d N),ae (bH X d i),ae (W i)] (EH B v d N X W ts ori [] [] f g ar)=some (.aq,H'):=by
  intro H' e
  generalize (dY d N i).aU d N=pp at e ⊢
  unfold F2
  unfold dY at e
  split at e
  ·rename_i h
   rw[abr h]
   exact xB (by show me (ae (bH X d (i+1)))=false;rw[i4];rfl) e
  ·rename_i h
   rw[abo h]
   exact xC e
 exact fin _ Pg
theorem Q4 (C:Ch B v d N X W)(kk:∀ i,i<N->cL (ae (.tup [X i,W i]))=some (.tup [X i,W i]))(h1:1<=i)(hi:i<N)(nd:ts.Nodup)(ok:∀ x∈ts,x.ok N)(ms:Th.s i∈ts)(mw:Th.w i∈ts)(nw:dY d N i∉ts)(ho:ori.map (·.1)=ts.map λt=>t.key X W d)(hl:ts.length<=1000)(hf:f i=[])(hg:g i=[ae (W i)]) :
  BA (sE v T0 B.length (some (ae (bH X d i)))) (EH B v d N X W ts ori [] [] f g ar)=some (.nx (sE v T0 B.length (some (ae (bH X d i)))),EH B v d N X W (ts++[dY d N i]) (ori++[((dY d N i).key X W d,.tup [.tup [],ae (bH X d i),ae (W i)])]) [(.inl ((dY d N i).aU d N),.ref (B.length+(2*N+ar.length+8)))] [.int ((dY d N i).aU d N)] (ud f i [ae (bH X d i)]) g (ar++[.lst [ae ((dY d N i).key X W d)]])):=by
 refine Qj ?_
 have go:=D6 (ar:=ar) (f:=ud f i [ae (bH X d i)]) (g:=g) C kk h1 hi nd ok ms mw nw ho hl
 obtain⟨Q,q1,q2⟩:=uq (B:=B) (v:=v) (d:=d) (X:=X) (W:=W) (f:=f) (g:=g) hi
 have e1:=λts ori stl pu ar=>q2 ts ori stl pu ar [ae (bH X d i)] (g i)
 rw[qu]at e1
 rw[e1,e1,hg]at go
 rw[q1,e1,hf,hg]
 have ea:∀ x:MH,Q++(ar++x)=Q++ar++x:=λx=>by simp
 rw[ea]at go ⊢
 exact JC C hi gq go
theorem KP (C:Ch B v d N X W)(kk:∀ i,i<N->cL (ae (.tup [X i,W i]))=some (.tup [X i,W i]))(h1:1<=i)(hi:i<N)(nd:ts.Nodup)(ok:∀ x∈ts,x.ok N)(ms:Th.s i∈ts)(mw:Th.w i∈ts)(nw:dY d N i∉ts)(ho:ori.map (·.1)=ts.map λt=>t.key X W d)(hl:ts.length<=1000)(hf:f i=[ae (bH X d i)])(hg:g i=[]) :
  BA (sE v T0 B.length (some (ae (.tup [X i,W i])))) (EH B v d N X W ts ori [] [] f g ar)=some (.nx (sE v T0 B.length (some (ae (.tup [X i,W i])))),EH B v d N X W (ts++[dY d N i]) (ori++[((dY d N i).key X W d,.tup [.tup [],ae (bH X d i),ae (W i)])]) [(.inl ((dY d N i).aU d N),.ref (B.length+(2*N+ar.length+8)))] [.int ((dY d N i).aU d N)] f (ud g i [ae (W i)]) (ar++[.lst [ae ((dY d N i).key X W d)]])):=by
 refine Qk ?_
 have go:=D6 (ar:=ar) (f:=f) (g:=ud g i [ae (W i)]) C kk h1 hi nd ok ms mw nw ho hl
 obtain⟨Q,q1,q2⟩:=uq (B:=B) (v:=v) (d:=d) (X:=X) (W:=W) (f:=f) (g:=g) hi
 have e1:=λts ori stl pu ar=>q2 ts ori stl pu ar (f i) [ae (W i)]
 rw[qu]at e1
 rw[e1,e1,hf]at go
 rw[q1,e1,hf,hg]
 have ea:∀ x:MH,Q++(ar++x)=Q++ar++x:=λx=>by simp
 rw[ea]at go ⊢
 exact Sg C hi gq go
end
section
variable {B:MH}{v d N i k T0:Nat}{X W:Nat->NK.KD}{ts:List Th}{ori:List (NK.KD×U)}{stl:List (Key×U)}{pu:List U}{f g:Nat->List U}{ar:MH}
theorem jR {f' g':Nat->List U}(hf:∀ j,j<N->f j=f' j)(hg:∀ j,j<N->g j=g' j):EH B v d N X W ts ori stl pu f g ar=EH B v d N X W ts ori stl pu f' g' ar:=by
 unfold EH;rw[wM hf hg]
def fp (X:Nat->NK.KD)(d:Nat)(p:Nat->Prop)[DecidablePred p](k:Nat):List U:=if p k then[ae (bH X d k)] else[]
noncomputable def gp (W:Nat->NK.KD)(p:Nat->Prop)[DecidablePred p](k:Nat):List U:=if p k then[ae (W k)] else[]
def f0 (X:Nat->NK.KD)(d N i:Nat):Nat->List U:=fp X d λk=>1<=k/\k<=i/\k<=d+1/\k<N
noncomputable def g0 (W:Nat->NK.KD)(d N i:Nat):Nat->List U:=gp W λk=>(d<k\/k+1=N)/\k<i
noncomputable def e0 (d N:Nat):Nat:=if d+1<N then d+1 else d
theorem uX {t:Th}:t∈f6 d N N↔∃ j,j<N/\pV d N j=t:=by simp[f6]
theorem t9 {j:Nat}:Th.s j∈f6 d N N↔1<=j/\j<=d+1/\j<N:=by
 rw[uX]
 constructor
 ·rintro⟨a,ha,e⟩
  unfold pV at e
  split at e
  ·injection e with e;lia
  ·cases e
 ·intro h
  exact⟨j-1,by lia,by unfold pV;rw[abr (by lia)];congr 1;lia⟩
theorem sj {j:Nat}:Th.w j∈f6 d N N↔(d<j\/j+1≥N)/\j<N:=by
 rw[uX]
 constructor
 ·rintro⟨a,ha,e⟩
  unfold pV at e
  split at e
  ·cases e
  ·injection e with e;lia
 ·intro h
  exact⟨j,by lia,by unfold pV;rw[abo (by lia)]⟩
theorem xg:(oT X W d N N).map (·.1)=(f6 d N N).map λt=>t.key X W d:=by simp[oT,aci]
def S1 (B:MH)(v d N:Nat)(X W:Nat->NK.KD)(i:Nat):MH:=
 if e0 d N<i/\1<=e0 d N then
  EH B v d N X W (f6 d N N++[dY d N (e0 d N)]) (oT X W d N N++[((dY d N (e0 d N)).key X W d,.tup [.tup [],ae (bH X d (e0 d N)),ae (W (e0 d N))])]) [(.inl ((dY d N (e0 d N)).aU d N),.ref (B.length+(2*N+9)))] [.int ((dY d N (e0 d N)).aU d N)] (f0 X d N i) (g0 W d N i) (ou X W d N N++[.lst [ae ((dY d N (e0 d N)).key X W d)]])
 else EH B v d N X W (f6 d N N) (oT X W d N N) [] [] (f0 X d N i) (g0 W d N i) (ou X W d N N)
theorem A5 (hd:d<N)(h1:1<=e0 d N):dY d N (e0 d N)∉f6 d N N:=by
 intro m
 unfold e0 at *
 by_cases a:d+1<N
 ·rw[abr a]at m h1
  unfold dY par at m
  split at m
  ·have:=t9.mp m;lia
  ·have:=sj.mp m;lia
 ·rw[abo a]at m h1
  unfold dY par at m
  rw[abo (by lia)]at m
  have:=sj.mp m;lia
theorem OO (C:Ch B v d N X W)(kk:∀ i,i<N->cL (ae (.tup [X i,W i]))=some (.tup [X i,W i]))(hi:i<N) :
  BA (sE v T0 B.length (some (ae ((pV d N i).key X W d)))) (S1 B v d N X W i)=some (.nx (sE v T0 B.length (some (ae ((pV d N i).key X W d)))),S1 B v d N X W (i+1)):=by
 have hd:=C.hd
 have hn:=C.hn
 by_cases a:i<=d/\i+1<N
 ·have et:pV d N i=.s (i+1):=abr a
  rw[et]
  have n1:¬ (e0 d N<i/\1<=e0 d N):=by unfold e0;split<;>lia
  have n2:¬ (e0 d N<i+1/\1<=e0 d N):=by unfold e0;split<;>lia
  unfold S1
  rw[abo n1,abo n2]
  refine(MU (i:=i+1) C (by lia) (by unfold f0 fp;rw[abo (by lia)]) (by unfold g0 gp;rw[abo (by lia)])).trans (congrArg (λH=>some (Fl.nx (sE v T0 B.length (some (ae ((Th.s (i+1)).key X W d)))),H)) ?_)
  exact jR (λj hj=>by
   unfold ud f0 fp
   by_cases e:j=i+1
   ·subst e;simp;lia
   ·simp only[abo e]
    by_cases q:1<=j/\j<=i/\j<=d+1/\j<N
    ·rw[abr q,abr (by lia)]
    ·rw[abo q,abo (by lia)]) (λj hj=>by
   unfold g0 gp
   by_cases q:(d<j\/j+1=N)/\j<i
   ·rw[abr q,abr (by lia)]
   ·rw[abo q,abo (by lia)])
 ·have et:pV d N i=.w i:=abo a
  rw[et]
  have gi:g0 W d N i i=[]:=by simp[g0,gp]
  have DY:∀ j,j<N->ud (g0 W d N i) i [ae (W i)] j=g0 W d N (i+1) j:=λj hj=>by
   unfold ud g0 gp
   by_cases e:j=i
   ·subst e;simp;lia
   ·simp only[abo e]
    by_cases q:(d<j\/j+1=N)/\j<i
    ·rw[abr q,abr (by lia)]
    ·rw[abo q,abo (by lia)]
  have DQ:∀ j,j<N->f0 X d N i j=f0 X d N (i+1) j:=λj hj=>by
   unfold f0 fp
   by_cases q:1<=j/\j<=i/\j<=d+1/\j<N
   ·rw[abr q,abr (by lia)]
   ·rw[abo q,abo (by lia)]
  unfold S1
  by_cases ie:i=e0 d N/\1<=i
  ·obtain⟨ie,i1⟩:=ie
   rw[abo (show ¬ (e0 d N<i/\1<=e0 d N) by lia),abr (show e0 d N<i+1/\1<=e0 d N by lia),<-ie]
   have fi:f0 X d N i i=[ae (bH X d i)]:=by
    unfold f0 fp;rw[abr]
    unfold e0 at ie;split at ie<;>lia
   have ms:Th.s i∈f6 d N N:=t9.mpr (by unfold e0 at ie;split at ie<;>lia)
   have mw:Th.w i∈f6 d N N:=sj.mpr (by lia)
   have al:(ou X W d N N).length=1:=by unfold ou;rw[abo (by lia)];rfl
   refine(KP C kk i1 hi o9 (vn hd (abl _)) ms mw (by rw[ie];exact A5 hd (by lia)) xg (by simp[f6];lia) fi gi).trans ?_
   rw[al]
   exact congrArg (λH=>some (Fl.nx (sE v T0 B.length (some (ae ((Th.w i).key X W d)))),H)) (jR DQ DY)
  ·by_cases off:e0 d N<i/\1<=e0 d N
   ·rw[abr off,abr (show e0 d N<i+1/\1<=e0 d N by lia)]
    have fi:f0 X d N i i=[]:=by
     unfold f0 fp;rw[abo]
     unfold e0 at off;split at off<;>lia
    refine(zb C hi fi gi).trans ?_
    exact congrArg (λH=>some (Fl.nx (sE v T0 B.length (some (ae ((Th.w i).key X W d)))),H)) (jR DQ DY)
   ·have z:i=0:=by unfold e0 at ie off;split at ie<;>split at off<;>lia
    have n2:¬ (e0 d N<i+1/\1<=e0 d N):=by lia
    rw[abo off,abo n2]
    have fi:f0 X d N i i=[]:=by subst z;simp[f0,fp]
    refine(zb C hi fi gi).trans ?_
    exact congrArg (λH=>some (Fl.nx (sE v T0 B.length (some (ae ((Th.w i).key X W d)))),H)) (jR DQ DY)
end
section
variable {B:MH}{v d N i T0:Nat}{X W:Nat->NK.KD}{ts ths:List Th}{ori:List (NK.KD×U)}{stl:List (Key×U)}{f g:Nat->List U}{ar:MH}{o3:Option U}{p:Int}
def JK:ME:=bJ c.cm "take_cheapest" 1 nZ (ba (aj c.ck.cl "market") (aa 2)) af
def LP:MS:=aN (aD JK) .keys JK (nName 3) BA
def O0:MT:=ij (ba (aj c.ck.cl "pending") (ba (aj c.ck.cl "market") (aa 2)))
theorem Kd {x:U}:O0 (sE v T0 B.length o3) (EH B v d N X W ts ori stl [x] f g ar)=some (true,EH B v d N X W ts ori stl [x] f g ar):=by
 simp[abV,abB,O0,sE,EH,eh,eo,ef,mf,aj,aL,List.lookup,ab4,mY]
theorem Qi:O0 (sE v T0 B.length o3) (EH B v d N X W ts ori stl [] f g ar)=some (false,EH B v d N X W ts ori stl [] f g ar):=by
 simp[abV,abB,O0,sE,EH,eh,eo,ef,mf,aj,aL,List.lookup,ab4,mY]
theorem AZ (C:Ch B v d N X W)(kk:∀ i,i<N->cL (ae (.tup [X i,W i]))=some (.tup [X i,W i]))(nd:ts.Nodup)(ok:∀ x∈ts,x.ok N){j:Nat}(ha:ar[j]?=some (.lst (ths.map λt=>ae (t.key X W d))))(hl:ths.length<=1000)(hk:∀ t∈ths,t∈ts/\t.aU d N=p) :
  JK (sE v T0 B.length o3) (EH B v d N X W ts ori [(.inl p,.ref (B.length+(2*N+j+8)))] [.int p] f g ar)=some (.lst (ths.map λt=>ae (t.key X W d)),EH B v d N X W ts ori [] [] f g ar):=by
 have ll:(lq f g N).length=2*N:=gq
 have hj:=(abn.mp ha).1
 have tk:=R7 (bb:=B) (E:=eo v B.length) (pri:=pri X W d N ts) (ori:=ori) (pen:=[]) (p:=p) (r:=2*N+j+2) (stl:=[(.inl p,.ref (B.length+(2*N+j+8)))]) (R:=.dT (sd X B.length N)::.dT (wl X B.length N)::(lq f g N++ar)) (ths:=ths.map λt=>t.key X W d)
  (by simp[b6]) (by
   simp only[abB]
   rw[abt (by lia),ll,show 2*N+j-2*N=j by lia,ha,abT];rfl) (by simpa using hl)
  (λt ht=>by
   obtain⟨x,hx,rfl⟩:=abu.mp ht
   obtain⟨h1,h2⟩:=hk x hx
   exact⟨oI C kk (ok x h1),by rw[rN C nd ok h1,h2]⟩)
  (λx hx=>by
   obtain rfl:x=(.inl p,.ref (B.length+(2*N+j+8))):=by simpa using hx
   exact⟨2*N+j+2,rfl,by simp[ll];lia⟩)
 have e1:((ths.map λt=>t.key X W d).map ae)=ths.map λt=>ae (t.key X W d):=by rw[abT];rfl
 rw[e1]at tk
 unfold EH
 have fin:nZ [.ref (B.length+1)] (eh B (eo v B.length) (pri X W d N ts) ori [(.inl p,.ref (B.length+(2*N+j+8)))] [.int p] (.dT (sd X B.length N)::.dT (wl X B.length N)::(lq f g N++ar)))=some (.lst (ths.map λt=>ae (t.key X W d)),eh B (eo v B.length) (pri X W d N ts) ori [] [] (.dT (sd X B.length N)::.dT (wl X B.length N)::(lq f g N++ar))):=by
  refine tk.trans ?_
  simp
 simp only[eh,eo,ef,mf,ab4,Nat.reduceAdd]at fin
 simp[abV,abB,JK,sE,eh,eo,ef,mf,aj,aL,List.lookup,ab4,fin]
theorem rS {H0:MH}{us:List U}{S0:Nat->MH}(he:∀ o,JK (sE v T0 B.length o) H0=some (.lst us,S0 0))(hl:us.length<=1000)(turn:∀ i u,us[i]?=some u->BA (sE v T0 B.length (some u)) (S0 i)=some (.nx (sE v T0 B.length (some u)),S0 (i+1))):∃ o,LP (sE v T0 B.length o3) H0=some (.nx (sE v T0 B.length o),S0 us.length):=by
 obtain⟨f,h',e1,o',rfl,rfl⟩:=ei (g:=nName 3) (b:=BA) (mi:=aD JK) (it:=lQ us) (us:=us) (σ:=sE v T0 B.length o3) (h:=H0) (h1:=S0 0)
  (λi σ H=>∃ o,σ=sE v T0 B.length o/\H=S0 i) (λf H=>∃ o,f=.nx (sE v T0 B.length o)/\H=S0 us.length)
  (by rw[fG,he];rfl) (λi H=>rfl) (by lia) ⟨o3,rfl,rfl⟩
  (λi u σ H hu ⟨o,hσ,hH⟩=>by
   subst hσ hH
   exact⟨_,_,.nx (sE v T0 B.length (some u)),_,rfl,turn i u hu,_,rfl,rfl⟩)
  (λσ H ⟨o,hσ,hH⟩=>⟨o,by rw[hσ],hH⟩)
 refine⟨o',?_⟩
 unfold LP aN
 rw[nW,e1];rfl
end
section
variable {B:MH}{v d N i k T0:Nat}{X W:Nat->NK.KD}{ts ths:List Th}{ori:List (NK.KD×U)}{ar:MH}
def TK (B:MH)(v d N:Nat)(X W:Nat->NK.KD)(ts:List Th)(ori:List (NK.KD×U))(f g:Nat->List U)(ar:MH)(t:Th):MH:=
 EH B v d N X W ts ori [(.inl (t.aU d N),.ref (B.length+(2*N+ar.length+8)))] [.int (t.aU d N)] f g (ar++[.lst [ae (t.key X W d)]])
structure Gd (d N:Nat)(X W:Nat->NK.KD)(ts:List Th)(ori:List (NK.KD×U)):Prop where
 nd:ts.Nodup
 ok:∀ x∈ts,x.ok N
 ho:ori.map (·.1)=ts.map λt=>t.key X W d
theorem Gd.snoc {t:Th}{u:U}(q:Gd d N X W ts ori)(h:t.ok N)(n:t∉ts):Gd d N X W (ts++[t]) (ori++[(t.key X W d,u)]):=
 ⟨by rw[List.nodup_append];exact⟨q.nd,by simp,λa ha b hb e=>by simp at hb;subst hb;subst e;exact n ha⟩,λx hx=>by
  rcases abP.mp hx with hx | hx
  ·exact q.ok x hx
  ·simp at hx;rw[hx];exact h,by simp[q.ho]⟩
inductive Pt (d N:Nat)(X W:Nat->NK.KD):Nat->List Th->(Nat->List U)->(Nat->List U)->Th->Prop
 |s {k:Nat} {ts:List Th} {f g:Nat->List U}:d+2<=k->k<N->(∀ j,Th.s j∈ts↔1<=j/\j<=k)->(∀ j,Th.w j∈ts↔d<j/\j<N)->(∀ j,j<N->f j=fp X d (λj=>1<=j/\j<k) j)->(∀ j,j<N->g j=gp W (λj=>d<j) j)->Pt d N X W (N-k+d+3) ts f g (.s k)
 |w {k:Nat} {ts:List Th} {f g:Nat->List U}:k<=d->(∀ j,Th.s j∈ts↔1<=j/\j<N)->(∀ j,Th.w j∈ts↔k<=j/\j<N)->(∀ j,j<N->f j=fp X d (λj=>1<=j) j)->(∀ j,j<N->g j=gp W (λj=>k<j) j)->Pt d N X W (k+2) ts f g (.w k)
structure Fin (d N:Nat)(X W:Nat->NK.KD)(ts:List Th)(f g:Nat->List U):Prop where
 s:∀ j,Th.s j∈ts↔1<=j/\j<N
 w:∀ j,Th.w j∈ts↔j<N
 f:∀ j,j<N->f j=fp X d (λj=>1<=j) j
 g:∀ j,j<N->g j=[ae (W j)]
theorem qP {p q:Nat->Prop}[DecidablePred p][DecidablePred q]{j:Nat}(h:p j↔q j):fp X d p j=fp X d q j:=by
 unfold fp;simp only[h]
theorem qY {p q:Nat->Prop}[DecidablePred p][DecidablePred q]{j:Nat}(h:p j↔q j):gp W p j=gp W q j:=by
 unfold gp;simp only[h]
inductive En (B:MH)(v d N:Nat)(X W:Nat->NK.KD):MH->Prop
 |mk (ts:List Th) (ori:List (NK.KD×U)) (f g:Nat->List U) (ar:MH):Gd d N X W ts ori->Fin d N X W ts f g->En B v d N X W (EH B v d N X W ts ori [] [] f g ar)
inductive LS (B:MH)(v d N:Nat)(X W:Nat->NK.KD)(n:Nat):MH->Prop
 |tok (ts:List Th) (ori:List (NK.KD×U)) (f g:Nat->List U) (ar:MH) (t:Th) (m:Nat):Gd d N X W ts ori->Pt d N X W m ts f g t->m<=n->ts.length+n<=400->LS B v d N X W n (TK B v d N X W ts ori f g ar t)
 |fin {H:MH}:En B v d N X W H->LS B v d N X W n H
theorem rF {H0 H1:MH}{u:U}(he:∀ o,JK (sE v T0 B.length o) H0=some (.lst [u],H1)){H2:MH}(e:BA (sE v T0 B.length (some u)) H1=some (.nx (sE v T0 B.length (some u)),H2)){o:Option U}:∃ o',LP (sE v T0 B.length o) H0=some (.nx (sE v T0 B.length o'),H2):=
 rS (S0:=λi=>if i=0 then H1 else H2) he (by simp) λi w hw=>by
  match i,hw with
  |0,hw=>simp at hw;subst hw;exact e
  |i+1,hw=>simp at hw
theorem Gw (C:Ch B v d N X W)(kk:∀ i,i<N->cL (ae (.tup [X i,W i]))=some (.tup [X i,W i])){m n:Nat}{f g:Nat->List U}{t:Th}(G:Gd d N X W ts ori)(q:Pt d N X W m ts f g t)(hm:m<=n)(hl:ts.length+n<=400)(o:Option U) :
  ∃ o' H' n',LP (sE v T0 B.length o) (TK B v d N X W ts ori f g ar t)=some (.nx (sE v T0 B.length o'),H')/\n' < n/\LS B v d N X W n' H':=by
 have hd:=C.hd
 have tk:∀ o,t∈ts->JK (sE v T0 B.length o) (TK B v d N X W ts ori f g ar t)=some (.lst [ae (t.key X W d)],EH B v d N X W ts ori [] [] f g (ar++[.lst [ae (t.key X W d)]])):=λo m=>
  AZ (ths:=[t]) (j:=ar.length) C kk G.nd G.ok (by simp) (by simp) (λx hx=>by simp at hx;subst hx;exact⟨m,rfl⟩)
 cases q with
 |@s k _ _ _ h1 h2 ms mw hf hg=>
  have m1:Th.s k∈ts:=(ms k).mpr (by lia)
  have m2:Th.w k∈ts:=(mw k).mpr (by lia)
  have fk:f k=[]:=by rw[hf k h2];unfold fp;rw[abo (by lia)]
  have gk:g k=[ae (W k)]:=by rw[hg k h2];unfold gp;rw[abr (by lia)]
  have nw:dY d N k∉ts:=by
   unfold dY par;split
   ·rw[ms];lia
   ·rw[mw];lia
  have of:=Q4 (T0:=T0) (ar:=ar++[.lst [ae ((Th.s k).key X W d)]]) C kk (by lia) h2 G.nd G.ok m1 m2 nw G.ho (by lia) fk gk
  obtain⟨o',run⟩:=rF (λo=>tk o m1) of (o:=o)
  have uf:∀ j,j<N->ud f k [ae (bH X d k)] j=fp X d (λj=>1<=j/\j<k+1) j:=λj hj=>by
   unfold ud
   by_cases e:j=k
   ·subst e;rw[abr rfl];unfold fp;rw[abr (by lia)]
   ·rw[abo e,hf j hj];exact qP (by lia)
  by_cases last:k+1<N
  ·have et:dY d N k=.s (k+1):=abr ⟨by lia,last⟩
   refine⟨o',_,N-(k+1)+d+3,run,by lia,.tok _ _ _ g _ (dY d N k) (N-(k+1)+d+3) (G.snoc (rZ hd (by lia) h2) nw) ?_ (abl _) (by simp;lia)⟩
   rw[et]at nw ⊢
   refine .s (by lia) last (λj=>?_) (λj=>?_) uf hg
   ·rw[abP,ms];simp;lia
   ·rw[abP,mw];simp
  ·have et:dY d N k=.w d:=by unfold dY par;rw[abo (by lia)];congr 1;lia
   refine⟨o',_,d+2,run,by lia,.tok _ _ _ g _ (dY d N k) (d+2) (G.snoc (rZ hd (by lia) h2) nw) ?_ (abl _) (by simp;lia)⟩
   rw[et]at nw ⊢
   refine .w (abl _) (λj=>?_) (λj=>?_) (λj hj=>?_) hg
   ·rw[abP,ms];simp;lia
   ·rw[abP,mw];simp;lia
   ·rw[uf j hj];exact qP (by lia)
 |@w k _ _ _ h1 ms mw hf hg=>
  have h2:k<N:=by lia
  have m2:Th.w k∈ts:=(mw k).mpr (by lia)
  have gk:g k=[]:=by rw[hg k h2];unfold gp;rw[abo (by lia)]
  have ug:∀ j,j<N->ud g k [ae (W k)] j=gp W (λj=>k<=j) j:=λj hj=>by
   unfold ud
   by_cases e:j=k
   ·subst e;rw[abr rfl];unfold gp;rw[abr (abl _)]
   ·rw[abo e,hg j hj];exact qY (by lia)
  by_cases z:k=0
  ·subst z
   have fk:f 0=[]:=by rw[hf 0 h2];unfold fp;rw[abo (by lia)]
   have nw:=zb (T0:=T0) (ts:=ts) (ori:=ori) (stl:=[]) (pu:=[]) (ar:=ar++[.lst [ae ((Th.w 0).key X W d)]]) C h2 fk gk
   obtain⟨o',run⟩:=rF (λo=>tk o m2) nw (o:=o)
   refine⟨o',_,0,run,by lia,.fin (.mk _ _ _ _ _ G ⟨ms,λj=>by rw[mw];lia,hf,λj hj=>?_⟩)⟩
   rw[ug j hj];unfold gp;rw[abr (abO _)]
  ·have m1:Th.s k∈ts:=(ms k).mpr (by lia)
   have fk:f k=[ae (bH X d k)]:=by rw[hf k h2];unfold fp;rw[abr (by lia)]
   have et:dY d N k=.w (k-1):=by unfold dY par;rw[abo (by lia)];congr 1;lia
   have nw:dY d N k∉ts:=by rw[et,mw];lia
   have of:=KP (T0:=T0) (ar:=ar++[.lst [ae ((Th.w k).key X W d)]]) C kk (by lia) h2 G.nd G.ok m1 m2 nw G.ho (by lia) fk gk
   obtain⟨o',run⟩:=rF (λo=>tk o m2) of (o:=o)
   refine⟨o',_,(k-1)+2,run,by lia,.tok _ _ f _ _ (dY d N k) ((k-1)+2) (G.snoc (rZ hd (by lia) h2) nw) ?_ (abl _) (by simp;lia)⟩
   rw[et]at nw ⊢
   refine .w (by lia) (λj=>?_) (λj=>?_) hf (λj hj=>?_)
   ·rw[abP,ms];simp
   ·rw[abP,mw];simp;lia
   ·rw[ug j hj];exact qY (by lia)
end
section
variable {B:MH}{v d N i T0:Nat}{X W:Nat->NK.KD}{kvs:List (NK.KD×U)}
theorem wc (C:Ch B v d N X W)(kk:∀ i,i<N->cL (ae (.tup [X i,W i]))=some (.tup [X i,W i]))(o:Option U) :
  ∃ o',LP (sE v T0 B.length o) (EH B v d N X W (f6 d N N) (oT X W d N N) (stI B.length N N) ((vD N).map .int) nn nn (ou X W d N N))=some (.nx (sE v T0 B.length o'),S1 B v d N X W N):=by
 have hd:=C.hd
 have hn:=C.hn
 have n0:N≠0:=by lia
 have st:stI B.length N N=[(.inl 1,.ref (B.length+(2*N+0+8)))]:=by unfold stI;rw[abo n0]
 have pe:(vD N).map U.int=[.int 1]:=by unfold vD;rw[abo n0];rfl
 have ha:(ou X W d N N)[0]?=some (.lst ((f6 d N N).map λt=>ae (t.key X W d))):=by unfold ou;rw[abo n0];rfl
 have lt:(f6 d N N).length=N:=by simp[f6]
 rw[st,pe]
 have s0:S1 B v d N X W 0=EH B v d N X W (f6 d N N) (oT X W d N N) [] [] nn nn (ou X W d N N):=by
  unfold S1
  rw[abo (by lia)]
  exact jR (λj hj=>by unfold f0 fp;rw[abo (by lia)];rfl) (λj hj=>by unfold g0 gp;rw[abo (by lia)];rfl)
 have he:∀ o,JK (sE v T0 B.length o) (EH B v d N X W (f6 d N N) (oT X W d N N) [(.inl 1,.ref (B.length+(2*N+0+8)))] [.int 1] nn nn (ou X W d N N))=some (.lst ((f6 d N N).map λt=>ae (t.key X W d)),S1 B v d N X W 0):=λo=>by
  rw[s0]
  exact AZ C kk o9 (vn hd (abl _)) ha (by lia) λt ht=>⟨ht,by
   obtain⟨j,hj,rfl⟩:=uX.mp ht
   exact uk hd hj⟩
 obtain⟨o',r⟩:=rS (o3:=o) (S0:=S1 B v d N X W) he (by simp[lt];lia) (λi u hu=>by
  have hi:i<N:=by
   have:=(abn.mp hu).1
   simpa [f6]using this
  have eu:u=ae ((pV d N i).key X W d):=by
   simp[f6,ab3 hi]at hu
   exact hu.symm
  subst eu
  exact OO C kk hi)
 refine⟨o',?_⟩
 rw[r];simp[lt]
theorem Lu (C:Ch B v d N X W):LS B v d N X W (N+d+5) (S1 B v d N X W N):=by
 have hn:=C.hn
 have hd:=C.hd
 have n0:N≠0:=by lia
 have G0:Gd d N X W (f6 d N N) (oT X W d N N):=⟨o9,vn hd (abl _),xg⟩
 have al:(ou X W d N N).length=1:=by unfold ou;rw[abo n0];rfl
 by_cases off:e0 d N<N/\1<=e0 d N
 ·have nw:=A5 hd off.2
  have t2:=rZ (d:=d) (i:=e0 d N) hd off.2 off.1
  have Yx:S1 B v d N X W N=TK B v d N X W (f6 d N N++[dY d N (e0 d N)]) (oT X W d N N++[((dY d N (e0 d N)).key X W d,.tup [.tup [],ae (bH X d (e0 d N)),ae (W (e0 d N))])]) (f0 X d N N) (g0 W d N N) (ou X W d N N) (dY d N (e0 d N)):=by
   unfold S1 TK
   rw[abr off,al]
  have lt:(f6 d N N++[dY d N (e0 d N)]).length=N+1:=by simp[f6]
  rw[Yx]
  by_cases a:d+1<N
  ·have ee:e0 d N=d+1:=abr a
   by_cases b:d+2<N
   ·have et:dY d N (e0 d N)=.s (d+2):=by rw[ee];exact abr ⟨by lia,b⟩
    refine .tok _ _ _ _ _ _ (N-(d+2)+d+3) (G0.snoc t2 nw) ?_ (by lia) (by lia)
    rw[et]
    refine .s (abl _) b (λj=>?_) (λj=>?_) (λj hj=>?_) (λj hj=>?_)
    ·rw[abP,t9];simp;lia
    ·rw[abP,sj];simp;lia
    ·exact qP (by lia)
    ·exact qY (by lia)
   ·have et:dY d N (e0 d N)=.w d:=by rw[ee];unfold dY par;rw[abo (by lia)];congr 1;lia
    refine .tok _ _ _ _ _ _ (d+2) (G0.snoc t2 nw) ?_ (by lia) (by lia)
    rw[et]
    refine .w (abl _) (λj=>?_) (λj=>?_) (λj hj=>?_) (λj hj=>?_)
    ·rw[abP,t9];simp;lia
    ·rw[abP,sj];simp;lia
    ·exact qP (by lia)
    ·exact qY (by lia)
  ·have ee:e0 d N=d:=abo a
   have et:dY d N (e0 d N)=.w (d-1):=by rw[ee];unfold dY par;rw[abo (by lia)];congr 1;lia
   refine .tok _ _ _ _ _ _ ((d-1)+2) (G0.snoc t2 nw) ?_ (by lia) (by lia)
   rw[et]
   refine .w (by lia) (λj=>?_) (λj=>?_) (λj hj=>?_) (λj hj=>?_)
   ·rw[abP,t9];simp;lia
   ·rw[abP,sj];simp;lia
   ·exact qP (by lia)
   ·exact qY (by lia)
 ·have z:d=0/\N=1:=by unfold e0 at off;split at off<;>lia
  rw[show S1 B v d N X W N=_ from abo off]
  refine .fin (.mk _ _ _ _ _ G0 ⟨λj=>?_,λj=>?_,λj hj=>?_,λj hj=>?_⟩)
  ·rw[t9];lia
  ·rw[sj];lia
  ·unfold f0 fp;rw[abo (by lia),abo (by lia)]
  ·unfold g0 gp;rw[abr (by lia)]
abbrev LV:MF:=nN c.ck c.ce c.cm wa nZ hX ff
abbrev eS (B:MH)(v d N:Nat)(X W:Nat->NK.KD):MH:=EH B v d N X W (f6 d N N) (oT X W d N N) (stI B.length N N) ((vD N).map .int) nn nn (ou X W d N N)
inductive LI (B:MH)(v d N T0:Nat)(X W:Nat->NK.KD)(n:Nat):bG->MH->Prop
 |a (o:Option U):N+d+6<=n->LI B v d N T0 X W n (sE v T0 B.length o) (eS B v d N X W)
 |b (o:Option U) {H:MH}:LS B v d N X W n H->LI B v d N T0 X W n (sE v T0 B.length o) H
inductive LR (B:MH)(v d N T0:Nat)(X W:Nat->NK.KD):Fl->MH->Prop
 |mk (o:Option U) {H:MH}:En B v d N X W H->LR B v d N T0 X W (.nx (sE v T0 B.length o)) H
theorem Im (C:Ch B v d N X W)(kk:∀ i,i<N->cL (ae (.tup [X i,W i]))=some (.tup [X i,W i]))(o:Option U) :
  ∃ f H,c4 O0 LP (sE v T0 B.length o) (eS B v d N X W)=some (f,H)/\LR B v d N T0 X W f H:=by
 have hd:=C.hd
 have hn:=C.hn
 have pe:(vD N).map U.int=[.int 1]:=by unfold vD;rw[abo (by lia)];rfl
 refine er (I:=LI B v d N T0 X W) (R:=LR B v d N T0 X W) (λn σ H I=>?_) FU (N+d+6) _ _ (jS (by lia)) (.a o (abl _))
 cases I with
 |a o hm=>
  obtain⟨o1,fs⟩:=wc (T0:=T0) C kk o
  exact .inr ⟨_,_,_,by unfold eS;rw[pe];exact Kd,fs,N+d+5,hm,.b o1 (Lu C)⟩
 |b o q=>
  cases q with
  |tok ts ori f g ar t m G P hm hl=>
   obtain⟨o',H',n',run,HR,q'⟩:=Gw (T0:=T0) (ar:=ar) C kk G P hm hl o
   exact .inr ⟨_,_,_,Kd,run,n',HR,.b o' q'⟩
  |fin q=>
   cases q with
   |mk ts ori f g ar G F=>exact .inl ⟨_,Qi,.mk o (.mk ts ori f g ar G F)⟩
theorem yv {bb:MH}(CF:Ch (bb.set T0 (.fT kvs)) v d N X W)(C:Ch bb v d N X W)(t:Tb bb T0 N X kvs)(kk:∀ i,i<N->cL (ae (.tup [X i,W i]))=some (.tup [X i,W i])) :
  ∃ H,LV [.ref v,.ref T0] bb=some (.ref bb.length,H)/\En bb v d N X W H:=by
 obtain⟨_,H,e,⟨o',q⟩⟩:=Im (T0:=T0) C kk none
 refine⟨H,bc ?_,q⟩
 show ji _ _ _ _ _ _ _ [some (.ref v),some (.ref T0),none,none] bb=_
 unfold ji
 rw[ai (σ':=sE v T0 bb.length none) (h':=EH bb v d N X W (f6 d N N) (oT X W d N N) (stI bb.length N N) ((vD N).map .int) nn nn (ou X W d N N)) (by simp[yu CF t kk,sE,EH])]
 exact(ai (show c4 O0 LP _ _=_ from e)).trans (by simp[sE])
end
noncomputable def cn (d N g:Nat):Nat:=if g<d then 1 else if g=d then N-d-1 else 0
noncomputable def qb (d N g:Nat):Nat:=if g<=d then g+1 else N
def Pd (d N g:Nat):List Nat:=List.range' (g+1) (cn d N g)
section
variable {b:MH}{v d N g j q T0 E0 M:Nat}{X W:Nat->NK.KD}{ts:List Th}{ori oo:List (NK.KD×U)}{o4 o5:Option U}
noncomputable def od (X:Nat->NK.KD)(M k:Nat):List (NK.KD×U):=(List.range k).map λi=>(X i,.ref (M+(i+1)))
structure Be (b:MH)(v d N E0 M:Nat)(X W:Nat->NK.KD)(ts:List Th):Prop where
 e1:b[E0]?=some (eo v E0)
 e2:b[E0+1]?=some (.ins c.cm (mf (E0+1)))
 e3:b[E0+2]?=some (.dT (pri X W d N ts))
 o1:b[M]?=some (.dT (od X M N))
 o2:∀ g,g<N->b[M+(g+1)]?=some (.lst ((Pd d N g).map λj=>ae (bH X d j)))
noncomputable def pp (X:Nat->NK.KD)(q:Nat):List (NK.KD×U):=(List.range q).map λp=>(X p,.int (p:Nat))
noncomputable def ub (L g m:Nat):List (Key×U):=(List.range' g m).map λp=>(.inl ((p:Nat):Int),.ref (L+(p+5)))
noncomputable def AB (g m:Nat):List Int:=(List.range' g m).reverse.map λp=>((p:Nat):Int)
noncomputable def R2 (X:Nat->NK.KD)(q:Nat):MH:=(List.range q).map λp=>.lst [ae (X p)]
def MB (b:MH)(X:Nat->NK.KD)(oo:List (NK.KD×U))(g m:Nat):MH:=mh b (pp X (g+m)) oo (ub b.length g m) ((AB g m).map .int) (R2 X (g+m))
noncomputable def sB (v T0 E0 M L:Nat)(o4 o5:Option U):bG:=[some (.ref v),some (.ref T0),some (.ref E0),some (.ref M),o4,o5,some (.ref L)]
theorem xk {m:Nat}:AB g (m+1)=(((g+m:Nat):Int))::AB g m:=by
 unfold AB;rw[List.range'_concat];simp
theorem EX {m:Nat}:AB g (m+1)=AB (g+1) m++[((g:Nat):Int)]:=by
 unfold AB;rw[List.range'_succ];simp
theorem FZ {L m:Nat}:ub L g (m+1)=ub L g m++[(.inl ((g+m:Nat):Int),.ref (L+(g+m+5)))]:=by
 unfold ub;rw[List.range'_concat];simp
theorem u6:pp X (q+1)=pp X q++[(X q,.int (q:Nat))]:=by simp[pp,abZ]
theorem G9:R2 X (q+1)=R2 X q++[.lst [ae (X q)]]:=by simp[R2,abZ]
theorem C5:(R2 X q).length=q:=by simp[R2]
theorem Ch.Fh {h0:MH}(C:Ch h0 v d N X W)(hq:q<=N)(hg:g<q):b6 (pp X q) (X g)=some (.int (g:Nat)):=
 dH (f:=X) (g:=λp=>U.int (p:Nat)) (C.nd hq) (by simpa using hg)
theorem Ch.Nx {h0:MH}(C:Ch h0 v d N X W)(hq:q<N):X q∉(pp X q).map (·.1):=by
 simp only[pp,abT,abu,abQ]
 rintro⟨j,hj,e⟩
 have:=C.inj j q (by lia) hq e
 lia
theorem qw {m t:Nat}(ht:t<b.length):(MB b X oo g m)[t]?=b[t]?:=by unfold MB mh;rw[abq ht]
def So:MS:=aK (bJ c.cm "offer" 4 d9 (aa 6) (ab (ah (aa 5) (mC (.int 1))) (ab (ay aI (ah (ba (aj c.ck.cl "prices") (aa 6)) (aa 4)) (ah (ba (aj c.ck.cl "prices") (ba (aj c.ck.cl "market") (aa 2))) (aa 5))) (ab (aa 5) af))))
theorem B8 {h0:MH}(C:Ch h0 v d N X W)(Q:Be b v d N E0 M X W ts)(G:Gd d N X W ts ori)(F:∀ j,Th.s j∈ts↔1<=j/\j<N){m:Nat}(hg:g<N)(h1:1<=j)(hj:j<N)(hp:par d j=g)(hq:g+1+m=j)(ho:oo.map (·.1)=(pp X j).map (·.1)) :
  So (sB v T0 E0 M b.length (some (ae (X g))) (some (ae (bH X d j)))) (MB b X oo (g+1) m)=some (.nx (sB v T0 E0 M b.length (some (ae (X g))) (some (ae (bH X d j)))),MB b X (oo++[(X j,ae (bH X d j))]) (g+1) (m+1)):=by
 have hn:=C.hn
 have e1:=Q.e1
 have e2:=Q.e2
 have e3:=Q.e3
 have l1:=(abn.mp e1).1
 have l2:=(abn.mp e2).1
 have l3:=(abn.mp e3).1
 have XR:=rN C G.nd G.ok ((F j).mpr ⟨h1,hj⟩)
 have pg:=C.Fh (q:=g+1+m) (g:=g) (by lia) (by lia)
 have pj:((g:Nat):Int)+(Th.s j).aU d N=((j:Nat):Int):=by
  simp only[Th.aU];unfold par at hp
  split<;>lia
 have f1:=C.Nx hj
 have f2:X j∉oo.map (·.1):=by rw[ho];exact f1
 have f3:(Sum.inl ((j:Nat):Int):Key)∉(ub b.length (g+1) m).map (·.1):=by
  simp only[ub,abT,abu,List.mem_range']
  rintro⟨a,⟨i,hi,rfl⟩,e⟩
  simp at e
  lia
 have ZA:∀ q∈AB (g+1) m,q<=((j:Nat):Int):=λq Km=>by
  simp only[AB,abu,List.mem_reverse,List.mem_range']at Km
  obtain⟨a,⟨i,hi,rfl⟩,rfl⟩:=Km
  lia
 have lo:oo.length=j:=by
  have:=congrArg List.length ho
  simpa [pp]using this
 have of:=oS (b:=b) (pri:=pp X (g+1+m)) (ori:=oo) (stl:=ub b.length (g+1) m) (pen:=AB (g+1) m) (R:=R2 X (g+1+m)) (th:=X j) (p:=((j:Nat):Int)) (o:=ae (bH X d j)) (C.kx j hj) (by rw[hq];exact f1) f2 f3 ZA (by simp[AB];lia) (by simp[pp];lia) (by lia) (by simp[ub];lia)
 have fin:d9 [.ref b.length,ae (X j),.int ((j:Nat):Int),ae (bH X d j)] (MB b X oo (g+1) m)=some (.aq,MB b X (oo++[(X j,ae (bH X d j))]) (g+1) (m+1)):=by
  unfold MB
  rw[of,show g+1+(m+1)=(g+1+m)+1 by lia,u6,G9,FZ,xk,hq,C5]
 have Vf:=C.ks j h1 hj
 have va:∀ t,t<b.length->(MB b X oo (g+1) m)[t]?=b[t]?:=λt ht=>qw ht
 have YT:aj c.ck.cl "prices" (.ref b.length) (MB b X oo (g+1) m)=some (.ref (b.length+1),MB b X oo (g+1) m):=by simp[MB,mh,mf,aj,aL,List.lookup]
 have YU:aj c.ck.cl "market" (.ref E0) (MB b X oo (g+1) m)=some (.ref (E0+1),MB b X oo (g+1) m):=by simp[aj,aL,va _ l1,e1,eo,ef,List.lookup]
 have YV:aj c.ck.cl "prices" (.ref (E0+1)) (MB b X oo (g+1) m)=some (.ref (E0+2),MB b X oo (g+1) m):=by simp[aj,aL,va _ l2,e2,mf,List.lookup]
 have YB:(MB b X oo (g+1) m)[b.length+1]?=some (.dT (pp X (g+1+m))):=by simp[MB,mh]
 have at2:(MB b X oo (g+1) m)[E0+2]?=some (.dT (pri X W d N ts)):=by rw[va _ l3,e3]
 have yK:aL (MB b X oo (g+1) m) (.ref b.length)=some (b.length,c.cm,mf b.length):=by simp[MB,mh,aL]
 generalize MB b X oo (g+1) m=H at *
 generalize MB b X (oo++[(X j,ae (bH X d j))]) (g+1) (m+1)=H' at *
 have Vd:Th.key X W d (.s j)=bH X d j:=rfl
 rw[Vd]at XR
 rw[i4]at *
 simp[So,sB,yK,mf,List.lookup,YT,YU,YV,aZ,bP,YB,at2,C.kx g hg,Vf,pg,XR,pj,fin]
end
section
variable {b h0:MH}{v d N g j q m T0 E0 M:Nat}{X W:Nat->NK.KD}{ts:List Th}{ori oo:List (NK.KD×U)}{o4 o5:Option U}
theorem JH (C:Ch h0 v d N X W)(hg:g+m<N):nZ [.ref b.length] (MB b X oo g (m+1))=some (.lst [ae (X g)],MB b X oo (g+1) m):=by
 have hn:=C.hn
 unfold MB
 rw[EX]
 have nd:((ub b.length g (m+1)).map (·.1)).Nodup:=by
  refine ace.mpr λi j hi hj Xn e=>?_
  simp[ub]at e
  lia
 have v1:b6 (ub b.length g (m+1)) (.inl ((g:Nat):Int))=some (.ref (b.length+(g+5))):=by
  unfold ub;rw[List.range'_succ];simp[b6]
 have fl:((ub b.length g (m+1)).filter λkv=>decide (kv.1≠.inl ((g:Nat):Int)))=ub b.length (g+1) m:=by
  unfold ub
  rw[List.range'_succ,abH,List.filter_cons]
  simp only[ne_eq,not_true_eq_false,decide_false,ab2,acb]
  refine List.filter_eq_self.mpr λx hx=>?_
  obtain⟨p,hp,rfl⟩:=abu.mp hx
  obtain⟨i,hi,rfl⟩:=List.mem_range'.mp hp
  simp;lia
 have tk:=A0 (b:=b) (pri:=pp X (g+(m+1))) (ori:=oo) (stl:=ub b.length g (m+1)) (pen:=AB (g+1) m) (p:=((g:Nat):Int)) (r:=g) (R:=R2 X (g+(m+1))) (ths:=[X g]) v1 (by simp[R2,ab3 (show g<g+(m+1) by lia)]) (by simp)
  (λt ht=>by simp at ht;subst ht;exact⟨C.kx g (by lia),C.Fh (by lia) (by lia)⟩)
  (λx hx=>by
   obtain⟨p,hp,rfl⟩:=abu.mp hx
   obtain⟨i,hi,rfl⟩:=List.mem_range'.mp hp
   exact⟨_,rfl,by rw[C5];lia⟩)
 rw[tk,fl,show g+(m+1)=g+1+m by lia]
 rfl
def Sa:ME:=bJ c.cm "take_cheapest" 1 nZ (aa 6) af
def PV:MS:=aN (aD (ah (aa 3) (aa 4))) .keys (ah (aa 3) (aa 4)) (nName 5) So
def PX:MS:=aN (aD Sa) .keys Sa (nName 4) PV
def J2:MT:=ij (ba (aj c.ck.cl "pending") (aa 6))
theorem Ch.KN (C:Ch h0 v d N X W)(hg:g<N):b6 (od X M N) (X g)=some (.ref (M+(g+1))):=
 dH (f:=X) (g:=λi=>U.ref (M+(i+1))) (C.nd (abl _)) (by simpa using hg)
theorem yI (C:Ch h0 v d N X W)(Q:Be b v d N E0 M X W ts)(G:Gd d N X W ts ori)(F:∀ j,Th.s j∈ts↔1<=j/\j<N)(hg:g<N)(hm:cn d N g≠0->m=0)(ho:oo.map (·.1)=(pp X (g+1+m)).map (·.1)) :
  ∃ xb vC,PV (sB v T0 E0 M b.length (some (ae (X g))) o5) (MB b X oo (g+1) m)=some (.nx (sB v T0 E0 M b.length (some (ae (X g))) xb),MB b X vC (g+1) (m+cn d N g))/\vC.map (·.1)=(pp X (g+1+(m+cn d N g))).map (·.1):=by
 have hd:=C.hd
 have hn:=C.hn
 have o1:=Q.o1
 have o2:=Q.o2 g hg
 have l1:=(abn.mp o1).1
 have l2:=(abn.mp o2).1
 have kl:(Pd d N g).length=cn d N g:=by simp[Pd]
 have ix:∀ o5 m oo,ah (aa 3) (aa 4) (sB v T0 E0 M b.length (some (ae (X g))) o5) (MB b X oo (g+1) m)=some (.ref (M+(g+1)),MB b X oo (g+1) m):=λo5 m oo=>by
  simp[sB,aZ,bP,qw l1,o1,C.kx g hg,C.KN (M:=M) hg]
 obtain⟨f,h',e,xb,vC,rfl,rfl,q⟩:=uJ (g:=nName 5) (b:=So) (mi:=aD (ah (aa 3) (aa 4))) (it:=mj (M+(g+1))) (σ:=sB v T0 E0 M b.length (some (ae (X g))) o5) (h:=MB b X oo (g+1) m) (h1:=MB b X oo (g+1) m) (cn d N g) (by unfold cn;split<;>first | lia | (split<;>lia))
  (λa σ H=>∃ o5 oo,σ=sB v T0 E0 M b.length (some (ae (X g))) o5/\H=MB b X oo (g+1) (m+a)/\oo.map (·.1)=(pp X (g+1+(m+a))).map (·.1))
  (λf H=>∃ o5 oo,f=.nx (sB v T0 E0 M b.length (some (ae (X g))) o5)/\H=MB b X oo (g+1) (m+cn d N g)/\oo.map (·.1)=(pp X (g+1+(m+cn d N g))).map (·.1))
  (by rw[fG,ix,abJ];simp[fF,qw l2,o2]) ⟨o5,oo,rfl,rfl,ho⟩
  (λa σ H ha ⟨o5,oo,hσ,hH,ho⟩=>by
   subst hσ hH
   have m0:m=0:=hm (by lia)
   subst m0
   have hj:g+1+a<N:=by unfold cn at ha;split at ha<;>first | lia | (split at ha<;>lia)
   have hp:par d (g+1+a)=g:=by unfold par;unfold cn at ha;split at ha<;>first | lia | (split at ha<;>lia)
   rw[Nat.zero_add]at ho ⊢
   have ok:=B8 (T0:=T0) (m:=a) (oo:=oo) C Q G F hg (show 1<=g+1+a by lia) hj hp rfl ho
   refine⟨ae (bH X d (g+1+a)),_,_,.nx (sB v T0 E0 M b.length (some (ae (X g))) (some (ae (bH X d (g+1+a))))),_,?_,rfl,ok,_,_,rfl,by rw[show 0+(a+1)=a+1 by lia],?_⟩
   ·unfold mj
    rw[qw l2,o2]
    simp[Pd,List.getElem?_range',ha]
   ·rw[show g+1+(0+(a+1))=(g+1+a)+1 by lia,u6];simp[ho])
  (λσ H ⟨o5,oo,hσ,hH,ho⟩=>⟨by rw[hH];unfold mj;rw[qw l2,o2];simp[Pd],o5,oo,by rw[hσ],hH,ho⟩)
 refine⟨xb,vC,?_,q⟩
 unfold PV aN
 rw[nW,e];rfl
theorem ya (C:Ch h0 v d N X W)(Q:Be b v d N E0 M X W ts)(G:Gd d N X W ts ori)(F:∀ j,Th.s j∈ts↔1<=j/\j<N)(hg:g<N)(hm:g+(m+1)=qb d N g)(ho:oo.map (·.1)=(pp X (g+(m+1))).map (·.1)) :
  ∃ KJ xb vC,PX (sB v T0 E0 M b.length o4 o5) (MB b X oo g (m+1))=some (.nx (sB v T0 E0 M b.length KJ xb),MB b X vC (g+1) (m+cn d N g))/\vC.map (·.1)=(pp X (g+1+(m+cn d N g))).map (·.1):=by
 have hd:=C.hd
 have Zj:g+m<N:=by unfold qb at hm;split at hm<;>lia
 have tk:=JH (b:=b) (oo:=oo) (m:=m) C Zj
 have tke:∀ o4,Sa (sB v T0 E0 M b.length o4 o5) (MB b X oo g (m+1))=some (.lst [ae (X g)],MB b X oo (g+1) m):=λo4=>by
  have yK:aL (MB b X oo g (m+1)) (.ref b.length)=some (b.length,c.cm,mf b.length):=by simp[MB,mh,aL]
  simp[Sa,sB,yK,mf,List.lookup,tk]
 obtain⟨xb,vC,il,q⟩:=yI (T0:=T0) (o5:=o5) C Q G F hg (m:=m) (oo:=oo) (λh=>by unfold cn at h;unfold qb at hm;split at hm<;>split at h<;>first | lia | (split at h<;>lia)) (by rw[ho,show g+(m+1)=g+1+m by lia])
 refine⟨some (ae (X g)),xb,vC,?_,q⟩
 have fo:df (aD Sa) (nName 4) PV (sB v T0 E0 M b.length o4 o5) (MB b X oo g (m+1))=some (.nx (sB v T0 E0 M b.length (some (ae (X g))) xb),MB b X vC (g+1) (m+cn d N g)):=by
  rw[qM,fG,tke]
  show CQ (lQ [ae (X g)]) _ _ _ _ _ _=_
  rw[tP (by lia),uR]
  show(some (some (ae (X g)))).bind _=_
  rw[abJ,D5]
  show(PV (sB v T0 E0 M b.length (some (ae (X g))) o5) _).bind _=_
  rw[il]
  show CQ (lQ [ae (X g)]) _ _ _ _ _ _=_
  rw[tP (by lia),uR];rfl
 unfold PX aN
 rw[nW,fo];rfl
end
section
variable {b h0:MH}{v d N g j m T0 E0 M i:Nat}{X W:Nat->NK.KD}{ts:List Th}{ori oo:List (NK.KD×U)}{o4 o5:Option U}
theorem PU {x:U}{pu:List U}{pri:List (NK.KD×U)}{stl:List (Key×U)}{R:MH}:J2 (sB v T0 E0 M b.length o4 o5) (mh b pri oo stl (x::pu) R)=some (true,mh b pri oo stl (x::pu) R):=by
 simp[J2,sB,mh,mf,aj,aL,List.lookup,mY]
theorem PR {pri:List (NK.KD×U)}{stl:List (Key×U)}{R:MH}:J2 (sB v T0 E0 M b.length o4 o5) (mh b pri oo stl [] R)=some (false,mh b pri oo stl [] R):=by
 simp[J2,sB,mh,mf,aj,aL,List.lookup,mY]
theorem xZ (C:Ch h0 v d N X W)(Q:Be b v d N E0 M X W ts)(G:Gd d N X W ts ori)(F:∀ j,Th.s j∈ts↔1<=j/\j<N){u:U} :
  ∃ KJ xb vC,c4 J2 PX (sB v T0 E0 M b.length o4 o5) (MB b X [(X 0,u)] 0 1)=some (.nx (sB v T0 E0 M b.length KJ xb),MB b X vC N 0):=by
 have hd:=C.hd
 have hn:=C.hn
 obtain⟨fl,h',e,KJ,xb,vC,rfl,rfl⟩:=er (c:=J2) (b:=PX)
  (I:=λn σ H=>∃ o4 o5 oo g,σ=sB v T0 E0 M b.length o4 o5/\n=N-g/\((g<N/\H=MB b X oo g (qb d N g-g)/\oo.map (·.1)=(pp X (qb d N g)).map (·.1))\/(g=N/\H=MB b X oo N 0)))
  (R:=λfl H=>∃ o4 o5 oo,fl=.nx (sB v T0 E0 M b.length o4 o5)/\H=MB b X oo N 0)
  (λn σ H I=>by
   obtain⟨o4,o5,oo,g,rfl,rfl,I⟩:=I
   rcases I with⟨hg,rfl,ho⟩ | ⟨rfl,rfl⟩
   ·obtain⟨m,hm⟩:∃ m,qb d N g-g=m+1:=⟨qb d N g-g-1,by unfold qb;split<;>lia⟩
    have Kl:g+(m+1)=qb d N g:=by lia
    rw[hm]
    obtain⟨KJ,xb,vC,r,HU⟩:=ya (T0:=T0) (o4:=o4) (o5:=o5) (oo:=oo) (m:=m) C Q G F hg Kl (by rw[ho,Kl])
    have tr:J2 (sB v T0 E0 M b.length o4 o5) (MB b X oo g (m+1))=some (true,MB b X oo g (m+1)):=by
     unfold MB;rw[xk];exact PU
    refine .inr ⟨_,_,_,tr,r,N-(g+1),by lia,KJ,xb,vC,g+1,rfl,rfl,?_⟩
    by_cases l:g+1<N
    ·left
     have e:m+cn d N g=qb d N (g+1)-(g+1):=by
      unfold qb cn;unfold qb at Kl
      split at Kl<;>split<;>split<;>first | lia | (split<;>lia)
     have e':g+1+(m+cn d N g)=qb d N (g+1):=by
      unfold qb cn;unfold qb at Kl
      split at Kl<;>split<;>split<;>first | lia | (split<;>lia)
     exact⟨l,by rw[e],by rw[HU,e']⟩
    ·right
     have e:m+cn d N g=0:=by
      unfold cn;unfold qb at Kl
      split at Kl<;>split<;>first | lia | (split<;>lia)
     have e1:g+1=N:=by lia
     exact⟨e1,by rw[e,e1]⟩
   ·refine .inl ⟨_,?_,o4,o5,oo,rfl,rfl⟩
    unfold MB AB
    exact PR)
  FU N (sB v T0 E0 M b.length o4 o5) (MB b X [(X 0,u)] 0 1) (jS (by lia)) ⟨o4,o5,[(X 0,u)],0,rfl,rfl,.inl ⟨by lia,by rw[show qb d N 0=1 by unfold qb;rw[abr (abO _)]],by rw[show qb d N 0=1 by unfold qb;rw[abr (abO _)]];rfl⟩⟩
 exact⟨KJ,xb,vC,e⟩
def Sq:MS:=az (aa 3) (aa 4) (bZ af)
def PZ:MS:=aN (aD (ah (ba (aj c.ck.cl "stands") (aa 2)) (aa 4))) .keys (ah (ba (aj c.ck.cl "stands") (aa 2)) (aa 4)) (nName 5) (aK (i9 aV (ah (aa 3) (ah (aa 5) (mC (.int 0)))) (ab (aa 5) af)))
noncomputable def sO (v T0 E0 M:Nat)(o4 o5:Option U):bG:=[some (.ref v),some (.ref T0),some (.ref E0),some (.ref M),o4,o5,none]
noncomputable def B4 (i:Nat):MH:=List.replicate i (.lst [])
theorem ID:od X M (i+1)=od X M i++[(X i,.ref (M+(i+1)))]:=by simp[od,abZ]
theorem Ch.MV (C:Ch h0 v d N X W)(hi:i<N):X i∉(od X M i).map (·.1):=by
 simp only[od,abT,abu,abQ]
 rintro⟨j,hj,e⟩
 have:=C.inj j i (by lia) hi e
 lia
theorem JN (C:Ch h0 v d N X W)(hi:i<N):Sq (sO v T0 E0 b.length (some (ae (X i))) o5) (b++(.dT (od X b.length i)::B4 i))=some (.nx (sO v T0 E0 b.length (some (ae (X i))) o5),b++(.dT (od X b.length (i+1))::B4 (i+1))):=by
 have hn:=C.hn
 have nw:=C.MV (M:=b.length) hi
 have l1:(od X b.length i).length<1000000:=by simp[od];lia
 have nl:B4 (i+1)=B4 i++[.lst []]:=by simp[B4,List.replicate_succ']
 have ll:(B4 i).length=i:=by simp[B4]
 rw[ID,nl]
 generalize od X b.length i=D at nw l1 ⊢
 generalize B4 i=P at ll ⊢
 simp[Sq,sO,aZ,ed,C.kx i hi,cE nw,l1,ll]
end
section
variable {b h0:MH}{v d N g j T0 E0 M i:Nat}{X W:Nat->NK.KD}{o5:Option U}
structure Es (b:MH)(v d N E0:Nat)(X:Nat->NK.KD):Prop where
 e:b[E0]?=some (eo v E0)
 s:b[E0+6]?=some (.dT (sd X E0 N))
 l:∀ i,i<N->b[E0+(2*i+8)]?=some (.lst (fp X d (λj=>1<=j) i))
def ct (d N i g:Nat):Nat:=min (cn d N g) (i-(g+1))
def ol (X:Nat->NK.KD)(d N i:Nat):MH:=(List.range N).map λg=>.lst ((List.range' (g+1) (ct d N i g)).map λj=>ae (bH X d j))
theorem EO (hg:g<N):(ol X d N i)[g]?=some (.lst ((List.range' (g+1) (ct d N i g)).map λj=>ae (bH X d j))):=by simp[ol,ab3 hg]
theorem P6 (h:g<d):cn d N g=1:=abr h
theorem T7:cn d N d=N-(d+1):=(abo (Nat.lt_irrefl d)).trans (abr rfl)
theorem KS (h:i<=d):par d i=i-1:=acv (by lia)
theorem KR (h:d<i):par d i=d:=Nat.min_eq_right (by lia)
theorem DC (h:i<=g+1):ct d N i g=0:=by unfold ct;rw[Nat.sub_eq_zero_of_le h,Nat.min_zero]
theorem P8 (h1:1<=i)(hi:i<N):ct d N (i+1) (par d i)=ct d N i (par d i)+1/\par d i+1+ct d N i (par d i)=i:=by
 by_cases a:i<=d
 ·rw[KS a,DC (i:=i) (by lia)]
  refine⟨?_,by lia⟩
  unfold ct
  rw[P6 (by lia),acv (by lia)]
 ·have a:d<i:=Nat.lt_of_not_le a
  rw[KR a]
  unfold ct
  rw[T7,Nat.min_eq_right (by lia),Nat.min_eq_right (by lia)]
  lia
theorem LL (h1:1<=i)(e:par d i≠g):ct d N (i+1) g=ct d N i g:=by
 by_cases b:i<=g
 ·rw[DC (by lia),DC (by lia)]
 ·unfold ct
  by_cases c:g<d
  ·have:i≠g+1:=λz=>e (by subst z;exact KS c)
   rw[P6 c,acv (by lia),acv (by lia)]
  ·have:g≠d:=λz=>e (by subst z;exact KR (by lia))
   have z:cn d N g=0:=(abo c).trans (abo this)
   rw[z,Nat.zero_min,Nat.zero_min]
theorem MX (h1:1<=i)(hi:i<N)(hd:d<N):(ol X d N i).set (par d i) (.lst ((List.range' (par d i+1) (ct d N i (par d i))).map (λj=>ae (bH X d j))++[ae (bH X d i)]))=ol X d N (i+1):=by
 apply List.ext_getElem?
 intro g
 by_cases hg:g<N
 ·rw[EO hg]
  by_cases e:par d i=g
  ·subst e
   obtain⟨e1,e2⟩:=P8 (d:=d) h1 hi
   rw[abR (by simpa [ol]using hg),e1,List.range'_concat]
   simp[e2]
  ·rw[abF e,EO hg,LL h1 e]
 ·have z:∀ i,(ol X d N i).length=N:=λi=>by simp[ol]
  have hg:=Nat.le_of_not_lt hg
  rw[acA (by rw[ab8,z];exact hg),acA (by rw[z];exact hg)]
theorem Vu:ol X d N 1=ol X d N 0:=by
 unfold ol
 refine List.map_congr_left λg _=>?_
 rw[DC (by lia),DC (by lia)]
theorem JO (C:Ch h0 v d N X W)(Q:Es b v d N E0 X)(hi:i<N):∃ xb,PZ (sO v T0 E0 b.length (some (ae (X i))) o5) (b++(.dT (od X b.length N)::ol X d N i))=some (.nx (sO v T0 E0 b.length (some (ae (X i))) xb),b++(.dT (od X b.length N)::ol X d N (i+1))):=by
 have hd:=C.hd
 have hn:=C.hn
 have r1:∀ x,(b++x)[E0]?=some (eo v E0):=λx=>by rw[abq (abn.mp Q.e).1];exact Q.e
 have r2:∀ x,(b++x)[E0+6]?=some (.dT (sd X E0 N)):=λx=>by rw[abq (abn.mp Q.s).1];exact Q.s
 have r3:∀ x,(b++x)[E0+(2*i+8)]?=some (.lst (fp X d (λj=>1<=j) i)):=λx=>by rw[abq (abn.mp (Q.l i hi)).1];exact Q.l i hi
 have sa:=C.xr (L:=E0) hi
 have ix:∀ o5 x,ah (ba (aj c.ck.cl "stands") (aa 2)) (aa 4) (sO v T0 E0 b.length (some (ae (X i))) o5) (b++x)=some (.ref (E0+(2*i+8)),b++x):=λo5 x=>by
  simp[sO,aj,aL,r1,eo,ef,List.lookup,aZ,bP,r2,C.kx i hi,sa]
 by_cases z:i=0
 ·subst z
  refine⟨o5,?_⟩
  rw[Vu]
  have fo:df (aD (ah (ba (aj c.ck.cl "stands") (aa 2)) (aa 4))) (nName 5) (aK (i9 aV (ah (aa 3) (ah (aa 5) (mC (.int 0)))) (ab (aa 5) af))) (sO v T0 E0 b.length (some (ae (X 0))) o5) (b++(.dT (od X b.length N)::ol X d N 0))=some (.nx (sO v T0 E0 b.length (some (ae (X 0))) o5),b++(.dT (od X b.length N)::ol X d N 0)):=by
   rw[qM,fG,ix,abJ]
   simp[fF,r3,fp,mj]
  unfold PZ aN
  rw[nW,fo];rfl
 ·refine⟨some (ae (bH X d i)),?_⟩
  have f1:fp X d (λj=>1<=j) i=[ae (bH X d i)]:=by unfold fp;rw[abr (by lia)]
  rw[f1]at r3
  have hp:par d i<N:=by unfold par;lia
  have oa:=C.KN (M:=b.length) hp
  have la:=EO (X:=X) (d:=d) (i:=i) hp
  have st:=MX (X:=X) (d:=d) (N:=N) (i:=i) (by lia) hi hd
  have lc:((List.range' (par d i+1) (ct d N i (par d i))).map λj=>ae (bH X d j)).length<1000000:=by
   have:ct d N i (par d i)<=i:=by unfold ct;lia
   simp;lia
  have bd:aK (i9 aV (ah (aa 3) (ah (aa 5) (mC (.int 0)))) (ab (aa 5) af)) (sO v T0 E0 b.length (some (ae (X i))) (some (ae (bH X d i)))) (b++(.dT (od X b.length N)::ol X d N i))=some (.nx (sO v T0 E0 b.length (some (ae (X i))) (some (ae (bH X d i)))),b++(.dT (od X b.length N)::ol X d N (i+1))):=by
   rw[<-st]
   generalize ol X d N i=P at la ⊢
   generalize ((List.range' (par d i+1) (ct d N i (par d i))).map λj=>ae (bH X d j))=L at la lc ⊢
   rw[i4]
   simp[sO,aZ,bP,C.kx _ hp,oa,bE,la,aV,lc]
  have fo:df (aD (ah (ba (aj c.ck.cl "stands") (aa 2)) (aa 4))) (nName 5) (aK (i9 aV (ah (aa 3) (ah (aa 5) (mC (.int 0)))) (ab (aa 5) af))) (sO v T0 E0 b.length (some (ae (X i))) o5) (b++(.dT (od X b.length N)::ol X d N i))=some (.nx (sO v T0 E0 b.length (some (ae (X i))) (some (ae (bH X d i)))),b++(.dT (od X b.length N)::ol X d N (i+1))):=by
   rw[qM,fG,ix,abJ]
   have sk:fF (b++(.dT (od X b.length N)::ol X d N i)) (.ref (E0+(2*i+8)))=some (mj (E0+(2*i+8)),b++(.dT (od X b.length N)::ol X d N i)):=by simp[fF,r3]
   dsimp only
   rw[sk,abJ]
   have ZM:∀ x,mj (E0+(2*i+8)) 0 (b++x)=some (some (ae (bH X d i))):=λx=>by simp[mj,r3]
   have ZN:∀ x,mj (E0+(2*i+8)) 1 (b++x)=some none:=λx=>by simp[mj,r3]
   dsimp only
   rw[tP (by lia),ZM,abJ,D5]
   show(aK _ (sO v T0 E0 b.length (some (ae (X i))) (some (ae (bH X d i)))) _).bind _=_
   rw[bd]
   show CQ _ _ _ _ _ _ _=_
   rw[tP (by lia),ZN];rfl
  unfold PZ aN
  rw[nW,fo];rfl
end
section
variable {bb:MH}{v d N g j T0 E0 i:Nat}{X W:Nat->NK.KD}{ts:List Th}{ori oo:List (NK.KD×U)}{kvs:List (NK.KD×U)}
theorem qN (t:Tb bb T0 N X kvs)(hN:N<=100){b:MS}{σ0:Option U->Option U->bG}{S0:Nat->MH->MH}{j jn:Nat}(hv:∀ o p H,aa j (σ0 o p) H=some (.ref T0,H))(hg:∀ o p u H,nName jn u (σ0 o p) H=some (σ0 (some u) p,H))(lo:∀ i bb',bb'.length=bb.length->∀ o,(S0 i bb')[T0]?=bb'[T0]?/\(S0 i bb').set T0 o=S0 i (bb'.set T0 o))
  (turn:∀ i,i<N->∀ p,∃ p',b (σ0 (some (ae (X i))) p) (S0 i (bb.set T0 (.fT kvs)))=some (.nx (σ0 (some (ae (X i))) p'),S0 (i+1) (bb.set T0 (.fT kvs)))) {o p:Option U} :
  ∃ o' p',aN (aD (aa j)) .keys (aa j) (nName jn) b (σ0 o p) (S0 0 bb)=some (.nx (σ0 o' p'),S0 N bb):=by
 have hl:=t.lt
 obtain⟨f,h',e1,o',p',rfl,rfl⟩:=ei (g:=nName jn) (b:=b) (mi:=cO .keys (aa j)) (it:=lQ (kvs.map (iP .keys))) (us:=kvs.map (iP .keys)) (σ:=σ0 o p) (h:=S0 0 bb) (h1:=S0 0 (bb.set T0 (.fT kvs)))
  (λi σ H=>∃ o p,σ=σ0 o p/\H=S0 i (bb.set T0 (.fT kvs))) (λf H=>∃ o p,f=.nx (σ0 o p)/\H=S0 N (bb.set T0 (.fT kvs)))
  (by
   unfold cO
   rw[hv]
   simp[(lo 0 bb rfl (.fT kvs)).1,(lo 0 bb rfl (.fT kvs)).2,t.at'])
  (λi H=>rfl) (by rw[t.us];simp;lia) ⟨o,p,rfl,rfl⟩
  (λi u σ H hu ⟨o,p,hσ,hH⟩=>by
   subst hσ hH
   rw[t.us]at hu
   have hi:i<N:=by
    have:=(abn.mp hu).1
    simpa using this
   have eu:u=ae (X i):=by simp[ab3 hi]at hu;exact hu.symm
   subst eu
   obtain⟨p',tr⟩:=turn i hi p
   exact⟨_,_,.nx (σ0 (some (ae (X i))) p'),_,hg o p _ _,tr,_,_,rfl,rfl⟩)
  (λσ H ⟨o,p,hσ,hH⟩=>⟨o,p,by rw[hσ],by rw[hH,t.us];simp⟩)
 refine⟨o',p',?_⟩
 have l1:=lo 0 bb rfl (.fT kvs)
 have l2:=lo N (bb.set T0 (.fT kvs)) (by simp) (.dT kvs)
 have at2:(S0 N (bb.set T0 (.fT kvs)))[T0]?=some (.fT kvs):=by rw[l2.1,abR hl]
 rw[tF (hv o p _) (by rw[l1.1];exact t.at') e1 at2,l2.2,gK t.at']
theorem Ez {i:Nat}(r:Nat->MH)(hT:T0<bb.length):∀ (bb':MH),bb'.length=bb.length->∀ o,(bb'++r i)[T0]?=bb'[T0]?/\(bb'++r i).set T0 o=bb'.set T0 o++r i:=λbb' hb o=>
 ⟨abq (by lia),acB _ _ (by lia)⟩
theorem MW (hd:d<N):ol X d N N=(List.range N).map λg=>.lst ((Pd d N g).map λj=>ae (bH X d j)):=by
 unfold ol
 refine List.map_congr_left λg hg=>?_
 have hg:=abQ.mp hg
 have:ct d N N g=cn d N g:=by unfold ct cn;split<;>first | lia | (split<;>lia)
 rw[this];rfl
theorem ER:ol X d N 0=B4 N:=by
 unfold ol B4
 apply List.ext_getElem?
 intro g
 by_cases hg:g<N
 ·have:ct d N 0 g=0:=by unfold ct;lia
  simp[ab3 hg,this,List.getElem?_replicate,hg]
 ·rw[acA (by simp;lia),acA (by simp;lia)]
abbrev Hl:MF:=jM c.ck c.cm (dv c.ck) uY d9 nZ
theorem Df (C:Ch bb v d N X W)(t:Tb bb T0 N X kvs)(Q:Es bb v d N E0 X)(hTE:T0<E0)(e2:bb[E0+1]?=some (.ins c.cm (mf (E0+1))))(e3:bb[E0+2]?=some (.dT (pri X W d N ts)))(G:Gd d N X W ts ori)(F:∀ j,Th.s j∈ts↔1<=j/\j<N) :
  ∃ b3 oo,Hl [.ref v,.ref T0,.ref E0] bb=some (.ref (bb++b3).length,MB (bb++b3) X oo N 0):=by
 have hd:=C.hd
 have hn:=C.hn
 have hT:=t.lt
 have lF:(bb.set T0 (.fT kvs)).length=bb.length:=by simp
 have QF:Es (bb.set T0 (.fT kvs)) v d N E0 X:=⟨by rw[abF (by lia)];exact Q.e,by rw[abF (by lia)];exact Q.s,λi hi=>by rw[abF (by lia)];exact Q.l i hi⟩
 obtain⟨p1,XQ,l1⟩:=qN t hn (b:=Sq) (j:=1) (jn:=4) (σ0:=λo p=>sO v T0 E0 bb.length o p) (S0:=λi bb'=>bb'++(.dT (od X bb'.length i)::B4 i))
  (λo p H=>by simp[sO]) (λo p u H=>by simp[sO]) (λi bb' hb o=>by
   have:=Ez (T0:=T0) (bb:=bb) (i:=i) (λi=>.dT (od X bb'.length i)::B4 i) hT bb' hb o
   exact⟨this.1,by rw[this.2,ab8]⟩)
  (λi hi p=>⟨p,by
   have:=JN (b:=bb.set T0 (.fT kvs)) (T0:=T0) (E0:=E0) (o5:=p) C hi
   rw[lF]at this
   rw[lF]
   exact this⟩) (o:=none) (p:=none)
 obtain⟨p2,Vx,l2⟩:=qN t hn (b:=PZ) (j:=1) (jn:=4) (σ0:=λo p=>sO v T0 E0 bb.length o p) (S0:=λi bb'=>bb'++(.dT (od X bb'.length N)::ol X d N i))
  (λo p H=>by simp[sO]) (λo p u H=>by simp[sO]) (λi bb' hb o=>by
   have:=Ez (T0:=T0) (bb:=bb) (i:=i) (λi=>.dT (od X bb'.length N)::ol X d N i) hT bb' hb o
   exact⟨this.1,by rw[this.2,ab8]⟩)
  (λi hi p=>by
   obtain⟨p',this⟩:=JO (b:=bb.set T0 (.fT kvs)) (T0:=T0) (o5:=p) C QF hi
   refine⟨p',?_⟩
   rw[lF]at this
   rw[lF]
   exact this) (o:=p1) (p:=XQ)
 let b3:MH:=.dT (od X bb.length N)::ol X d N N
 have Uz:b3=.dT (od X bb.length N)::ol X d N N:=rfl
 have B:Be (bb++b3) v d N E0 bb.length X W ts:=⟨by rw[abq (abn.mp Q.e).1];exact Q.e,by rw[abq (abn.mp e2).1];exact e2,by rw[abq (abn.mp e3).1];exact e3,by rw[Uz];simp,λg hg=>by
  rw[Uz,pF,abB,MW hd];simp[ab3 hg]⟩
 obtain⟨KJ,xb,vC,lp⟩:=xZ (b:=bb++b3) (T0:=T0) (o4:=p2) (o5:=Vx) (u:=.aq) C B G F
 refine⟨b3,vC,bc ?_⟩
 show gm _ _ _ _ _ _ [some (.ref v),some (.ref T0),some (.ref E0),none,none,none,none] bb=_
 unfold gm
 rw[ai (σ':=sO v T0 E0 bb.length none none) (h':=bb++[.dT []]) (by simp[sO])]
 have Vg:aN (aD (aa 1)) .keys (aa 1) (nName 4) Sq (sO v T0 E0 bb.length none none) (bb++[.dT []])=some (.nx (sO v T0 E0 bb.length p1 XQ),bb++(.dT (od X bb.length N)::ol X d N 0)):=by
  rw[ER]
  simpa [od,B4]using l1
 refine(ai Vg).trans ?_
 refine(ai (show aN _ _ _ _ PZ _ _=_ from l2)).trans ?_
 have mi:=wU (b:=bb++b3)
 rw[ai (σ':=sB v T0 E0 bb.length (bb++b3).length p2 Vx) (h':=mh (bb++b3) [] [] [] [] []) (by
  rw[<-Uz]
  generalize bb++b3=Z at mi ⊢
  simp[sO,sB,mi])]
 have fr:=C.front (b3++(.ins c.cm (mf (bb++b3).length)::.dT []::.dT []::.dK []::[.lst []]))
 rw[<-aca]at fr
 have of:=oS (b:=bb++b3) (pri:=[]) (ori:=[]) (stl:=[]) (pen:=[]) (R:=[]) (th:=X 0) (p:=0) (o:=.aq) (C.kx 0 (by lia)) (by simp) (by simp) (by simp) (by simp) (by simp) (by simp) (by simp) (by simp)
 rw[ai (σ':=sB v T0 E0 bb.length (bb++b3).length p2 Vx) (h':=MB (bb++b3) X [(X 0,.aq)] 0 1) (by
  have yK:aL (mh (bb++b3) [] [] [] [] []) (.ref (bb++b3).length)=some ((bb++b3).length,c.cm,mf (bb++b3).length):=by simp[mh,aL]
  have Uq:dv c.ck [.ref v] (mh (bb++b3) [] [] [] [] [])=some (ae (X 0),mh (bb++b3) [] [] [] [] []):=fr
  have Pg:d9 [.ref (bb++b3).length,ae (X 0),.int 0,.aq] (mh (bb++b3) [] [] [] [] [])=some (.aq,MB (bb++b3) X [(X 0,.aq)] 0 1):=by
   refine of.trans ?_
   simp[MB,pp,ub,AB,R2,abZ]
  generalize MB (bb++b3) X [(X 0,.aq)] 0 1=Z2 at Pg ⊢
  generalize mh (bb++b3) [] [] [] [] []=Z1 at yK Uq Pg ⊢
  generalize (bb++b3).length=z at yK Uq Pg ⊢
  simp[sB,yK,mf,List.lookup,Uq,Pg])]
 refine(ai (show c4 J2 PX _ _=_ from lp)).trans ?_
 simp[sB]
end
section
variable {h0 P:MH}{v d N:Nat}{X W:Nat->NK.KD}
structure Rk (H:MH)(L0 d N:Nat)(X W:Nat->NK.KD)(T0 E1 M3:Nat)(ts:List Th):Prop where
 r:∃ v,H[L0]?=some (.ins c.cr [("view",.ref v),("table",.ref T0),("endings",.ref E1),("beginnings",.ref M3)])
 t:H[T0]?=some (.dT (nt X (T0+1) N))
 l:∀ i,i<N->H[T0+1+i]?=some (.lst [ae (W i)])
 e1:H[E1]?=some (.ins c.cm (mf E1))
 e2:H[E1+1]?=some (.dT (pri X W d N ts))
 b1:H[M3]?=some (.ins c.cm (mf M3))
 b2:H[M3+1]?=some (.dT (pp X N))
abbrev K8:MF:=iX c.ck zF LV Hl
theorem Jj (C:Ch h0 v d N X W)(kk:∀ i,i<N->cL (ae (.tup [X i,W i]))=some (.tup [X i,W i])) :
  ∃ g T0 E1 M3 ts ori,K8 [.ref h0.length,.ref v] (h0++[.ins c.cr []])=some (.aq,h0++g)/\Rk (h0++g) h0.length d N X W T0 E1 M3 ts/\Gd d N X W ts ori/\(∀ j,Th.s j∈ts↔1<=j/\j<N)/\(∀ j,Th.w j∈ts↔j<N):=by
 have hd:=C.hd
 have hn:=C.hn
 obtain⟨P,hP,tb⟩:=Gp (C.ext [.ins c.cr [("view",.ref v)]])
 have l1:(h0++[MO.ins c.cr [(("view":Str),U.ref v)]]).length=h0.length+1:=by simp
 rw[l1]at tb
 generalize hT0:h0.length+1+(2*N+4)=T0 at tb
 have Y1:h0.length+1+(2*N+5)=T0+1:=by lia
 rw[Y1]at tb
 let bR:MO->MH:=λo=>h0++(o::(P++(.dT (nt X (T0+1) N)::nl W N)))
 have CN:∀ o,(bR o).length=T0+1+N:=λo=>by simp[bR,hP,nl];lia
 have PQ:∀ o o',(bR o).set h0.length o'=bR o':=λo o'=>by simp[bR]
 have bRat:∀ o,(bR o)[h0.length]?=some o:=λo=>by simp[bR]
 have T4:∀ o,(bR o)[T0]?=some (.dT (nt X (T0+1) N)):=λo=>by
  show(h0++_)[T0]?=_
  rw[show T0=h0.length+(P.length+1) by lia,pF,abB,abt (abl _)];simp
 have YE:∀ o i,i<N->(bR o)[T0+1+i]?=some (.lst [ae (W i)]):=λo i hi=>by
  show(h0++_)[T0+1+i]?=_
  rw[show T0+1+i=h0.length+(P.length+(i+1)+1) by lia,pF,abB,abt (by lia),show P.length+(i+1)-P.length=i+1 by lia,abB]
  simp[nl,ab3 hi]
 have Cb:∀ o,Ch (bR o) v d N X W:=λo=>C.ext _
 have Tb':∀ o,Tb (bR o) T0 N X (nt X (T0+1) N):=λo=>⟨T4 o,by simp[nt,aci]⟩
 have CbF:∀ o kvs,Ch ((bR o).set T0 (.fT kvs)) v d N X W:=λo kvs=>by
  have:(bR o).set T0 (.fT kvs)=h0++((o::(P++(.dT (nt X (T0+1) N)::nl W N))).set (T0-h0.length) (.fT kvs)):=by
   show(h0++_).set _ _=_
   rw[abN _ _ (by lia)]
  rw[this];exact C.ext _
 let R1:MO:=.ins c.cr [("view",.ref v),("table",.ref T0)]
 obtain⟨_,en,⟨ts,ori,f,g,ar,G,F⟩⟩:=yv (CbF R1 _) (Cb R1) (Tb' R1) kk
 have hE:(bR R1).length=T0+1+N:=CN R1
 let zU:MO:=.ins c.cr [("view",.ref v),("table",.ref T0),("endings",.ref (T0+1+N+1))]
 have sE':(EH (bR R1) v d N X W ts ori [] [] f g ar).set h0.length zU=EH (bR zU) v d N X W ts ori [] [] f g ar:=by
  unfold EH
  rw[yt (by rw[CN];lia),PQ,CN,CN]
 let bb:=EH (bR zU) v d N X W ts ori [] [] f g ar
 have OW:bb=bR zU++(eo v (T0+1+N)::.ins c.cm (mf (T0+1+N+1))::.dT (pri X W d N ts)::.dT ori::.dK []::.lst []::(.dT (sd X (T0+1+N) N)::.dT (wl X (T0+1+N) N)::(lq f g N++ar))):=by
  show EH _ _ _ _ _ _ _ _ _ _ _ _ _=_
  unfold EH eh
  rw[CN]
 have bblo:∀ x,x<T0+1+N->bb[x]?=(bR zU)[x]?:=λx hx=>by rw[OW,abq (by rw[CN];exact hx)]
 have bbat:∀ x,bb[T0+1+N+x]?=(eo v (T0+1+N)::.ins c.cm (mf (T0+1+N+1))::.dT (pri X W d N ts)::.dT ori::.dK []::.lst []::(.dT (sd X (T0+1+N) N)::.dT (wl X (T0+1+N) N)::(lq f g N++ar)))[x]?:=λx=>by rw[OW,<-CN zU,pF]
 have CB:Ch bb v d N X W:=by rw[OW];exact(Cb zU).ext _
 have TB:Tb bb T0 N X (nt X (T0+1) N):=⟨by rw[bblo _ (by lia)];exact T4 _,(Tb' zU).ks⟩
 have Z4:∀ i,i<N->(lq f g N)[2*i]?=some (.lst (f i)):=λi hi=>by
  obtain⟨Q,q1,_⟩:=EB f g hi
  rw[q1,abt (by rw[gq];lia),gq];simp
 have ES:Es bb v d N (T0+1+N) X:=⟨bbat 0,bbat 6,λi hi=>by
  rw[bbat,show 2*i+8=(2*i)+8 by lia]
  simp only[abB]
  rw[abq (by rw[gq];lia),Z4 i hi,F.f i hi]⟩
 obtain⟨b3,oo,be⟩:=Df CB TB ES (by lia) (bbat 1) (bbat 2) G F.s
 let M3:=(bb++b3).length
 let R3:MO:=.ins c.cr [("view",.ref v),("table",.ref T0),("endings",.ref (T0+1+N+1)),("beginnings",.ref M3)]
 let HF:=(MB (bb++b3) X oo N 0).set h0.length R3
 have l0:h0.length<T0:=by lia
 have bbl:T0+1+N<bb.length:=by rw[OW];simp[CN]
 have TL:∀ x,x<(bb++b3).length->h0.length≠x->HF[x]?=(bb++b3)[x]?:=λx hx HS=>by
  show((MB (bb++b3) X oo N 0).set h0.length R3)[x]?=_
  rw[abF HS,qw hx]
 have G3:∀ x,x<bb.length->h0.length≠x->HF[x]?=bb[x]?:=λx hx HS=>by
  rw[TL x (by rw[aby];lia) HS,abq hx]
 have Px:∀ x,HF[M3+x]?=(MB (bb++b3) X oo N 0)[M3+x]?:=λx=>by
  show((MB (bb++b3) X oo N 0).set h0.length R3)[M3+x]?=_
  rw[abF]
  have:bb.length<=M3:=by show bb.length<=(bb++b3).length;rw[aby];lia
  lia
 have shape:∃ g,HF=h0++g:=by
  refine⟨HF.drop h0.length,?_⟩
  have:HF.take h0.length=h0:=by
   show((MB (bb++b3) X oo N 0).set h0.length R3).take h0.length=h0
   rw[List.take_set_of_le (abl _)]
   unfold MB mh
   rw[OW]
   show(h0++_++_++_++_).take _=_
   simp
  exact(List.take_append_drop h0.length HF).symm.trans (by rw[this])
 obtain⟨gg,Xm⟩:=shape
 have eb:bb[T0+1+N+1+1]?=some (.dT (pri X W d N ts)):=bbat 2
 refine⟨gg,T0,T0+1+N+1,M3,ts,ori,?_,?_,G,F.s,F.w⟩
 ·rw[<-Xm]
  refine eR (σ:=[some (.ref h0.length),some (.ref v),some (.ref (T0+1+N))]) ?_
  show fA c.ck zF LV Hl [some (.ref h0.length),some (.ref v),none] _=_
  unfold fA
  rw[ai (σ':=[some (.ref h0.length),some (.ref v),none]) (h':=h0++[.ins c.cr [("view",.ref v)]]) (by simp[bU,aL,fx])]
  rw[ai (σ':=[some (.ref h0.length),some (.ref v),none]) (h':=bR R1) (by
   simp[tb]
   simp[bU,aL,fx,bR,R1])]
  have f1:aj c.ck.cl "table" (.ref h0.length) (bR R1)=some (.ref T0,bR R1):=by
   unfold aj aL;dsimp only;rw[bRat];simp[R1,List.lookup]
  rw[hE]at en
  rw[ai (σ':=[some (.ref h0.length),some (.ref v),some (.ref (T0+1+N))]) (h':=EH (bR R1) v d N X W ts ori [] [] f g ar) (by
   generalize bR R1=Z at f1 en ⊢
   simp[f1,en])]
  have z1:(EH (bR R1) v d N X W ts ori [] [] f g ar)[h0.length]?=some R1:=by
   unfold EH eh;rw[abq (by rw[CN];lia)];exact bRat R1
  have z2:(EH (bR R1) v d N X W ts ori [] [] f g ar)[T0+1+N]?=some (eo v (T0+1+N)):=by
   unfold EH eh;rw[abt (by rw[CN];lia),CN];simp
  have f2:aj c.ck.cl "market" (.ref (T0+1+N)) (EH (bR R1) v d N X W ts ori [] [] f g ar)=some (.ref (T0+1+N+1),EH (bR R1) v d N X W ts ori [] [] f g ar):=by
   generalize EH (bR R1) v d N X W ts ori [] [] f g ar=Z at z2 ⊢
   unfold aj aL;dsimp only;rw[z2];simp[eo,ef,List.lookup]
  have f3:bU c.ck.cl "endings" (.ref h0.length) (.ref (T0+1+N+1)) (EH (bR R1) v d N X W ts ori [] [] f g ar)=some bb:=by
   refine Eq.trans ?_ (congrArg some sE')
   generalize EH (bR R1) v d N X W ts ori [] [] f g ar=Z at z1 ⊢
   unfold bU aL;dsimp only;rw[z1];simp[R1,zU,fx]
  rw[ai (σ':=[some (.ref h0.length),some (.ref v),some (.ref (T0+1+N))]) (h':=bb) (by
   generalize EH (bR R1) v d N X W ts ori [] [] f g ar=Z at f2 f3 ⊢
   generalize bb=Y at f3 ⊢
   simp[f2,f3])]
  have z3:bb[h0.length]?=some zU:=(bblo _ (by lia)).trans (bRat zU)
  have f4:aj c.ck.cl "table" (.ref h0.length) bb=some (.ref T0,bb):=by
   generalize bb=Z at z3 ⊢
   unfold aj aL;dsimp only;rw[z3];simp[zU,List.lookup]
  have z4:(MB (bb++b3) X oo N 0)[h0.length]?=some zU:=by
   rw[qw (by rw[aby];lia),abq (by lia)];exact z3
  have f5:bU c.ck.cl "beginnings" (.ref h0.length) (.ref M3) (MB (bb++b3) X oo N 0)=some HF:=by
   show bU c.ck.cl "beginnings" (.ref h0.length) (.ref M3) (MB (bb++b3) X oo N 0)=some ((MB (bb++b3) X oo N 0).set h0.length R3)
   generalize MB (bb++b3) X oo N 0=Z at z4 ⊢
   unfold bU aL;dsimp only;rw[z4];simp[zU,R3,fx]
  have WJ:Hl [.ref v,.ref T0,.ref (T0+1+N)] bb=some (.ref M3,MB (bb++b3) X oo N 0):=be
  clear_value bb HF M3
  generalize MB (bb++b3) X oo N 0=Z at f5 WJ ⊢
  simp[f4,WJ,f5]
 ·rw[<-Xm]
  have bM:bb.length<=M3:=by show bb.length<=(bb++b3).length;rw[aby];lia
  have ro:HF[h0.length]?=some R3:=by
   show((MB (bb++b3) X oo N 0).set h0.length R3)[h0.length]?=_
   rw[abR]
   have:(bb++b3).length<=(MB (bb++b3) X oo N 0).length:=by unfold MB mh;rw[aby (bs:=_::_)];lia
   have:=bM
   lia
  have YF:T0+1+N+2<bb.length:=by rw[OW];simp[CN]
  exact⟨⟨v,ro⟩,by rw[G3 _ (by lia) (by lia),bblo _ (by lia)];exact T4 _,
   λi hi=>by rw[G3 _ (by lia) (by lia),bblo _ (by lia)];exact YE _ i hi,
   by rw[G3 _ (by lia) (by lia)];exact bbat 1,
   by rw[G3 _ (by lia) (by lia)];exact eb,
   by
    have:=Px 0
    rw[Nat.add_zero]at this
    rw[this]
    show(mh (bb++b3) _ _ _ _ _)[(bb++b3).length]?=_
    unfold mh;rw[abt (abl _)];simp[M3],
   by
    rw[Px 1]
    show(mh (bb++b3) _ _ _ _ _)[(bb++b3).length+1]?=_
    unfold mh;rw[abt (by lia)];simp⟩
end
section
variable {h0 B:MH}{v d N L0 T0 E1 M3 i:Nat}{X W:Nat->NK.KD}{ts:List Th}{ori:List (NK.KD×U)}
noncomputable def wp (X W:Nat->NK.KD)(d N i:Nat):List (NK.KD×U):=(List.range i).map λj=>(.tup [X j,W j],.int ((Th.w j).aU d N))
theorem JZ:wp X W d N (i+1)=wp X W d N i++[(.tup [X i,W i],.int ((Th.w i).aU d N))]:=by simp[wp,abZ]
structure Rq (B:MH)(L0 d N:Nat)(X W:Nat->NK.KD)(T0 E1 M3:Nat)(ts:List Th):Prop where
 r:∃ v,B[L0]?=some (.ins c.cr [("view",.ref v),("table",.ref T0),("endings",.ref E1),("beginnings",.ref M3)])
 l:∀ i,i<N->B[T0+1+i]?=some (.lst [ae (W i)])
 e1:B[E1]?=some (.ins c.cm (mf E1))
 e2:B[E1+1]?=some (.dT (pri X W d N ts))
 b1:B[M3]?=some (.ins c.cm (mf M3))
 b2:B[M3+1]?=some (.dT (pp X N))
theorem Ey {t:Nat}{o:MO}(e:B[t]?=some o)(r:MH):(B++r)[t]?=some o:=by
 rw[abq (abn.mp e).1];exact e
def Sr:MS:=ag (az (aa 1) (aa 3) (ah (ba (aj c.ck.cl "prices") (ba (aj c.ck.cl "beginnings") (aa 0))) (aa 3)))
  (aN (aD (aa 4)) .keys (aa 4) (nName 5) (az (aa 2) (av (ab (aa 3) (ab (aa 5) af))) (ah (ba (aj c.ck.cl "prices") (ba (aj c.ck.cl "endings") (aa 0))) (av (ab (aa 3) (ab (aa 5) af))))))
theorem Bl (C:Ch h0 v d N X W)(kk:∀ i,i<N->cL (ae (.tup [X i,W i]))=some (.tup [X i,W i]))(Q:Rq B L0 d N X W T0 E1 M3 ts)(G:Gd d N X W ts ori)(F:∀ j,Th.w j∈ts↔j<N)(hi:i<N){o:Option U} :
  Sr [some (.ref L0),some (.ref B.length),some (.ref (B.length+1)),some (ae (X i)),some (.ref (T0+1+i)),o] (B++[.dT (pp X i),.dT (wp X W d N i)]) =
   some (.nx [some (.ref L0),some (.ref B.length),some (.ref (B.length+1)),some (ae (X i)),some (.ref (T0+1+i)),some (ae (W i))],B++[.dT (pp X (i+1)),.dT (wp X W d N (i+1))]):=by
 have hn:=C.hn
 obtain⟨v',r⟩:=Q.r
 have n1:X i∉(pp X i).map (·.1):=by
  simp only[pp,abT,abu,abQ]
  rintro⟨j,hj,e⟩
  have:=C.inj j i (by lia) hi e
  lia
 have n2:(NK.KD.tup [X i,W i])∉(wp X W d N i).map (·.1):=by
  simp only[wp,abT,abu,abQ]
  rintro⟨j,hj,e⟩
  simp at e
  have:=C.inj j i (by lia) hi e.1
  lia
 have l1:(pp X i).length<1000000:=by simp[pp];lia
 have l2:(wp X W d N i).length<1000000:=by simp[wp];lia
 have v1:b6 (pp X N) (X i)=some (.int (i:Nat)):=C.Fh (abl _) hi
 have v2:b6 (pri X W d N ts) (.tup [X i,W i])=some (.int ((Th.w i).aU d N)):=rN C G.nd G.ok ((F i).mpr hi)
 have k2:cL (.tup [ae (X i),ae (W i)])=some (.tup [X i,W i]):=by
  have:=kk i hi
  simpa [ae,cQ]using this
 rw[u6,JZ]
 have q1:=λr'=>Ey r r'
 have q2:=λr'=>Ey (Q.l i hi) r'
 have q3:=λr'=>Ey Q.e1 r'
 have q4:=λr'=>Ey Q.e2 r'
 have q5:=λr'=>Ey Q.b1 r'
 have q6:=λr'=>Ey Q.b2 r'
 generalize pp X i=D1 at n1 l1 ⊢
 generalize wp X W d N i=D2 at n2 l2 ⊢
 generalize pp X N=D3 at q6 v1
 generalize pri X W d N ts=D4 at q4 v2
 simp[Sr,aj,aL,q1,q2,q3,q4,q5,q6,mf,List.lookup,aZ,bP,ed,C.kx i hi,k2,v1,v2,cE n1,cE n2,l1,l2,aN,mj,fF]
end
section
variable {h0 H:MH}{v d N L0 T0 E1 M3 i:Nat}{X W:Nat->NK.KD}{ts:List Th}{ori:List (NK.KD×U)}
abbrev J3:MF:=ej c.ck
theorem Rk.q (R:Rk H L0 d N X W T0 E1 M3 ts)(n0:L0≠T0)(n1:E1≠T0)(n2:E1+1≠T0)(n3:M3≠T0)(n4:M3+1≠T0)(o:MO):Rq (H.set T0 o) L0 d N X W T0 E1 M3 ts:=by
 obtain⟨v',r⟩:=R.r
 exact⟨⟨v',by rw[abF (acd n0)];exact r⟩,λi hi=>by rw[abF (by lia)];exact R.l i hi,by rw[abF (acd n1)];exact R.e1,by rw[abF (acd n2)];exact R.e2,by rw[abF (acd n3)];exact R.b1,by rw[abF (acd n4)];exact R.b2⟩
theorem Hn (C:Ch h0 v d N X W)(kk:∀ i,i<N->cL (ae (.tup [X i,W i]))=some (.tup [X i,W i]))(R:Rk H L0 d N X W T0 E1 M3 ts)(G:Gd d N X W ts ori)(F:∀ j,Th.w j∈ts↔j<N) :
  J3 [.ref L0] H=some (.tup [.ref H.length,.ref (H.length+1)],H++[.dT (pp X N),.dT (wp X W d N N)]):=by
 have hn:=C.hn
 obtain⟨v',r⟩:=R.r
 have t:=R.t
 have hT:T0<H.length:=(abn.mp t).1
 have no:∀ {x:Nat}{C:Addr}{fs:List (Str×U)},H[x]?=some (.ins C fs)->x≠T0:=λe h=>by
  rw[h,t]at e;simp at e
 have h0:(0:Nat)<N:=by have:=C.hd;lia
 have XC:∀ {x:Nat}{kvs:List (NK.KD×U)},H[x]?=some (.dT kvs)->(∀ p∈kvs,∃ z,p.2=.int z)->x≠T0:=λe hk h=>by
  rw[h,t]at e
  simp at e
  subst e
  obtain⟨z,hz⟩:=hk (X 0,.ref (T0+1+0)) (by simp only[nt,abu,abQ];exact⟨0,h0,rfl⟩)
  simp at hz
 have nE:=XC R.e2 (λp hp=>by simp only[pri,abu]at hp;obtain⟨a,_,rfl⟩:=hp;exact⟨_,rfl⟩)
 have nB:=XC R.b2 (λp hp=>by simp only[pp,abu]at hp;obtain⟨a,_,rfl⟩:=hp;exact⟨_,rfl⟩)
 have nL:=no r
 have Q:=R.q nL (no R.e1) nE (no R.b1) nB (.fT (nt X (T0+1) N))
 have hl:(H.set T0 (.fT (nt X (T0+1) N))).length=H.length:=by simp
 obtain⟨f,h',e1,o3,o4,o5,rfl,rfl⟩:=ei (g:=fW 2 (aM (nName 3) (aM (nName 4) fV))) (b:=Sr) (mi:=cO .items (ba (aj c.ck.cl "table") (aa 0))) (it:=lQ ((nt X (T0+1) N).map (iP .items))) (us:=(nt X (T0+1) N).map (iP .items)) (σ:=[some (.ref L0),some (.ref H.length),some (.ref (H.length+1)),none,none,none]) (h:=H++[.dT [],.dT []]) (h1:=H.set T0 (.fT (nt X (T0+1) N))++[.dT [],.dT []])
  (λi σ H'=>∃ o3 o4 o5,σ=[some (.ref L0),some (.ref H.length),some (.ref (H.length+1)),o3,o4,o5]/\H'=H.set T0 (.fT (nt X (T0+1) N))++[.dT (pp X i),.dT (wp X W d N i)])
  (λf H'=>∃ o3 o4 o5,f=.nx [some (.ref L0),some (.ref H.length),some (.ref (H.length+1)),o3,o4,o5]/\H'=H.set T0 (.fT (nt X (T0+1) N))++[.dT (pp X N),.dT (wp X W d N N)])
  (by
   have q1:=λr'=>Ey r r'
   have q2:=λr'=>Ey t r'
   have q3:∀ o r',(H++r').set T0 o=H.set T0 o++r':=λo r'=>acB _ _ hT
   simp[cO,aj,aL,q1,q2,q3,List.lookup]) (λi H=>rfl) (by simp[nt];lia) ⟨none,none,none,rfl,by simp[pp,wp]⟩
  (λi u σ H' hu ⟨o3,o4,o5,hσ,hH⟩=>by
   subst hσ hH
   have hi:i<N:=by
    have:=(abn.mp hu).1
    simpa [nt]using this
   have eu:u=.tup [ae (X i),.ref (T0+1+i)]:=by
    simp[nt,ab3 hi,iP]at hu
    exact hu.symm
   subst eu
   have tr:=Bl C kk Q G F hi (o:=o5)
   rw[hl]at tr
   exact⟨_,_,_,_,by simp,tr,_,_,_,rfl,rfl⟩)
  (λσ H' ⟨o3,o4,o5,hσ,hH⟩=>⟨o3,o4,o5,by rw[hσ],by rw[hH];simp[nt]⟩)
 have let1:iA (ba (aj c.ck.cl "table") (aa 0)) (df (cO .items (ba (aj c.ck.cl "table") (aa 0))) (fW 2 (aM (nName 3) (aM (nName 4) fV))) Sr) [some (.ref L0),some (.ref H.length),some (.ref (H.length+1)),none,none,none] (H++[.dT [],.dT []])=some (.nx [some (.ref L0),some (.ref H.length),some (.ref (H.length+1)),o3,o4,o5],H++[.dT (pp X N),.dT (wp X W d N N)]):=by
  have q1:=λr'=>Ey r r'
  have fl:ba (aj c.ck.cl "table") (aa 0) [some (.ref L0),some (.ref H.length),some (.ref (H.length+1)),none,none,none] (H++[.dT [],.dT []])=some (.ref T0,H++[.dT [],.dT []]):=by simp[aj,aL,q1,List.lookup]
  unfold iA
  rw[fl]
  show(df _ _ _ _ _).bind _=_
  rw[e1]
  have z1:(H.set T0 (.fT (nt X (T0+1) N))++[MO.dT (pp X N),MO.dT (wp X W d N N)])[T0]?=some (.fT (nt X (T0+1) N)):=by
   rw[abq (by rw[hl];exact hT),abR hT]
  have z2:(H.set T0 (.fT (nt X (T0+1) N))++[MO.dT (pp X N),MO.dT (wp X W d N N)]).set T0 (.dT (nt X (T0+1) N))=H++[.dT (pp X N),.dT (wp X W d N N)]:=by
   rw[acB _ _ (by rw[hl];exact hT),gK t]
  simp[rk,z1,z2,Ey t]
 refine bc ?_
 show cG _ [some (.ref L0),none,none,none,none,none] H=_
 unfold cG
 rw[ai (σ':=[some (.ref L0),some (.ref H.length),none,none,none,none]) (h':=H++[.dT []]) (by simp)]
 rw[ai (σ':=[some (.ref L0),some (.ref H.length),some (.ref (H.length+1)),none,none,none]) (h':=H++[.dT [],.dT []]) (by simp)]
 exact(ai let1).trans (by simp)
end
section
variable {h:MH}{d N m0 m1:Nat}{X W:Nat->NK.KD}{k:Nat}
theorem qR {κ:Type}{h:MH}:∀ {kvs:List (κ×U)},(∀ p∈kvs,∃ z,p.2=.int z)->jT k h (kvs.map (·.2)) (kvs.map (·.2))
 |[],_=>.nil
 |(a,b)::r,q=>by
  obtain⟨z,hz⟩:=q (a,b) (by simp)
  dsimp only at hz
  subst hz
  exact .cons .int (qR λp hp=>q p (by simp[hp]))
abbrev qr:MF:=pQ c.cr c.cv K8 Ll J3
theorem Cm {ks m0 m1 n dd}(q:og dd)(C:Ch (h++[.ins c.cv (vf ks m0 m1 n dd (h.length+1)),.dT (fX n (sp [] dd))]) h.length d N X W)(kk:∀ i,i<N->cL (ae (.tup [X i,W i]))=some (.tup [X i,W i])) :
  qr [de ks m0 m1 n dd] h=some (.tup [.dT (pp X N),.dT (wp X W d N N)],h):=by
 obtain⟨g,T0,E1,M3,ts,ori,r1,R,G,F1,F2⟩:=Jj C kk
 have b1:=Hn C kk R G F2
 have vw:=JR (h:=h) (ks:=ks) (m0:=m0) (m1:=m1) (n:=n) q
 generalize hB:h++[.ins c.cv (vf ks m0 m1 n dd (h.length+1)),.dT (fX n (sp [] dd))]=B at r1 R b1 vw C
 obtain⟨v',r⟩:=R.r
 have e:∃ g',B++g++[.dT (pp X N),.dT (wp X W d N N)]=h++g'/\h.length<=(B++g).length:=⟨_,by rw[<-hB,aca,aca],by rw[<-hB];simp⟩
 obtain⟨g',Xk,hle⟩:=e
 refine kZ (u:=.tup [.ref (B++g).length,.ref ((B++g).length+1)]) (g:=g') (bc ?_) ?_
 ·rw[<-Xk]
  show ke _ _ _ _ _ [some (de ks m0 m1 n dd)] h=_
  unfold ke
  generalize B++g=Y at r1 b1 r ⊢
  simp[vw,r1,aL,r,List.lookup,b1]
 ·rw[<-Xk]
  refine .tup (.cons (.uZ hle (kvs:=pp X N) ?_ rfl (qR ?_)) (.cons (.uZ (by lia) (kvs:=wp X W d N N) ?_ rfl (qR ?_)) .nil))
  ·simp only[L7];rfl
  ·exact λp hp=>by simp only[pp,abu]at hp;obtain⟨a,_,rfl⟩:=hp;exact⟨_,rfl⟩
  ·simp only[pF];rfl
  ·exact λp hp=>by simp only[wp,abu]at hp;obtain⟨a,_,rfl⟩:=hp;exact⟨_,rfl⟩
end
noncomputable def Lf.dn:Lf->Bool
 |.Cu _=>false
 |.leave=>false
 |_=>true
noncomputable def reach:List Lf->Nat
 |[]=>0
 |l::r=>if l.dn then reach r+1 else 1
theorem fc:∀ ps:List Lf,reach ps<=ps.length
 |[]=>abl _
 |l::r=>by
  have:=fc r
  unfold reach
  split<;>simp<;>lia
theorem oW {l:Lf}{r:List Lf}:1<=reach (l::r):=by unfold reach;split<;>lia
theorem rQ:∀ {ps:List Lf}{j:Nat}{l:Lf},j<reach ps->ps[j]?=some l->l.dn=true->j+1<ps.length->j+1<reach ps
 |x::r,0,l,h,e,q,hl=>by
  simp at e;subst e
  cases r with
  |nil=>simp at hl
  |cons y r=>have:=oW (l:=y) (r:=r);unfold reach;rw[abr q];lia
 |x::r,j+1,l,h,e,q,hl=>by
  simp at e hl
  unfold reach at h ⊢
  split at h
  ·rename_i hx
   rw[abr hx]
   have:=rQ (ps:=r) (by lia) e q hl
   lia
  ·lia
theorem oV:∀ {ps:List Lf}{j:Nat}{l:Lf},j<reach ps->ps[j]?=some l->l.dn=false->reach ps=j+1
 |x::r,0,l,h,e,q=>by
  simp at e;subst e
  unfold reach;rw[abo (by simp[q])]
 |x::r,j+1,l,h,e,q=>by
  simp at e
  unfold reach at h ⊢
  split at h
  ·rename_i hx
   rw[abr hx,oV (ps:=r) (by lia) e q]
  ·lia
noncomputable def CS (m0 m1:Str)(ps:List Lf)(j:Nat):List Str:=(ps.take j).foldl (λms l=>l.mk m0 m1 ms) []
section
variable {m0 m1 n:Str}{ps:List Lf}{j:Nat}{l:Lf}{ms:List Str}
theorem QZ:CS m0 m1 ps 0=[]:=rfl
theorem wX (e:ps[j]?=some l):CS m0 m1 ps (j+1)=l.mk m0 m1 (CS m0 m1 ps j):=by
 unfold CS
 rw[List.take_add_one,e,List.foldl_append];rfl
theorem MP (h:ms.length<=2):(l.mk m0 m1 ms).length<=2:=by
 cases l<;>simp only[Lf.mk]<;>first | exact h | exact abE (List.length_filter_le _ _) (by simp) | exact abE (List.length_filter_le _ _) h
theorem we:∀ (ls:List Lf) (ms:List Str),ms.length<=2->(ls.foldl (λms l=>l.mk m0 m1 ms) ms).length<=2
 |[],_,h=>h
 |l::r,ms,h=>we r _ (MP h)
theorem Ay:(CS m0 m1 ps j).length<=2:=we _ _ (by simp)
def Lf.eK (n:Str)(a:List Nat):Lf->NK.KD
 |.Cu _=>qo n a
 |.leave=>.str "leave"
 |_=>.str "done"
theorem Q3 {a:List Nat}:ae (l.eK n a)=l.end (cT n a):=by
 cases l<;>simp only[Lf.eK,Lf.end]<;>first | exact tW | simp[ae]
noncomputable def ic (n:Str)(a:List Nat)(ms:List Str):NK.KD:=.tup [qo n a,Ir ms,.aq]
theorem dO {a:List Nat}:ae (ic n a ms)=b9 n a ms:=by
 simp[ic,b9,ae,cQ,tW,KO]
end
noncomputable abbrev rp (i:Nat):List Nat:=List.replicate i 0
def JX (n m0 m1:Str)(d:Nat)(ps:List Lf)(j:Nat):NK.KD:=.tup [(ps[j]?.getD .row).eK n (rp d++[j]),Ir (CS m0 m1 ps (j+1))]
def vA (n m0 m1:Str)(d:Nat)(ps:List Lf):NK.KD:=if reach ps=0 then .tup [.str "done",Ir []] else JX n m0 m1 d ps (reach ps-1)
def XK (n m0 m1:Str)(d:Nat)(ps:List Lf)(i:Nat):NK.KD:=if i<=d then ic n (rp i) [] else ic n (rp d++[i-d-1]) (CS m0 m1 ps (i-d-1))
def WK (n m0 m1:Str)(d:Nat)(ps:List Lf)(i:Nat):NK.KD:=if i<=d then vA n m0 m1 d ps else JX n m0 m1 d ps (i-d-1)
section
variable {m0 m1 n:Str}{ps:List Lf}{i j d:Nat}{l:Lf}{ms:List Str}{a:List Nat}
theorem Kv {k:Nat}:(qo n a).lo (k+1)=true:=by simp[qo]
theorem EA {k:Nat}:(Ir ms).lo (k+1)=true:=by simp[Ir]
theorem QU {k:Nat}:(l.eK n a).lo (k+1)=true:=by cases l<;>simp only[Lf.eK]<;>first | exact Kv | exact MJ
theorem MD {k:Nat}:(ic n a ms).lo (k+2)=true:=by simp[ic,Kv,EA]
theorem Kw {k:Nat}:(JX n m0 m1 d ps j).lo (k+2)=true:=by simp[JX,QU,EA]
theorem QV {k:Nat}:(vA n m0 m1 d ps).lo (k+2)=true:=by unfold vA;split<;>first | exact Kw | simp[EA]
theorem yR {k:Nat}:(XK n m0 m1 d ps i).lo (k+2)=true:=by unfold XK;split<;>exact MD
theorem Il {k:Nat}:(WK n m0 m1 d ps i).lo (k+2)=true:=by unfold WK;split<;>first | exact Kw | exact QV
theorem Gx:∃ ks,XK n m0 m1 d ps i=.tup ks:=by unfold XK ic;split<;>exact⟨_,rfl⟩
theorem Se:∃ ks,WK n m0 m1 d ps i=.tup ks:=by unfold WK vA JX;split<;>first | exact⟨_,rfl⟩ | (split<;>exact⟨_,rfl⟩)
theorem kT {k:NK.KD}(h:∃ ks,k=.tup ks)(q:k.lo 8=true):cL (ae k)=some k:=by
 obtain⟨ks,rfl⟩:=h;exact Ar q
theorem NP (e:rp i=rp j):i=j:=by have:=congrArg List.length e;simpa using this
theorem sR (e:XK n m0 m1 d ps i=XK n m0 m1 d ps j):i=j:=by
 unfold XK ic at e
 split at e<;>split at e<;>simp only[NK.KD.tup.injEq,List.cons.injEq]at e<;>have e1:=zg e.1
 ·exact NP e1
 ·have:=congrArg List.length e1;simp at this;lia
 ·have:=congrArg List.length e1;simp at this;lia
 ·have:=List.append_cancel_left e1
  simp at this;lia
theorem AL:rp i++[0]=rp (i+1):=by simp[rp,List.replicate_succ']
theorem AK:∀ (d:Nat) (a:List Nat) (i:Nat),i<=d->(a++rp i,Dd.rw (d-i) ps)∈p7 ps d a
 |0,a,i,h=>by
  obtain rfl:i=0:=by lia
  simp[p7,rp]
 |d+1,a,0,h=>by simp[p7,rp]
 |d+1,a,i+1,h=>by
  have:=AK d (a++[0]) i (by lia)
  unfold p7
  rw[show d+1-(i+1)=d-i by lia]
  refine abS _ ?_
  rw[aca]at this
  exact this
theorem rj (e:ps[j]?=some l):∀ (d:Nat) (a:List Nat),(a++(rp d++[j]),Dd.lf l)∈p7 ps d a
 |0,a=>by
  unfold p7
  refine abS _ (abu.mpr ⟨(l,j),?_,by simp[rp]⟩)
  exact List.mem_zipIdx_iff_getElem?.mpr (by simpa using e)
 |d+1,a=>by
  have:=rj e d (a++[0])
  unfold p7
  refine abS _ ?_
  rw[aca]at this
  exact this
end
section
variable {h:MH}{ks:U}{m0 m1 n:Str}{ps:List Lf}{i j d:Nat}{l:Lf}{ms:List Str}{a:List Nat}
theorem uS {e:U}(le:fH 0 e):fH 0 (.lst [ft (.tup [e,fU ms])]):=.lst (.cons (.tup (.cons (.tup .nil) (.cons .aq (.cons (.tup (.cons le (.cons fK .nil))) .nil)))) .nil)
theorem yU {b:List Nat}{ms':List Str}:fH 0 (.lst [toU (b9 n a ms) (b9 n b ms')]):=.lst (.cons (.tup (.cons (.tup .nil) (.cons (.tup (.cons nK (.cons nK (.cons .aq .nil)))) (.cons .aq .nil)))) .nil)
theorem EM {x y:NK.KD}:zv (.tup [x,y,.aq])=toU (ae x) (ae y):=by simp[zv,toU,ae,cQ]
theorem rD {e:NK.KD}:ae (.tup [e,Ir ms])=.tup [ae e,fU ms]:=by simp[ae,cQ,KO]
theorem sA (h:i<=d):XK n m0 m1 d ps i=ic n (rp i) []:=abr h
theorem Bg:XK n m0 m1 d ps (d+1+j)=ic n (rp d++[j]) (CS m0 m1 ps j):=by
 unfold XK;rw[abo (by lia),show d+1+j-d-1=j by lia]
theorem xW (h:i<=d):WK n m0 m1 d ps i=vA n m0 m1 d ps:=abr h
theorem He:WK n m0 m1 d ps (d+1+j)=JX n m0 m1 d ps j:=by
 unfold WK;rw[abo (by lia),show d+1+j-d-1=j by lia]
theorem i7 (e:ps[j]?=some l):ae (JX n m0 m1 d ps j)=.tup [l.end (cT n (rp d++[j])),fU (CS m0 m1 ps (j+1))]:=by
 unfold JX;rw[rD,Q3,e];rfl
theorem uF (q:l.dn=true){p:U}:l.end p=.str "done":=by cases l<;>first | rfl | cases q
theorem uH (q:l.dn=false){a:List Nat}:gB n (l.end (cT n a)):=by
 cases l<;>first | cases q;done | exact .pl | exact .str (by decide)
theorem uG {a:List Nat}:fH 0 (l.end (cT n a)):=by
 cases l<;>first | exact .str | (show fH 0 (cT n a);rw[<-tW];exact dz _)
theorem vg (h:i<d):encD (.rw (d-i) ps)=.tup (.str "row"::[lI ps (d-i-1)]):=by
 obtain⟨k,rfl⟩:∃ k,d=i+(k+1):=⟨d-i-1,by lia⟩
 rw[show i+(k+1)-i=k+1 by lia];rfl
theorem vt {g:MH}{dd:Dd}:Vw (h++[.ins c.cv (vf ks m0 m1 n dd (h.length+1)),.dT (fX n (sp [] dd))]++g) h.length (h.length+1) ks m0 m1 n dd:=by
 constructor<;>simp
theorem DB (hd:d<=7)(hp:ps.length<=4):Ch (h++[.ins c.cv (vf ks m0 m1 n (.rw d ps) (h.length+1)),.dT (fX n (sp [] (.rw d ps)))]) h.length d (d+1+reach ps) (XK n m0 m1 d ps) (WK n m0 m1 d ps):=by
 have hr:=fc ps
 have lr:∀ i,i<=d->(rp i).length<=100:=λi hi=>by simp;lia
 have mr:∀ i,i<=d->(rp i,Dd.rw (d-i) ps)∈sp [] (.rw d ps):=λi hi=>AK d [] i hi
 have ml:∀ j l,ps[j]?=some l->(rp d++[j],Dd.lf l)∈sp [] (.rw d ps):=λj l e=>rj e d []
 have e0:encD (.rw (d-d) ps)=.tup (.str "row"::ps.map Lf.enc):=by rw[Nat.sub_self];rfl
 constructor
 ·exact λi _=>kT Gx yR
 ·exact λi _=>kT Se Il
 ·exact λi _ _=>kT ⟨_,rfl⟩ (by simp[bH,yR])
 ·exact λi j _ _ e=>sR e
 ·exact λi hi=>by rw[xW hi,xW (abO _)]
 ·lia
 ·lia
 ·intro g i hi
  have V:=vt (h:=h) (ks:=ks) (m0:=m0) (m1:=m1) (n:=n) (g:=g) (dd:=.rw d ps)
  generalize h++[.ins c.cv (vf ks m0 m1 n (.rw d ps) (h.length+1)),.dT (fX n (sp [] (.rw d ps)))]++g=H at V ⊢
  by_cases hid:i<=d
  ·rw[sA hid,dO]
   by_cases h1:i<d
   ·unfold F1
    rw[abr ⟨hid,by lia⟩]
    unfold bH
    rw[EM,show par d (i+1)=i by unfold par;lia,sA hid,sA h1,dO,dO,<-AL]
    exact lN V (mr i hid) (vg h1) (zp (k:=0) (by simp) (by simp) (lr i hid)) yU
   ·obtain rfl:i=d:=by lia
    cases CP:ps with
    |nil=>
     subst CP
     have:F1 (XK n m0 m1 i []) (WK n m0 m1 i []) i (i+1+reach []) i=ft (.tup [.str "done",fU []]):=by
      unfold F1
      rw[abo (by simp[reach]),xW (abl _)]
      unfold vA
      rw[abr (show reach []=0 from rfl),rD];simp[ae]
     rw[this]
     exact lN V (mr i hid) e0 (qt (us:=[]) (by simp)) (uS .str)
    |cons l0 r=>
     have rp1:1<=reach ps:=by rw[CP];exact oW
     rw[<-CP]
     unfold F1
     rw[abr ⟨hid,by lia⟩]
     unfold bH
     have x1:=Bg (n:=n) (m0:=m0) (m1:=m1) (d:=i) (ps:=ps) (j:=0)
     rw[Nat.add_zero]at x1
     rw[EM,show par i (i+1)=i by unfold par;lia,sA hid,x1,dO,dO]
     exact lN V (mr i hid) e0 (zp (k:=0) (by rw[CP];simp) (by simp;lia) (lr i hid)) yU
  ·obtain⟨j,rfl⟩:∃ j,i=d+1+j:=⟨i-d-1,by lia⟩
   obtain⟨l,hl⟩:∃ l,ps[j]?=some l:=⟨_,abw (by lia)⟩
   unfold F1
   rw[abo (by lia),He,i7 hl,Bg,dO,wX hl]
   exact yz V (ml j l hl) (abE Ay (by lia))
 ·intro g i h1 hi
  have V:=vt (h:=h) (ks:=ks) (m0:=m0) (m1:=m1) (n:=n) (g:=g) (dd:=.rw d ps)
  generalize h++[.ins c.cv (vf ks m0 m1 n (.rw d ps) (h.length+1)),.dT (fX n (sp [] (.rw d ps)))]++g=H at V ⊢
  have W9:∀ x y:NK.KD,ae (.tup [x,y,.aq])=.tup [ae x,ae y,.aq]:=λx y=>by simp[ae,cQ]
  by_cases hid:i<=d
  ·obtain⟨k,rfl⟩:∃ k,i=k+1:=⟨i-1,by lia⟩
   unfold bH F2
   rw[abo (by lia),W9,show par d (k+1)=k by unfold par;lia,sA (show k<=d by lia),sA hid,dO,dO,xW hid,xW (show k<=d by lia),<-AL]
   have go:∀ e KH,(e=.str "done"\/gB n e)->fH 0 e->nextM [.ref h.length,.tup [b9 n (rp k) [],b9 n (rp k++[0]) [],.aq],.tup [e,fU KH]] H=some (.lst [ft (.tup [e,fU KH])],H):=λe KH he le=>by
    rcases he with rfl | he
    ·exact oP V (mr k (by lia)) (vg (by lia)) (k:=0) (qt (by simp)) (uS .str)
    ·exact wZ V (mr k (by lia)) (vg (by lia)) he le
   unfold vA
   split
   ·rw[rD];exact go _ _ (.inl (by simp[ae])) (by simp only[ae];exact .str)
   ·obtain⟨l,hl⟩:∃ l,ps[reach ps-1]?=some l:=⟨_,abw (by lia)⟩
    rw[i7 hl]
    refine go _ _ ?_ uG
    cases q:l.dn with
    |true=>exact .inl (uF q)
    |false=>exact .inr (uH q)
  ·obtain⟨j,rfl⟩:∃ j,i=d+1+j:=⟨i-d-1,by lia⟩
   have hj:j<reach ps:=by lia
   obtain⟨l,hl⟩:∃ l,ps[j]?=some l:=⟨_,abw (by lia)⟩
   unfold bH F2
   rw[W9,show par d (d+1+j)=d by unfold par;lia,sA (abl _),Bg,dO,dO,He,i7 hl,xW (abl _)]
   cases q:l.dn with
   |true=>
    rw[uF q]
    by_cases hn:j+1<ps.length
    ·have:=rQ hj hl q hn
     rw[abr ⟨by lia,by lia⟩]
     unfold bH
     rw[EM,show par d (d+1+j+1)=d by unfold par;lia,sA (abl _),show d+1+j+1=d+1+(j+1) by lia,Bg,dO,dO]
     exact oP V (mr d (abl _)) e0 (zp (k:=j+1) (by simpa using hn) (by simp;lia) (lr d (abl _))) yU
    ·have hq:reach ps=j+1:=by lia
     rw[abo (by lia)]
     unfold vA
     rw[abo (by lia),hq,Nat.add_sub_cancel,i7 hl,uF q]
     have ro:=qt (us:=ps.map Lf.enc) (ms:=CS m0 m1 ps (j+1)) (h:=H) (k:=b9 n (rp d) []) (by simp;lia)
     rw[show((ps.map Lf.enc).length:Int)=(j:Nat)+1 by simp;lia]at ro
     exact oP V (mr d (abl _)) e0 ro (uS .str)
   |false=>
    have hq:=oV hj hl q
    rw[abo (by lia)]
    unfold vA
    rw[abo (by lia),hq,Nat.add_sub_cancel,i7 hl]
    exact wZ V (mr d (abl _)) e0 (uH q) uG
 ·intro g
  have V:=vt (h:=h) (ks:=ks) (m0:=m0) (m1:=m1) (n:=n) (g:=g) (dd:=.rw d ps)
  rw[DS V,sA (abO _),dO];rfl
end
section
variable {h:MH}{x:Dd}{n:Str}
theorem zf (l:Lf):cP [l.enc] h=some (.lst [],h):=by
 refine c9 (n:=h.length) (g:=[.lst []]) (bc ?_) (abl _) (by simp) .nil
 cases l<;>simp[Lf.enc,j9,dS,Ak,fD,cD,aQ,iG,eW]
theorem tY {us:List U}(hu:us.length<=100)(lo:dB 0 us):cP [.tup (.str "row"::us)] h=some (.lst us,h):=by
 refine c9 (n:=h.length) (g:=[.lst us]) (bc ?_) (abl _) (by simp) lo
 simp[j9,dS,Ak,fD,cD,aQ,iG,eW]
theorem EV (q:og x):cP [encD x] h=some (.lst ((fq x).map encD),h):=by
 match x,q with
 |.lf l,_=>exact zf l
 |.rw 0 ps,q=>
  have:=tY (h:=h) (us:=ps.map Lf.enc) (by simp;have:=q.2;lia) (bw.mpr λu hu=>by obtain⟨l,_,rfl⟩:=abu.mp hu;exact fR (.lf l))
  show cP [.tup (.str "row"::ps.map Lf.enc)] h=_
  rw[this];simp[fq,encD,aci]
 |.rw (i+1) ps,q=>exact tY (h:=h) (us:=[encD (.rw i ps)]) (by simp) (.cons (fR _) .nil)
theorem uW {m:Nat}:∀ {us:List U},(∀ u∈us,∃ d,bq h m u=some d)->∃ ds,fD (bq h m) us=some ds/\ds.length=us.length
 |[],_=>⟨[],rfl,rfl⟩
 |u::us,q=>by
  obtain⟨d,hd⟩:=q u (by simp)
  obtain⟨ds,hs,hl⟩:=uW (us:=us) λv hv=>q v (by simp[hv])
  exact⟨d::ds,by simp[fD,hd,hs],by simp[hl]⟩
theorem tx (l:Lf){m:Nat}:∃ d,bq h (m+1) l.enc=some d:=by
 cases l<;>exact⟨_,kz (by simp[fD];rfl)⟩
theorem vX (ps:List Lf):∀ (i m:Nat),i<=m->∃ d,bq h (m+2) (lI ps i)=some d
 |0,m,_=>by
  obtain⟨ds,e,_⟩:=uW (h:=h) (m:=m+1) (us:=.str "row"::ps.map Lf.enc) (λu hu=>by
   rcases abW.mp hu with rfl | hu
   ·exact⟨_,kr _⟩
   ·obtain⟨l,_,rfl⟩:=abu.mp hu;exact tx l)
  exact⟨_,kz e⟩
 |i+1,m+1,hm=>by
  obtain⟨d,hd⟩:=vX ps i m (by lia)
  exact⟨_,kz (m:=m+2) (by simp[fD,hd];rfl)⟩
theorem LM (q:og x){m:Nat}(hm:9<=m):∃ d,bq h m (encD x)=some d:=by
 match x,q with
 |.lf l,_=>obtain⟨k,rfl⟩:∃ k,m=k+1:=⟨m-1,by lia⟩;exact tx l
 |.rw i ps,q=>obtain⟨k,rfl⟩:∃ k,m=k+2:=⟨m-2,by lia⟩;exact vX ps i k (by have:=q.1;lia)
def dD (n:Str)(x:List Nat×Dd):U:=.tup [cT n x.1,encD x.2]
theorem LN (q:og x){a:List Nat}{m:Nat}(hm:10<=m):∃ d,bq h m (dD n (a,x))=some d:=by
 obtain⟨k,rfl⟩:∃ k,m=k+1:=⟨m-1,by lia⟩
 obtain⟨j,rfl⟩:∃ j,k=j+1:=⟨k-1,by lia⟩
 obtain⟨d,hd⟩:=LM (h:=h) q (m:=j+1) (by lia)
 exact⟨_,kz (by simp[fD,hd,Aa];rfl)⟩
theorem ne_nil {W:List (List Nat×Dd)}{k m:Nat}(e1:h[k]?=some (.lst (W.map (dD n))))(e2:h[m]?=some (.lst []))(q:∀ y∈W,og y.2):c6 true (.ref k) (.ref m) h=some (.bl (!W.isEmpty),h):=by
 obtain⟨ds,e,hl⟩:=uW (h:=h) (m:=39) (us:=W.map (dD n)) (λu hu=>by
  obtain⟨y,hy,rfl⟩:=abu.mp hu
  exact LN (q y hy) (by lia))
 have h1:bq h Dp (.ref k)=some (.list ds):=by
  show(match h[k]? with | some (.lst us)=>(fD (bq h 39) us).bind λds=>some (PyData.list ds) | _=>none)=_
  rw[e1];dsimp only;rw[e];rfl
 have h2:bq h Dp (.ref m)=some (.list []):=by
  show(match h[m]? with | some (.lst us)=>(fD (bq h 39) us).bind λds=>some (PyData.list ds) | _=>none)=_
  rw[e2];rfl
 unfold S.c6
 rw[h1,h2]
 cases W with
 |nil=>
  obtain rfl:ds=[]:=by simpa using hl
  rfl
 |cons y W=>
  cases ds with
  |nil=>simp at hl
  |cons d ds=>rfl
end
noncomputable def HD (h:MH)(D:List (NK.KD×U))(W:List U)(g:MH):MH:=h++(.dT D::.lst W::g)
section
variable {h g g':MH}{D D':List (NK.KD×U)}{W W':List U}{n:Str}{x:Dd}{a:List Nat}{s0 s2 s3 o5 o6 o7 o8:Option U}
theorem TJ:(HD h D W g)[h.length]?=some (.dT D):=by simp[HD]
theorem C1:(HD h D W g)[h.length+1]?=some (.lst W):=by simp[HD]
theorem G2:(HD h D W g).set h.length (.dT D')=HD h D' W g:=by simp[HD]
theorem zS:(HD h D W g).set (h.length+1) (.lst W')=HD h D W' g:=by simp[HD]
theorem zR:HD h D W g++g'=HD h D W (g++g'):=by simp[HD]
noncomputable def sD (h:MH)(s0 s2 s3 o5 o6 o7 o8:Option U):bG:=[s0,some (.ref h.length),s2,s3,some (.ref (h.length+1)),o5,o6,o7,o8]
def ldI:MS:=aK (i9 aV (aa 4) (ab (av (ab (ay aI (aa 5) (av (ab (aa 8) af))) (ab (ah (aa 7) (aa 8)) af))) af))
def Pe:MS:=(ag (ak (i9 mV (aa 4) af) (fW 2 (aM (nName 5) (aM (nName 6) fV))))
  (ag (az (aa 1) (aa 5) (aa 6))
  (ag (ak (au 1 cP (ab (aa 6) af)) (nName 7))
  (df (rq (ab (ay rW (ig (iG eV cN) (ab (aa 7) af)) (mC (.int 1))) (ab (ba jP (mC (.int 1))) (ab (ba jP (mC (.int 1))) af)))) (nName 8) ldI))))
theorem QQ (hW:W.length<=100)(ha:a.length<=100)(hp:(fq x).length<=4) :
  ∃ KL,df (rq (ab (ay rW (ig (iG eV cN) (ab (aa 7) af)) (mC (.int 1))) (ab (ba jP (mC (.int 1))) (ab (ba jP (mC (.int 1))) af)))) (nName 8) ldI (sD h s0 s2 s3 (some (cT n a)) o6 (some (.lst ((fq x).map encD))) o8) (HD h D W g) =
   some (.nx (sD h s0 s2 s3 (some (cT n a)) o6 (some (.lst ((fq x).map encD))) KL),HD h D (W++((jQ a x).map (dD n)).reverse) g):=by
 have hs:(jQ a x).length=(fq x).length:=by simp[jQ]
 have hR:(((jQ a x).map (dD n)).reverse).length=(fq x).length:=by simp[hs]
 obtain⟨f,h',e,o,rfl,rfl⟩:=uJ (mi:=rq (ab (ay rW (ig (iG eV cN) (ab (aa 7) af)) (mC (.int 1))) (ab (ba jP (mC (.int 1))) (ab (ba jP (mC (.int 1))) af)))) (g:=nName 8) (b:=ldI) (σ:=sD h s0 s2 s3 (some (cT n a)) o6 (some (.lst ((fq x).map encD))) o8) (h:=HD h D W g) (h1:=HD h D W g) (it:=Pc (((fq x).length:Int)-1) (fq x).length) (fq x).length (by lia)
  (λi σ H=>∃ o8,σ=sD h s0 s2 s3 (some (cT n a)) o6 (some (.lst ((fq x).map encD))) o8/\H=HD h D (W++(((jQ a x).map (dD n)).reverse).take i) g)
  (λf H=>∃ o8,f=.nx (sD h s0 s2 s3 (some (cT n a)) o6 (some (.lst ((fq x).map encD))) o8)/\H=HD h D (W++((jQ a x).map (dD n)).reverse) g)
  (by
   have r1:-(2 ^ 62:Int)<=((fq x).length:Int)-1:=by lia
   have r2:((fq x).length:Int)-1<2 ^ 62:=by lia
   have r3:((((fq x).length:Int)-1)-(-1)).toNat=(fq x).length:=by lia
   simp[sD,iG,jP,rq,r1,r2,r3]
   lia)
  ⟨o8,rfl,by simp⟩
  (λi σ H hi ⟨o8,hσ,hH⟩=>by
   subst hσ hH
   have hk:(fq x).length-1-i<(fq x).length:=by lia
   obtain⟨y,hy⟩:∃ y,(fq x)[(fq x).length-1-i]?=some y:=⟨_,abw hk⟩
   have Xf:(((jQ a x).map (dD n)).reverse)[i]?=some (dD n (a++[(fq x).length-1-i],y)):=by
    rw[List.getElem?_reverse (by simp[hs];exact hi)]
    simp[jQ,List.getElem?_zipIdx,hy]
   have hv:(((fq x).length:Int)-1)+(i:Int)*(-1)=(((fq x).length-1-i:Nat):Int):=by lia
   refine⟨.int (((fq x).length-1-i:Nat):Int),sD h s0 s2 s3 (some (cT n a)) o6 (some (.lst ((fq x).map encD))) (some (.int (((fq x).length-1-i:Nat):Int))),HD h D (W++(((jQ a x).map (dD n)).reverse).take i) g,.nx (sD h s0 s2 s3 (some (cT n a)) o6 (some (.lst ((fq x).map encD))) (some (.int (((fq x).length-1-i:Nat):Int)))),HD h D (W++(((jQ a x).map (dD n)).reverse).take (i+1)) g,by unfold Pc;rw[abr hi,hv],by simp[sD],?_,_,rfl,rfl⟩
   generalize (fq x).length-1-i=k at hy Xf ⊢
   rw[List.take_add_one,Xf]
   have hT:((((jQ a x).map (dD n)).reverse).take i).length<=4:=by rw[acz,hR];lia
   generalize (((jQ a x).map (dD n)).reverse).take i=T at hT ⊢
   have ix:L2.iT ((fq x).map encD) ((k:Nat):Int)=some (encD y):=by rw[S.dW,abG,hy];rfl
   have h1:a.length+1+1<=1000000:=by lia
   refine nh (u:=.aq) ?_
   rw[FC]
   have lw:(W++T).length<1000000:=by rw[aby];lia
   have ap:=nX (u:=dD n (a++[k],y)) (h:=HD h D (W++T) g) C1 lw
   rw[zS]at ap
   simp only[dD,cT,acm,abH,List.map_nil]at ap
   simp[sD,dX C1,cT,h1,aZ,sJ,aQ,ix,ap,dD])
  (λσ H ⟨o8,hσ,hH⟩=>⟨by unfold Pc;rw[abo (by lia)],o8,by rw[hσ],by rw[hH,acy (by rw[hR];exact abl _)]⟩)
 exact⟨o,e⟩
end
section
variable {h g:MH}{D:List (NK.KD×U)}{us:List U}{n:Str}{x:Dd}{a:List Nat}{s0 s2 s3 o5 o6 o7 o8:Option U}
theorem Ih (hu:us.length<=90)(ha:a.length<=100)(q:og x)(nw:qo n a∉D.map (·.1))(hD:D.length<=1000) :
  ∃ KL,Pe (sD h s0 s2 s3 o5 o6 o7 o8) (HD h D (us++[dD n (a,x)]) g)=some (.nx (sD h s0 s2 s3 (some (cT n a)) (some (encD x)) (some (.lst ((fq x).map encD))) KL),HD h (D++[(qo n a,encD x)]) (us++((jQ a x).map (dD n)).reverse) g):=by
 obtain⟨KL,e⟩:=QQ (h:=h) (g:=g) (D:=D++[(qo n a,encD x)]) (W:=us) (n:=n) (x:=x) (a:=a) (s0:=s0) (s2:=s2) (s3:=s3) (o6:=some (encD x)) (o8:=o8) (by lia) ha (u3 q)
 refine⟨KL,?_⟩
 unfold Pe
 have s1:ak (i9 mV (aa 4) af) (fW 2 (aM (nName 5) (aM (nName 6) fV))) (sD h s0 s2 s3 o5 o6 o7 o8) (HD h D (us++[dD n (a,x)]) g)=some (.nx (sD h s0 s2 s3 (some (cT n a)) (some (encD x)) o7 o8),HD h D us g):=by
  have pp:=pop_at (h:=HD h D (us++[dD n (a,x)]) g) C1
  rw[zS]at pp
  simp only[dD]at pp
  simp[sD,dX C1,pp,dD]
 have l1:D.length<1000000:=by lia
 have s2':az (aa 1) (aa 5) (aa 6) (sD h s0 s2 s3 (some (cT n a)) (some (encD x)) o7 o8) (HD h D us g)=some (.nx (sD h s0 s2 s3 (some (cT n a)) (some (encD x)) o7 o8),HD h (D++[(qo n a,encD x)]) us g):=by
  simp[sD,aZ,ed,TJ,qk,cE nw,G2,l1]
 have s3':ak (au 1 cP (ab (aa 6) af)) (nName 7) (sD h s0 s2 s3 (some (cT n a)) (some (encD x)) o7 o8) (HD h (D++[(qo n a,encD x)]) us g)=some (.nx (sD h s0 s2 s3 (some (cT n a)) (some (encD x)) (some (.lst ((fq x).map encD))) o8),HD h (D++[(qo n a,encD x)]) us g):=by
  simp[sD,EV q]
 rw[ai s1,ai s2',ai s3']
 exact e
abbrev uD:MF:=pN cP
theorem Ig {d0:Dd}(q:og d0):∃ g o5 o6 o7 KL,c4 (mB (ay (c6 true) (aa 4) (bZ af))) Pe (sD h s0 s2 s3 none none none none) (HD h [] [dD n ([],d0)] [])=some (.nx (sD h s0 s2 s3 o5 o6 o7 KL),HD h (fX n (sp [] d0)) [] g):=by
 obtain⟨f,h',e,g,o5,o6,o7,o8,rfl,rfl⟩:=er (c:=mB (ay (c6 true) (aa 4) (bZ af))) (b:=Pe) (I:=λm σ H=>∃ (st F:List (List Nat×Dd)) (g:MH) (o5 o6 o7 o8:Option U),m=(st.flatMap sr).length/\F++st.flatMap sr=sp [] d0/\(∀ x∈st,og x.2/\x.1.length+m<=100)/\H=HD h (fX n F) (st.reverse.map (dD n)) g/\σ=sD h s0 s2 s3 o5 o6 o7 o8)
  (R:=λf H=>∃ (g:MH) (o5 o6 o7 o8:Option U),f=.nx (sD h s0 s2 s3 o5 o6 o7 o8)/\H=HD h (fX n (sp [] d0)) [] g) (λm σ H I=>by
   obtain⟨st,F,g,o5,o6,o7,o8,hn,hF,al,rfl,rfl⟩:=I
   have OI:F.length+(st.flatMap sr).length<=12:=by rw[<-aby,hF];exact jG [] q
   have OL:mB (ay (c6 true) (aa 4) (bZ af)) (sD h s0 s2 s3 o5 o6 o7 o8) (HD h (fX n F) (st.reverse.map (dD n)) g)=some (!st.isEmpty,HD h (fX n F) (st.reverse.map (dD n)) (g++[.lst []])):=by
    have nn:=ne_nil (n:=n) (W:=st.reverse) (k:=h.length+1) (m:=(HD h (fX n F) (st.reverse.map (dD n)) g).length) (h:=HD h (fX n F) (st.reverse.map (dD n)) g++[.lst []]) (by rw[zR];exact C1) (by rw[abt (abl _)];simp) (λy hy=>(al y (by simpa using hy)).1)
    have ie:st.reverse.isEmpty=st.isEmpty:=by cases st<;>simp
    rw[ie]at nn
    rw[<-zR]
    generalize HD h (fX n F) (st.reverse.map (dD n)) g=Y at nn ⊢
    simp[sD,nn]
   cases st with
   |nil=>
    refine .inl ⟨_,OL,g++[.lst []],o5,o6,o7,o8,rfl,?_⟩
    rw[<-hF];simp
   |cons x r=>
    obtain⟨a,d⟩:=x
    obtain⟨gd,hl⟩:=al (a,d) (by simp)
    have hr:=yQ r
    have e1:((a,d)::r).flatMap sr=(a,d)::(jQ a d++r).flatMap sr:=by
     rw[List.flatMap_append,List.flatMap_cons]
     show sp a d++_=_
     rw[F4];rfl
    rw[e1]at hn hF OI
    rw[abC]at hn OI
    rw[List.flatMap_append,aby]at OI
    have L9:a.length+m<=100:=hl
    have nw:qo n a∉(fX n F).map (·.1):=by
     have:=wH (n:=n) (xs:=sp [] d0) (i:=F.length) (x:=(a,d)) (rV d0 []) (by rw[<-hF,abt (abl _)];simp)
     rw[<-hF,List.take_left']at this
     ·exact this
     ·rfl
    obtain⟨KL,ht⟩:=Ih (h:=h) (g:=g++[.lst []]) (D:=fX n F) (us:=r.reverse.map (dD n)) (n:=n) (a:=a) (x:=d) (s0:=s0) (s2:=s2) (s3:=s3) (o5:=o5) (o6:=o6) (o7:=o7) (o8:=o8) (by simp;lia) (by lia) gd nw (by simp[fX];lia)
    rw[List.reverse_cons,acm]at OL
    refine .inr ⟨_,_,_,(by rw[List.reverse_cons,acm];exact OL),ht,((jQ a d++r).flatMap sr).length,by lia,jQ a d++r,F++[(a,d)],g++[.lst []],_,_,_,_,rfl,?_,?_,?_,rfl⟩
    ·rw[<-hF];simp
    ·intro y hy
     rcases abP.mp hy with z | z
     ·unfold jQ at z
      obtain⟨w,hw,rfl⟩:=abu.mp z
      refine⟨u0 gd w.1 ?_,?_⟩
      ·obtain⟨i,hi⟩:=List.mem_iff_getElem?.mp hw
       rw[List.getElem?_zipIdx]at hi
       obtain⟨y,ey,e2⟩:=ab6.mp hi
       rw[<-e2];exact abY ey
      ·show(a++[w.2]).length+_<=100
       simp only[aby,abC,List.length_nil];lia
     ·obtain⟨y1,y2⟩:=al y (by simp[z])
      exact⟨y1,by lia⟩
    ·congr 1<;>simp[fX])
  FU _ (sD h s0 s2 s3 none none none none) (HD h [] [dD n ([],d0)] []) (jS (n:=([(([]:List Nat),d0)].flatMap sr).length) (by have:=jG [] q;simp[sr];lia)) ⟨[([],d0)],[],[],none,none,none,none,rfl,by simp[sr],λx hx=>by
   obtain rfl:x=([],d0):=by simpa using hx
   exact⟨q,by have:=jG [] q;simp[sr];lia⟩,rfl,rfl⟩
 exact⟨g,o5,o6,o7,o8,e⟩
theorem Ai {k:Nat}{H:MH}{κ:Type}:∀ {kvs:List (κ×U)},(∀ p∈kvs,fH k p.2)->jT k H (kvs.map (·.2)) (kvs.map (·.2))
 |[],_=>.nil
 |p::r,q=>.cons (q p (by simp)).dE (Ai λx hx=>q x (by simp[hx]))
theorem DG {d0:Dd}{ks:U}{m0 m1:Str}(q:og d0):uD [de ks m0 m1 n d0] h=some (.dT (fX n (sp [] d0)),h):=by
 obtain⟨g,o5,o6,o7,o8,e⟩:=Ig (h:=h) (n:=n) (s0:=some (de ks m0 m1 n d0)) (s2:=some (.str n)) (s3:=some (encD d0)) q
 refine kZ (u:=.ref h.length) (g:=.dT (fX n (sp [] d0))::.lst []::g) (bc ?_) (.uZ (abl _) (kvs:=fX n (sp [] d0)) (by simp) rfl (Ai λp hp=>?_))
 ·show j7 _ [some (de ks m0 m1 n d0),none,none,none,none,none,none,none,none] h=_
  unfold j7
  rw[ai (σ':=[some (de ks m0 m1 n d0),some (.ref h.length),none,none,none,none,none,none,none]) (h':=h++[.dT []]) (by simp)]
  have w0:c4 (mB (ay (c6 true) (aa 4) (bZ af))) Pe [some (de ks m0 m1 n d0),some (.ref h.length),some (.str n),some (encD d0),some (.ref (h.length+1)),none,none,none,none] (h++[.dT [],.lst [dD n ([],d0)]])=some (.nx (sD h (some (de ks m0 m1 n d0)) (some (.str n)) (some (encD d0)) o5 o6 o7 o8),HD h (fX n (sp [] d0)) [] g):=e
  obtain⟨f,h',e1,rfl,rfl⟩:=ei (mi:=aD (ah (aa 0) (mC (.int 2)))) (g:=fW 2 (aM (nName 2) (aM (nName 3) fV))) (b:=ag (ak (bZ (ab (av (ab (av (ab (aa 2) af)) (ab (aa 3) af))) af)) (nName 4)) (c4 (mB (ay (c6 true) (aa 4) (bZ af))) Pe)) (it:=lQ [.tup [.str n,encD d0]]) (us:=[.tup [.str n,encD d0]]) (σ:=[some (de ks m0 m1 n d0),some (.ref h.length),none,none,none,none,none,none,none]) (h:=h++[.dT []]) (h1:=h++[.dT []])
   (λi σ H=>(i=0/\σ=[some (de ks m0 m1 n d0),some (.ref h.length),none,none,none,none,none,none,none]/\H=h++[.dT []])\/(i=1/\σ=sD h (some (de ks m0 m1 n d0)) (some (.str n)) (some (encD d0)) o5 o6 o7 o8/\H=HD h (fX n (sp [] d0)) [] g))
   (λf H=>f=.nx (sD h (some (de ks m0 m1 n d0)) (some (.str n)) (some (encD d0)) o5 o6 o7 o8)/\H=HD h (fX n (sp [] d0)) [] g)
   (by rw[fG];simp[de,fF]) (λi H=>rfl) (by simp) (.inl ⟨rfl,rfl,rfl⟩)
   (λi u σ H hu I=>by
    rcases I with⟨rfl,rfl,rfl⟩ | ⟨rfl,rfl,rfl⟩
    ·obtain rfl : .tup [.str n,encD d0]=u:=by simpa using hu
     refine⟨[some (de ks m0 m1 n d0),some (.ref h.length),some (.str n),some (encD d0),none,none,none,none,none],h++[.dT []],.nx (sD h (some (de ks m0 m1 n d0)) (some (.str n)) (some (encD d0)) o5 o6 o7 o8),HD h (fX n (sp [] d0)) [] g,by simp,?_,.inr ⟨rfl,rfl,rfl⟩⟩
     rw[ai (σ':=[some (de ks m0 m1 n d0),some (.ref h.length),some (.str n),some (encD d0),some (.ref (h.length+1)),none,none,none,none]) (h':=h++[.dT [],.lst [dD n ([],d0)]]) (by simp[dD,cT])]
     exact w0
    ·simp at hu)
   (λσ H I=>by
    rcases I with⟨z,_⟩ | ⟨_,rfl,rfl⟩
    ·simp at z
    ·exact⟨rfl,rfl⟩)
  refine(ai (σ':=sD h (some (de ks m0 m1 n d0)) (some (.str n)) (some (encD d0)) o5 o6 o7 o8) (h':=HD h (fX n (sp [] d0)) [] g) ?_).trans (by simp[sD,HD])
  unfold aN
  rw[nW]
  refine(congrArg (λz=>GU z _) e1).trans ?_
  rfl
 ·simp only[fX,abu]at hp
  obtain⟨y,_,rfl⟩:=hp
  exact(fR _).mono (abO _)
end
section
variable {h:MH}{ks:U}{m0 m1 n:Str}{d:Dd}{l:Lf}{ms:List Str}{a:List Nat}
def sW (ks:U)(m0 m1 n:Str)(d:Dd)(a:List Nat)(ms:List Str)(l:U):bG:=[some (de ks m0 m1 n d),some (.dT (fX n (sp [] d))),some (b9 n a ms),some (cT n a),some (fU ms),some .aq,some l]
theorem Ii {x:Str}:cC [none,some 6,some 4] (aD (ah (aa 0) (mC (.int 1)))) .keys (ah (aa 0) (mC (.int 1))) (nName 0) (uV (mB (ay (c6 false) (aa 0) (ah (aa 1) (mC (.int 1))))) (mB (dS false (aa 0) (aa 2)))) (aa 0) (sW ks m0 m1 n d a ms (.tup [.str "on",.str x])) h=some (.ref h.length,h++[.lst (([m0,m1].filter λm=>decide (m=x) || decide (m∈ms)).map .str)]):=
 m7 (h:=h) (u:=.tup [.str m0,.str m1]) [m0,m1] (λm=>U.str m) (λm=>[some (.str m),some (.tup [.str "on",.str x]),some (fU ms)]) (λm=>decide (m=x) || decide (m∈ms)) (λm=>U.str m)
   (by simp[de,sW]) (.inr rfl) (by simp) (λy _ σ' hσ l=>by rcases hσ with rfl | ⟨z,_,rfl⟩<;>simp[cf,sW])
   (λy _ l=>by
    by_cases h1:y∈ms<;>simp[dS,fU,h1,str_beq]<;>by_cases h2:y=x<;>simp[h2])
   (λy _ _ l=>by simp)
theorem Ex {x:Str}(hm:ms.length<=100):cC [none,some 6] (aD (aa 4)) .keys (aa 4) (nName 0) (mB (ay (c6 true) (aa 0) (ah (aa 1) (mC (.int 1))))) (aa 0) (sW ks m0 m1 n d a ms (.tup [.str "off",.str x])) h=some (.ref h.length,h++[.lst ((ms.filter λm=>decide (m≠x)).map .str)]):=
 m7 (h:=h) (u:=fU ms) ms (λm=>U.str m) (λm=>[some (.str m),some (.tup [.str "off",.str x])]) (λm=>decide (m≠x)) (λm=>U.str m)
   (by simp[sW]) (.inr rfl) (by lia) (λy _ σ' hσ l=>by rcases hσ with rfl | ⟨z,_,rfl⟩<;>simp[cf,sW])
   (λy _ l=>by simp[str_beq])
   (λy _ _ l=>by simp)
theorem yP (m:(a,.lf l)∈sp [] d)(hm:ms.length<=100):dw [de ks m0 m1 n d,.dT (fX n (sp [] d)),b9 n a ms] h=some (.tup [l.end (cT n a),fU (l.mk m0 m1 ms)],h):=by
 have lw:fH 0 (.tup [l.end (cT n a),fU (l.mk m0 m1 ms)]):=.tup (.cons uG (.cons fK .nil))
 have s1:ak (aa 2) (fW 3 (aM (nName 3) (aM (nName 4) (aM (nName 5) fV)))) [some (de ks m0 m1 n d),some (.dT (fX n (sp [] d))),some (b9 n a ms),none,none,none,none] h=some (.nx [some (de ks m0 m1 n d),some (.dT (fX n (sp [] d))),some (b9 n a ms),some (cT n a),some (fU ms),some .aq,none],h):=by simp[b9]
 have s2:ak (ah (aa 1) (aa 3)) (nName 6) [some (de ks m0 m1 n d),some (.dT (fX n (sp [] d))),some (b9 n a ms),some (cT n a),some (fU ms),some .aq,none] h=some (.nx (sW ks m0 m1 n d a ms l.enc),h):=by
  have:=vY (n:=n) m
  simp[aZ,bP,qk,this,sW,encD]
 cases l with
 |on x=>
  refine iw (g:=[.lst (([m0,m1].filter λm=>decide (m=x) || decide (m∈ms)).map .str)]) (bc ?_) lw
  show bW [some (de ks m0 m1 n d),some (.dT (fX n (sp [] d))),some (b9 n a ms),none,none,none,none] h=_
  unfold bW
  rw[ai s1,ai s2]
  have cc:=Ii (h:=h) (ks:=ks) (m0:=m0) (m1:=m1) (n:=n) (d:=d) (a:=a) (ms:=ms) (x:=x)
  simp only[Lf.enc]
  have sw:sW ks m0 m1 n d a ms (.tup [.str "on",.str x])=[some (de ks m0 m1 n d),some (.dT (fX n (sp [] d))),some (b9 n a ms),some (cT n a),some (fU ms),some .aq,some (.tup [.str "on",.str x])]:=rfl
  have hb:([m0,m1].filter λm=>decide (m=x) || decide (m∈ms))=Lf.mk m0 m1 ms (.on x):=by
   unfold Lf.mk;congr 1;funext y;rw[Bool.or_comm]
  rw[hb]at cc ⊢
  rw[sw]at cc ⊢
  generalize Lf.mk m0 m1 ms (.on x)=R at cc ⊢
  simp[cc,cp,cD,aQ,Lf.end]
  try (constructor<;>simp[fU])
 |off x=>
  refine iw (g:=[.lst ((ms.filter λm=>decide (m≠x)).map .str)]) (bc ?_) lw
  show bW [some (de ks m0 m1 n d),some (.dT (fX n (sp [] d))),some (b9 n a ms),none,none,none,none] h=_
  unfold bW
  rw[ai s1,ai s2]
  have cc:=Ex (h:=h) (ks:=ks) (m0:=m0) (m1:=m1) (n:=n) (d:=d) (a:=a) (ms:=ms) (x:=x) hm
  simp only[Lf.enc]
  have sw:sW ks m0 m1 n d a ms (.tup [.str "off",.str x])=[some (de ks m0 m1 n d),some (.dT (fX n (sp [] d))),some (b9 n a ms),some (cT n a),some (fU ms),some .aq,some (.tup [.str "off",.str x])]:=rfl
  have hb:(ms.filter λm=>decide (m≠x))=Lf.mk m0 m1 ms (.off x):=rfl
  rw[hb]at cc ⊢
  rw[sw]at cc ⊢
  generalize Lf.mk m0 m1 ms (.off x)=R at cc ⊢
  simp[cc,cp,cD,aQ,Lf.end]
  try (constructor<;>simp[fU])
 |_=>
  refine nr (bc ?_) lw
  show bW [some (de ks m0 m1 n d),some (.dT (fX n (sp [] d))),some (b9 n a ms),none,none,none,none] h=_
  unfold bW
  rw[ai s1,ai s2]
  simp[sW,Lf.enc,Lf.mk,Lf.end]
end
end D51
namespace S
open PySem L2
variable [kf:KF]
theorem yn {ix:List (Option Nat)}{e a:ME}{g:MG}{c:MT}{σ:bG}{H H2:MH}{T:Nat}{u:U}{kvs:List (NK.KD×U)}(he:e σ H=some (.ref T,H))(hT:H[T]?=some (.dT kvs))(hf:bY ix (cO .keys e) g c a σ H=some (u,H2))(h2:H2[T]?=some (.fT kvs)) :
  cC ix (aD e) .keys e g c a σ H=some (u,H2.set T (.dT kvs)):=by
 unfold cC
 rw[Az]
 have n:bY ix (aD e) g c a σ H=none:=by
  rw[z9,fG,he]
  show(fF H (.ref T)).bind _=none
  simp[fF,hT]
 rw[n,KQ]
 unfold Av
 rw[he]
 show(bY _ _ _ _ _ _ _).bind _=_
 rw[hf]
 simp[rk,hT,h2]
theorem qB:∀ n:Nat,ox (List.replicate n (.bl true))=some (List.replicate n true)
 |0=>rfl
 |n+1=>by
  rw[ach]
  show(ox (List.replicate n (.bl true))).bind _=_
  rw[qB n];rfl
end S
namespace D51
open PySem L2 S
variable [kf:KF][c:Cw]
section
variable {H:MH}{T:Nat}{K L:List (NK.KD×U)}
abbrev rR:MF:=g8 iF
theorem GH {z:Int}:iF [.int z] H=some (.bl true,H):=bc (by simp[pv,zG,yM])
theorem AN (hT:H[T]?=some (.dT L))(hl:K.length=L.length)(hn:L.length<=1000)(hp:∀ p∈L,cL (ae p.1)=some p.1/\∃ z:Int,b6 K p.1=some (.int z)/\b6 L p.1=some (.int z)) :
  rR [.dT K,.ref T] H=some (.bl true,H):=by
 have ht:T<H.length:=(abn.mp hT).1
 have lo:∀ r,(H.set T (.fT L)++r)[T]?=some (.fT L):=λr=>by rw[abq (by simpa using ht),abR ht]
 have cc:=oA (ix:=[none,some 1,some 0]) (mi:=cO .keys (aa 1)) (g:=nName 0) (a:=pK (dS false (aa 0) (aa 2)) (pK (au 1 iF (ab (ah (aa 2) (aa 0)) af)) (ay (c6 false) (ah (aa 2) (aa 0)) (ah (aa 1) (aa 0))))) (σ:=[some (.dT K),some (.ref T)]) (h:=H) (h1:=H.set T (.fT L)) (it:=lQ (L.map (iP .keys)))
  L (λp=>ae p.1) (λp=>[some (ae p.1),some (.ref T),some (.dT K)]) (λ_=>U.bl true)
  (by simp[cO,hT]) (λi l=>by rw[show(λp:NK.KD×U=>ae p.1)=iP .keys from rfl];rfl) (by lia)
  (λp _ σ' hσ l=>by rcases hσ with rfl | ⟨z,_,rfl⟩<;>simp[cf])
  (λp ZC l=>by
   obtain⟨k1,z,v1,v2⟩:=hp p ZC
   simp[dS,aZ,bP,k1,v1,v2,lo,GH])
 have cx:=yn (e:=aa 1) (by simp) hT cc (lo _)
 have rp:L.map (λ_=>U.bl true)=List.replicate L.length (.bl true):=by simp[List.map_const']
 rw[rp]at cx
 have bk:(H.set T (.fT L)++[MO.lst (List.replicate L.length (.bl true))]).set T (.dT L)=H++[.lst (List.replicate L.length (.bl true))]:=by
  rw[acB _ _ (by simpa using ht),gK hT]
 rw[bk,ab8]at cx
 refine kZ (u:=.bl true) (g:=[.lst (List.replicate L.length (.bl true))]) (bc ?_) .bl
 show d4 _ [some (.dT K),some (.ref T)] H=_
 have bt:=qB L.length
 have al:(List.replicate L.length true).all id=true:=by simp
 simp[d4,zG,yM,mY,iG,hT,hl,cx,Hg,bX,bt]
end
section
variable {h:MH}{ks:U}{m0 m1 n:Str}{ps:List Lf}{i d pr:Nat}{I:List Nat}{s0 s1 s2 s3 s4 s7 Pj a8 PL a17 a18:Option U}
def bL (n m0 m1:Str)(d:Nat)(ps:List Lf)(I:List Nat):List (NK.KD×U):=I.map λi=>(XK n m0 m1 d ps i,.int (i:Nat))
def eL (n m0 m1:Str)(d:Nat)(ps:List Lf)(I:List Nat):List (NK.KD×U):=I.map λi=>(.tup [XK n m0 m1 d ps i,WK n m0 m1 d ps i],.int ((Th.w i).aU d (d+1+reach ps)))
def hL (h:MH)(n m0 m1:Str)(d:Nat)(ps:List Lf)(I:List Nat):MH:=h++[.dT (bL n m0 m1 d ps I),.dT (eL n m0 m1 d ps I)]
structure Sl (ks:U)(m0 m1 n:Str) where
 (s0 s1 s2 s3 s4 s7 Pj:Option U)
def sL (h:MH)(ks:U)(m0 m1 n:Str)(d:Nat)(ps:List Lf)(pr:Nat)(s:Sl ks m0 m1 n)(a8 PL a17 a18:Option U):bG:=
 [s.s0,s.s1,s.s2,s.s3,s.s4,some (.str n),some (.int (d:Nat)),s.s7,a8,some (.ref pr),s.Pj,some (de ks m0 m1 n (.rw d ps)),some (.dT (fX n (sp [] (.rw d ps)))),some (cT n (rp d)),some (.ref h.length),some (.ref (h.length+1)),PL,a17,a18,none]
variable {s:Sl ks m0 m1 n}
theorem Lw (hi:i∉I):XK n m0 m1 d ps i∉(bL n m0 m1 d ps I).map (·.1):=by
 simp only[bL,abT,abu]
 rintro⟨j,hj,e⟩
 exact hi (sR e▸hj)
theorem LO (hi:i∉I){w:NK.KD}:(NK.KD.tup [XK n m0 m1 d ps i,w])∉(eL n m0 m1 d ps I).map (·.1):=by
 simp only[eL,abT,abu]
 rintro⟨j,hj,e⟩
 simp at e
 exact hi (sR e.1▸hj)
theorem Ft {H:MH}{r:Nat}{σ:bG}{D:List (NK.KD×U)}{e y v:ME}{q:NK.KD}{w:U}(e3:v σ H=some (w,H))(e1:e σ H=some (.ref r,H))(e2:y σ H=some (ae q,H))(hr:H[r]?=some (.dT D))(kq:cL (ae q)=some q)(nw:q∉D.map (·.1))(hl:D.length<=1000) :
  az e y v σ H=some (.nx σ,H.set r (.dT (D++[(q,w)]))):=by
 have ll:D.length<1000000:=by lia
 unfold az
 rw[e3,abJ,e1,abJ,e2,abJ]
 simp[aZ,ed,hr,kq,cE nw,ll]
theorem Hk:bL n m0 m1 d ps (I++[i])=bL n m0 m1 d ps I++[(XK n m0 m1 d ps i,.int (i:Nat))]:=by simp[bL]
theorem HH:eL n m0 m1 d ps (I++[i])=eL n m0 m1 d ps I++[(.tup [XK n m0 m1 d ps i,WK n m0 m1 d ps i],.int ((Th.w i).aU d (d+1+reach ps)))]:=by simp[eL]
theorem K0 (hi:i∉I)(hI:I.length<=100){v:ME}{D:MO}(e3:v (sL h ks m0 m1 n d ps pr s a8 PL (some (ae (XK n m0 m1 d ps i))) a18) (h++[.dT (bL n m0 m1 d ps I),D])=some (.int (i:Nat),h++[.dT (bL n m0 m1 d ps I),D])) :
  az (aa 14) (aa 17) v (sL h ks m0 m1 n d ps pr s a8 PL (some (ae (XK n m0 m1 d ps i))) a18) (h++[.dT (bL n m0 m1 d ps I),D])=some (.nx (sL h ks m0 m1 n d ps pr s a8 PL (some (ae (XK n m0 m1 d ps i))) a18),h++[.dT (bL n m0 m1 d ps (I++[i])),D]):=by
 rw[Ft (r:=h.length) e3 (by simp[sL]) (q:=XK n m0 m1 d ps i) (by simp[sL]) (by simp) (kT Gx yR) (Lw hi) (by simp[bL];lia),Hk]
 simp
theorem K1 (hi:i∉I)(hI:I.length<=100){v:ME}{D:MO}(e3:v (sL h ks m0 m1 n d ps pr s a8 (some (ae (WK n m0 m1 d ps i))) (some (ae (XK n m0 m1 d ps i))) a18) (h++[D,.dT (eL n m0 m1 d ps I)])=some (.int ((Th.w i).aU d (d+1+reach ps)),h++[D,.dT (eL n m0 m1 d ps I)])) :
  az (aa 15) (av (ab (aa 17) (ab (aa 16) af))) v (sL h ks m0 m1 n d ps pr s a8 (some (ae (WK n m0 m1 d ps i))) (some (ae (XK n m0 m1 d ps i))) a18) (h++[D,.dT (eL n m0 m1 d ps I)])=some (.nx (sL h ks m0 m1 n d ps pr s a8 (some (ae (WK n m0 m1 d ps i))) (some (ae (XK n m0 m1 d ps i))) a18),h++[D,.dT (eL n m0 m1 d ps (I++[i]))]):=by
 rw[Ft (r:=h.length+1) e3 (by simp[sL]) (q:=.tup [XK n m0 m1 d ps i,WK n m0 m1 d ps i]) (by simp[sL,ae,cQ]) (by simp) (kT ⟨_,rfl⟩ (by simp[yR,Il])) (LO hi) (by simp[eL];lia),HH]
 simp
end
section
variable {h:MH}{ks:U}{m0 m1 n:Str}{ps:List Lf}{i k d pr:Nat}{l:Lf}{I:List Nat}{a8 a17 a18:Option U}{s:Sl ks m0 m1 n}
def wy (n m0 m1:Str)(d:Nat)(ps:List Lf)(j:Nat):NK.KD:=if j=0 then .tup [.str "done",Ir []] else JX n m0 m1 d ps (j-1)
theorem J0 (hk:k<reach ps):ae (wy n m0 m1 d ps k)=.tup [.str "done",fU (CS m0 m1 ps k)]:=by
 unfold wy
 cases k with
 |zero=>rw[abr rfl,rD];simp[ae,QZ]
 |succ k=>
  have:=fc ps
  obtain⟨l,hl⟩:∃ l,ps[k]?=some l:=⟨_,abw (by lia)⟩
  rw[abo (by lia),Nat.add_sub_cancel,i7 hl]
  cases q:l.dn with
  |true=>rw[uF q]
  |false=>have:=oV (by lia) hl q;lia
theorem OR (h1:reach ps<=k)(h2:k<ps.length):∃ e ms,ae (wy n m0 m1 d ps (reach ps))=.tup [e,fU ms]/\gB n e:=by
 have r1:1<=reach ps:=by
  cases ps with
  |nil=>simp at h2
  |cons x r=>exact oW
 obtain⟨l,hl⟩:∃ l,ps[reach ps-1]?=some l:=⟨_,abw (by lia)⟩
 unfold wy
 rw[abo (by lia),i7 hl]
 refine⟨_,_,rfl,?_⟩
 cases q:l.dn with
 |true=>have:=rQ (j:=reach ps-1) (by lia) hl q (by lia);lia
 |false=>exact uH q
def QS:MT:=mB (ay (c6 false) (ah (aa 16) (mC (.int 0))) (mC (.str "done")))
def MC:MS:=bg QS (ag (ak (av (ab (ay aI (aa 13) (av (ab (aa 8) af))) (ab (ah (aa 16) (mC (.int 1))) (ab (mC .aq) af)))) (nName 17))
  (ag (az (aa 14) (aa 17) (ay aI (ay aI (aa 6) (mC (.int 1))) (aa 8)))
  (ag (ak (au 3 dw (ab (aa 11) (ab (aa 12) (ab (aa 17) af)))) (nName 16))
  (az (aa 15) (av (ab (aa 17) (ab (aa 16) af))) (mC (.int 1)))))) aT
noncomputable def lX (d k:Nat):List Nat:=(List.range k).map λi=>d+1+i
theorem BU (hd:d<=7)(hp:ps.length<=4)(hk:k<reach ps) :
  MC (sL h ks m0 m1 n d ps pr s (some (.int (k:Nat))) (some (ae (wy n m0 m1 d ps k))) a17 a18) (hL h n m0 m1 d ps (lX d k)) =
   some (.nx (sL h ks m0 m1 n d ps pr s (some (.int (k:Nat))) (some (ae (wy n m0 m1 d ps (k+1)))) (some (ae (XK n m0 m1 d ps (d+1+k)))) a18),hL h n m0 m1 d ps (lX d (k+1))):=by
 have hr:=fc ps
 obtain⟨l,hl⟩:∃ l,ps[k]?=some l:=⟨_,abw (by lia)⟩
 have w0:=J0 (n:=n) (m0:=m0) (m1:=m1) (d:=d) hk
 have ni:d+1+k∉lX d k:=by simp[lX]
 have nl:(lX d k).length<=100:=by simp[lX];lia
 have e1:lX d (k+1)=lX d k++[d+1+k]:=by simp[lX,abZ]
 have w1:wy n m0 m1 d ps (k+1)=WK n m0 m1 d ps (d+1+k):=by rw[He];rfl
 have OL:QS (sL h ks m0 m1 n d ps pr s (some (.int (k:Nat))) (some (ae (wy n m0 m1 d ps k))) a17 a18) (hL h n m0 m1 d ps (lX d k))=some (true,hL h n m0 m1 d ps (lX d k)):=by
  unfold QS sL;rw[w0];simp
 unfold MC
 rw[gG OL,abr rfl]
 have h1:(rp d).length+1+1<=1000000:=by simp;lia
 rw[ai (σ':=sL h ks m0 m1 n d ps pr s (some (.int (k:Nat))) (some (ae (wy n m0 m1 d ps k))) (some (ae (XK n m0 m1 d ps (d+1+k)))) a18) (h':=hL h n m0 m1 d ps (lX d k)) (by
  rw[Bg,dO,w0]
  generalize hL h n m0 m1 d ps (lX d k)=Y
  have h2:d+1+1<=1000000:=by lia
  simp[sL,cT,b9,h2])]
 unfold hL
 rw[ai (K0 ni nl (by
  generalize h++[.dT (bL n m0 m1 d ps (lX d k)),.dT (eL n m0 m1 d ps (lX d k))]=Y
  simp[sL])),<-e1]
 have lw:=λH=>yP (h:=H) (ks:=ks) (m0:=m0) (m1:=m1) (n:=n) (d:=.rw d ps) (a:=rp d++[k]) (l:=l) (ms:=CS m0 m1 ps k) (rj hl d []) (abE Ay (by lia))
 rw[<-dO,<-Bg,<-wX hl,<-i7 hl]at lw
 rw[ai (σ':=sL h ks m0 m1 n d ps pr s (some (.int (k:Nat))) (some (ae (WK n m0 m1 d ps (d+1+k)))) (some (ae (XK n m0 m1 d ps (d+1+k)))) a18) (h':=h++[.dT (bL n m0 m1 d ps (lX d (k+1))),.dT (eL n m0 m1 d ps (lX d k))]) (by
  rw[He]
  generalize h++[.dT (bL n m0 m1 d ps (lX d (k+1))),.dT (eL n m0 m1 d ps (lX d k))]=Y
  simp[sL,lw])]
 rw[w1,e1]
 refine K1 ni nl ?_
 have:(Th.w (d+1+k)).aU d (d+1+reach ps)=1:=by simp[Th.aU];lia
 rw[this];rfl
theorem BS (h1:reach ps<=k)(h2:k<ps.length) :
  MC (sL h ks m0 m1 n d ps pr s a8 (some (ae (wy n m0 m1 d ps (reach ps)))) a17 a18) (hL h n m0 m1 d ps I)=some (.nx (sL h ks m0 m1 n d ps pr s a8 (some (ae (wy n m0 m1 d ps (reach ps)))) a17 a18),hL h n m0 m1 d ps I):=by
 obtain⟨e,ms,w0,q⟩:=OR (n:=n) (m0:=m0) (m1:=m1) (d:=d) h1 h2
 have OL:QS (sL h ks m0 m1 n d ps pr s a8 (some (ae (wy n m0 m1 d ps (reach ps)))) a17 a18) (hL h n m0 m1 d ps I)=some (false,hL h n m0 m1 d ps I):=by
  unfold QS sL;rw[w0]
  generalize hL h n m0 m1 d ps I=Y
  have:=xa (h:=Y) q q.ne
  simp[this]
 unfold MC
 rw[gG OL,abo (by simp)];rfl
theorem BR (hd:d<=7)(hp:ps.length<=4)(hr:h[pr]?=some (.lst (ps.map Lf.enc))) :
  ∃ De xX,df (bQ (ab (ig (iG eV cN) (ab (aa 9) af)) af)) (nName 8) MC (sL h ks m0 m1 n d ps pr s a8 (some (ae (wy n m0 m1 d ps 0))) a17 a18) (hL h n m0 m1 d ps [])=some (.nx (sL h ks m0 m1 n d ps pr s De (some (ae (vA n m0 m1 d ps))) xX a18),hL h n m0 m1 d ps (lX d (reach ps))):=by
 obtain⟨σ',K,e,De,xX,rfl,rfl⟩:=qe (mi:=bQ (ab (ig (iG eV cN) (ab (aa 9) af)) af)) (b:=MC) (j:=8) (σ:=sL h ks m0 m1 n d ps pr s a8 (some (ae (wy n m0 m1 d ps 0))) a17 a18) (h:=hL h n m0 m1 d ps []) (h1:=hL h n m0 m1 d ps []) (n:=ps.length)
  (λk σ K=>∃ a8 a17,σ=sL h ks m0 m1 n d ps pr s a8 (some (ae (wy n m0 m1 d ps (min k (reach ps))))) a17 a18/\K=hL h n m0 m1 d ps (lX d (min k (reach ps))))
  (iH (by
   have:=Ey hr [.dT (bL n m0 m1 d ps []),.dT (eL n m0 m1 d ps [])]
   simp[sL,hL,iG,this]) (by lia))
  (by lia) ⟨a8,a17,by simp,by simp[lX]⟩
  (λk σ K hk ⟨a8,a17,hσ,hK⟩=>by
   subst hσ hK
   by_cases hq:k<reach ps
   ·rw[show min k (reach ps)=k by lia,show min (k+1) (reach ps)=k+1 by lia]
    exact⟨_,_,BU hd hp hq,_,_,rfl,rfl⟩
   ·rw[show min k (reach ps)=reach ps by lia,show min (k+1) (reach ps)=reach ps by lia]
    exact⟨_,_,BS (a8:=some (.int (k:Nat))) (by lia) hk,_,_,rfl,rfl⟩)
 have:=fc ps
 rw[show min ps.length (reach ps)=reach ps by lia]at e
 exact⟨De,xX,e⟩
end
end D51
namespace S
open PySem L2
theorem Nb {g g':M2}{a b:U}{h:MH}{r:U×MH}(e:g a b h=none)(e':g' a b h=some r):d7 g g' a b h=some r:=by unfold d7;rw[e];exact e'
theorem FJ {k:Nat}:(List.replicate k [U.int 0]).flatten=(List.replicate k 0).map λj:Nat=>U.int (j:Nat):=by
 induction k with
 |zero=>rfl
 |succ k ih=>rw[ach,List.flatten_cons,ih];rfl
theorem EJ {us:List U}{k:Int}{H:MH}(h:us≠[]/\0<=k/\k<2 ^ 62/\us.length*k.toNat<=sizeLine):dU (.tup us) (.int k) H=some (.tup (List.replicate k.toNat us).flatten,H):=by
 unfold dU
 dsimp only
 rw[abr h]
theorem Iu {us:List U}{k:Int}{H:MH}:ik (.tup us) (.int k) H=none:=by unfold ik ii;rfl
theorem MR {k:Nat}{H:MH}(hk:k<=1000):d7 ik dU (.tup [.int 0]) (.int (k:Nat)) H=some (.tup ((List.replicate k 0).map λj:Nat=>U.int (j:Nat)),H):=by
 have h3:[U.int 0].length*((k:Nat):Int).toNat<=sizeLine:=by
  rw[ab0,acp,List.length_singleton];lia
 have h1:((k:Nat):Int)<2 ^ 62:=by lia
 have:=EJ (H:=H) (us:=[U.int 0]) (k:=((k:Nat):Int)) ⟨List.cons_ne_nil _ _,by lia,h1,h3⟩
 rw[acp,FJ]at this
 exact Nb Iu this
end S
namespace D51
open PySem L2 S
variable [kf:KF][c:Cw]
section
variable {h:MH}{ks:U}{m0 m1 n:Str}{ps:List Lf}{k d pr:Nat}{a8 a17:Option U}{s:Sl ks m0 m1 n}
theorem Nw {g:M2}{v:ME}{σ:bG}{H:MH}(eg:g (.tup [.int 0]) (.int (k:Nat)) H=some (.tup ((rp k).map λj=>U.int (j:Nat)),H))(hk:k<=1000)(e5:σ[5]?=some (some (.str n)))(e8:v σ H=some (.int (k:Nat),H)) :
  ay aI (av (ab (aa 5) af)) (ay g (av (ab (mC (.int 0)) af)) v) σ H=some (cT n (rp k),H):=by
 have h2:1+k<=1000000:=by lia
 have h3:k+1<=1000000:=by lia
 rw[List.map_replicate]at eg
 simp[e5,e8,eg,cT,h2,h3]
theorem KW {v:ME}{σ:bG}{H:MH}(hk:k<=1000)(e5:σ[5]?=some (some (.str n)))(e8:v σ H=some (.int (k:Nat),H)) :
  ay aI (av (ab (aa 5) af)) (ay (d7 ik dU) (av (ab (mC (.int 0)) af)) v) σ H=some (cT n (rp k),H):=Nw (MR hk) hk e5 e8
theorem Ms {e:ME}{σ:bG}{H:MH}{a:List Nat}(he:e σ H=some (cT n a,H)):ak (av (ab e (ab (av af) (ab (mC .aq) af)))) (nName 17) σ H=some (.nx (σ.set 17 (some (b9 n a []))),H):=by
 simp[he,b9,fU]
def RE:MS:=(ag (ak (av (ab (ay aI (av (ab (aa 5) af)) (ay (d7 ik dU) (av (ab (mC (.int 0)) af)) (aa 8))) (ab (av af) (ab (mC .aq) af)))) (nName 17))
  (ag (az (aa 14) (aa 17) (aa 8))
  (az (aa 15) (av (ab (aa 17) (ab (aa 16) af))) (ay rW (ay aI (ay aI (aa 18) (mC (.int 1))) (aa 6)) (aa 8)))))
def lY (d q k:Nat):List Nat:=lX d q++List.range k
theorem FL (hd:d<=7)(hp:ps.length<=4)(hk:k<=d) :
  RE (sL h ks m0 m1 n d ps pr s (some (.int (k:Nat))) (some (ae (vA n m0 m1 d ps))) a17 (some (.int (reach ps:Nat)))) (hL h n m0 m1 d ps (lY d (reach ps) k)) =
   some (.nx (sL h ks m0 m1 n d ps pr s (some (.int (k:Nat))) (some (ae (vA n m0 m1 d ps))) (some (ae (XK n m0 m1 d ps k))) (some (.int (reach ps:Nat)))),hL h n m0 m1 d ps (lY d (reach ps) (k+1))):=by
 have hr:=fc ps
 have ni:k∉lY d (reach ps) k:=by simp[lY,lX];lia
 have nl:(lY d (reach ps) k).length<=100:=by simp[lY,lX];lia
 have e1:lY d (reach ps) (k+1)=lY d (reach ps) k++[k]:=by simp[lY,abZ]
 unfold RE
 rw[ai (σ':=sL h ks m0 m1 n d ps pr s (some (.int (k:Nat))) (some (ae (vA n m0 m1 d ps))) (some (ae (XK n m0 m1 d ps k))) (some (.int (reach ps:Nat)))) (h':=hL h n m0 m1 d ps (lY d (reach ps) k)) (by
  rw[sA hk,dO]
  generalize hL h n m0 m1 d ps (lY d (reach ps) k)=Y
  exact(Ms (KW (by lia) rfl rfl)).trans rfl)]
 unfold hL
 rw[ai (K0 ni nl (by
  generalize h++[.dT (bL n m0 m1 d ps (lY d (reach ps) k)),.dT (eL n m0 m1 d ps (lY d (reach ps) k))]=Y
  simp[sL])),<-e1]
 rw[<-xW (n:=n) (m0:=m0) (m1:=m1) (ps:=ps) hk]
 rw[e1]
 refine K1 ni nl ?_
 have:(Th.w k).aU d (d+1+reach ps)=(reach ps:Int)+1+d-k:=by simp only[Th.aU];rw[abo (by lia)];lia
 rw[this]
 generalize h++[.dT (bL n m0 m1 d ps (lY d (reach ps) (k+1))),.dT (eL n m0 m1 d ps (lY d (reach ps) k))]=Y
 simp[sL]
theorem FK (hd:d<=7)(hp:ps.length<=4) :
  ∃ De xX,df (bQ (ab (ay aI (aa 6) (mC (.int 1))) af)) (nName 8) RE (sL h ks m0 m1 n d ps pr s a8 (some (ae (vA n m0 m1 d ps))) a17 (some (.int (reach ps:Nat)))) (hL h n m0 m1 d ps (lX d (reach ps)))=some (.nx (sL h ks m0 m1 n d ps pr s De (some (ae (vA n m0 m1 d ps))) xX (some (.int (reach ps:Nat)))),hL h n m0 m1 d ps (lY d (reach ps) (d+1))):=by
 obtain⟨σ',K,e,De,xX,rfl,rfl⟩:=qe (mi:=bQ (ab (ay aI (aa 6) (mC (.int 1))) af)) (b:=RE) (j:=8) (σ:=sL h ks m0 m1 n d ps pr s a8 (some (ae (vA n m0 m1 d ps))) a17 (some (.int (reach ps:Nat)))) (h:=hL h n m0 m1 d ps (lX d (reach ps))) (h1:=hL h n m0 m1 d ps (lX d (reach ps))) (n:=d+1)
  (λk σ K=>∃ a8 a17,σ=sL h ks m0 m1 n d ps pr s a8 (some (ae (vA n m0 m1 d ps))) a17 (some (.int (reach ps:Nat)))/\K=hL h n m0 m1 d ps (lY d (reach ps) k))
  (iH (by simp[sL]) (by lia))
  (by lia) ⟨a8,a17,rfl,by simp[lY]⟩
  (λk σ K hk ⟨a8,a17,hσ,hK⟩=>by
   subst hσ hK
   exact⟨_,_,FL hd hp (by lia),_,_,rfl,rfl⟩)
 exact⟨De,xX,e⟩
end
section
variable {m0 m1 n:Str}{ps:List Lf}{i d:Nat}
def AY:MS:=(ag (ak (au 1 uD (ab (aa 11) af)) (nName 12))
  (ag (ak (ay aI (av (ab (aa 5) af)) (ay (d7 ik dU) (av (ab (mC (.int 0)) af)) (aa 6))) (nName 13))
  (ag (ak cj (nName 14))
  (ag (ak cj (nName 15))
  (ag (ak (av (ab (mC (.str "done")) (ab (av af) af))) (nName 16))
  (ag (df (bQ (ab (ig (iG eV cN) (ab (aa 9) af)) af)) (nName 8) MC)
  (ag (ak (ig (iG eV cN) (ab (aa 14) af)) (nName 18))
  (ag (df (bQ (ab (ay aI (aa 6) (mC (.int 1))) af)) (nName 8) RE)
  (ag (ak (au 1 qr (ab (aa 11) af)) (nName 19))
  (ag (bg (uV (sM (ij (uU "tuple" (aa 19)))) (uV (mB (ay (c6 true) (ig (iG eV cN) (ab (aa 19) af)) (mC (.int 2)))) (sM (ij (au 2 rR (ab (ah (aa 19) (mC (.int 0))) (ab (aa 14) af))))))) bO aT)
  (bh (au 2 rR (ab (ah (aa 19) (mC (.int 1))) (ab (aa 15) af))))))))))))))
theorem tJ:(lY d (reach ps) (d+1)).Nodup:=by
 unfold lY lX
 rw[List.nodup_append]
 refine⟨List.Pairwise.map _ (λa b hab=>by lia) List.nodup_range,List.nodup_range,?_⟩
 intro a ha b hb
 simp at ha hb
 obtain⟨j,_,rfl⟩:=ha
 lia
theorem Eh (hi:i∈lY d (reach ps) (d+1)):i<d+1+reach ps:=by
 unfold lY lX at hi
 simp at hi
 rcases hi with⟨j,hj,rfl⟩ | hi<;>lia
theorem qf:(lY d (reach ps) (d+1)).length=d+1+reach ps:=by simp[lY,lX];lia
theorem NR {H:MH}(hd:d<=7)(hp:ps.length<=4){r:Nat}(hr:H[r]?=some (.dT (bL n m0 m1 d ps (lY d (reach ps) (d+1))))):rR [.dT (pp (XK n m0 m1 d ps) (d+1+reach ps)),.ref r] H=some (.bl true,H):=by
 have hq:=fc ps
 refine AN hr (by simp[pp,bL,qf]) (by simp[bL,qf];lia) λp hp=>?_
 simp only[bL,abu]at hp
 obtain⟨i,hi,rfl⟩:=hp
 refine⟨kT Gx yR,i,?_,?_⟩
 ·exact dH (f:=XK n m0 m1 d ps) (g:=λi=>U.int (i:Nat)) (List.Pairwise.map _ (λa b hab e=>hab (sR e)) List.nodup_range) (abQ.mpr (Eh hi))
 ·exact dH (f:=XK n m0 m1 d ps) (g:=λi=>U.int (i:Nat)) (List.Pairwise.map _ (λa b hab e=>hab (sR e)) tJ) hi
theorem Dc {j:Nat}(e:NK.KD.tup [XK n m0 m1 d ps i,WK n m0 m1 d ps i]=.tup [XK n m0 m1 d ps j,WK n m0 m1 d ps j]):i=j:=by
 simp only[NK.KD.tup.injEq,List.cons.injEq]at e
 exact sR e.1
theorem NS {H:MH}(hd:d<=7)(hp:ps.length<=4){r:Nat}(hr:H[r]?=some (.dT (eL n m0 m1 d ps (lY d (reach ps) (d+1))))):rR [.dT (wp (XK n m0 m1 d ps) (WK n m0 m1 d ps) d (d+1+reach ps) (d+1+reach ps)),.ref r] H=some (.bl true,H):=by
 have hq:=fc ps
 refine AN hr (by simp[wp,eL,qf]) (by simp[eL,qf];lia) λp hp=>?_
 simp only[eL,abu]at hp
 obtain⟨i,hi,rfl⟩:=hp
 refine⟨kT ⟨_,rfl⟩ (by simp[yR,Il]),(Th.w i).aU d (d+1+reach ps),?_,?_⟩
 ·exact dH (f:=λi=>NK.KD.tup [XK n m0 m1 d ps i,WK n m0 m1 d ps i]) (g:=λi=>U.int ((Th.w i).aU d (d+1+reach ps))) (List.Pairwise.map _ (λa b hab e=>hab (Dc e)) List.nodup_range) (abQ.mpr (Eh hi))
 ·exact dH (f:=λi=>NK.KD.tup [XK n m0 m1 d ps i,WK n m0 m1 d ps i]) (g:=λi=>U.int ((Th.w i).aU d (d+1+reach ps))) (List.Pairwise.map _ (λa b hab e=>hab (Dc e)) tJ) hi
end
section
variable {h:MH}{ks:U}{m0 m1 n:Str}{ps:List Lf}{i k d pr:Nat}{a8:Option U}{s:Sl ks m0 m1 n}
theorem Lv {σ:bG}{Y:MH}{A B:List (NK.KD×U)}{r q:Nat}{f:MF}(YQ:σ[14]?=some (some (.ref r)))(Ug:σ[19]?=some (some (.tup [.dT A,.dT B])))(sb:f [.dT A,.ref r] Y=some (.bl true,Y)) :
  bg (uV (sM (ij (uU "tuple" (aa 19)))) (uV (mB (ay (c6 true) (ig (iG eV cN) (ab (aa 19) af)) (mC (.int 2)))) (sM (ij (au 2 f (ab (ah (aa 19) (mC (.int 0))) (ab (aa 14) af))))))) bO aT σ Y=some (.nx σ,Y):=by
 simp[YQ,Ug,zG,yM,mY,iG,sb,aZ,sJ,aQ]
theorem NO {σ:bG}{Y:MH}{A B:List (NK.KD×U)}{r:Nat}{f:MF}(YR:σ[15]?=some (some (.ref r)))(Ug:σ[19]?=some (some (.tup [.dT A,.dT B])))(sb:f [.dT B,.ref r] Y=some (.bl true,Y)) :
  bh (au 2 f (ab (ah (aa 19) (mC (.int 1))) (ab (aa 15) af))) σ Y=some (.rt (.bl true),Y):=by
 simp[YR,Ug,sb,aZ,sJ,aQ]
theorem JG (hd:d<=7)(hp:ps.length<=4)(hr:h[pr]?=some (.lst (ps.map Lf.enc))) :
  ∃ H,AY [s.s0,s.s1,s.s2,s.s3,s.s4,some (.str n),some (.int (d:Nat)),s.s7,a8,some (.ref pr),s.Pj,some (de ks m0 m1 n (.rw d ps)),none,none,none,none,none,none,none,none] h=some (.rt (.bl true),h++H):=by
 have hq:=fc ps
 have ok:og (.rw d ps):=⟨hd,hp⟩
 have hs:=λH=>DG (h:=H) (ks:=ks) (m0:=m0) (m1:=m1) (n:=n) ok
 obtain⟨b8,WI,ll⟩:=BR (h:=h) (ks:=ks) (m0:=m0) (m1:=m1) (n:=n) (s:=s) (a8:=a8) (a17:=none) (a18:=none) hd hp hr
 obtain⟨c8,YG,rl⟩:=FK (h:=h) (ks:=ks) (m0:=m0) (m1:=m1) (n:=n) (s:=s) (pr:=pr) (a8:=b8) (a17:=WI) hd hp
 have pk:=Cm (h:=hL h n m0 m1 d ps (lY d (reach ps) (d+1))) (ks:=ks) (m0:=m0) (m1:=m1) (n:=n) ok (DB hd hp) (λi _=>kT ⟨_,rfl⟩ (by simp[yR,Il]))
 have sb:=NR (n:=n) (m0:=m0) (m1:=m1) (H:=hL h n m0 m1 d ps (lY d (reach ps) (d+1))) hd hp (r:=h.length) (by simp[hL])
 have se:=NS (n:=n) (m0:=m0) (m1:=m1) (H:=hL h n m0 m1 d ps (lY d (reach ps) (d+1))) hd hp (r:=h.length+1) (by simp[hL])
 refine⟨[.dT (bL n m0 m1 d ps (lY d (reach ps) (d+1))),.dT (eL n m0 m1 d ps (lY d (reach ps) (d+1)))],?_⟩
 unfold AY
 rw[ai (σ':=[s.s0,s.s1,s.s2,s.s3,s.s4,some (.str n),some (.int (d:Nat)),s.s7,a8,some (.ref pr),s.Pj,some (de ks m0 m1 n (.rw d ps)),some (.dT (fX n (sp [] (.rw d ps)))),none,none,none,none,none,none,none]) (h':=h) (by simp[hs])]
 rw[ai (iU (KW (k:=d) (n:=n) (by lia) rfl rfl))]
 rw[ai (σ':=[s.s0,s.s1,s.s2,s.s3,s.s4,some (.str n),some (.int (d:Nat)),s.s7,a8,some (.ref pr),s.Pj,some (de ks m0 m1 n (.rw d ps)),some (.dT (fX n (sp [] (.rw d ps)))),some (cT n (rp d)),some (.ref h.length),none,none,none,none,none]) (h':=h++[.dT []]) (by simp)]
 rw[ai (σ':=[s.s0,s.s1,s.s2,s.s3,s.s4,some (.str n),some (.int (d:Nat)),s.s7,a8,some (.ref pr),s.Pj,some (de ks m0 m1 n (.rw d ps)),some (.dT (fX n (sp [] (.rw d ps)))),some (cT n (rp d)),some (.ref h.length),some (.ref (h.length+1)),none,none,none,none]) (h':=hL h n m0 m1 d ps []) (by simp[hL,bL,eL])]
 rw[ai (σ':=sL h ks m0 m1 n d ps pr s a8 (some (ae (wy n m0 m1 d ps 0))) none none) (h':=hL h n m0 m1 d ps []) (by
  generalize hL h n m0 m1 d ps []=Y
  simp[sL,wy,rD,fU,ae])]
 rw[ai ll]
 rw[ai (σ':=sL h ks m0 m1 n d ps pr s b8 (some (ae (vA n m0 m1 d ps))) WI (some (.int (reach ps:Nat)))) (h':=hL h n m0 m1 d ps (lX d (reach ps))) (by
  simp[sL,hL,iG,bL,lX])]
 rw[ai rl]
 rw[ai (σ':=(sL h ks m0 m1 n d ps pr s c8 (some (ae (vA n m0 m1 d ps))) YG (some (.int (reach ps:Nat)))).set 19 (some (.tup [.dT (pp (XK n m0 m1 d ps) (d+1+reach ps)),.dT (wp (XK n m0 m1 d ps) (WK n m0 m1 d ps) d (d+1+reach ps) (d+1+reach ps))]))) (h':=hL h n m0 m1 d ps (lY d (reach ps) (d+1))) (by
  generalize hL h n m0 m1 d ps (lY d (reach ps) (d+1))=Y at pk ⊢
  simp[sL,pk])]
 rw[ai (Lv (q:=0) rfl rfl sb)]
 exact NO rfl rfl se
end
section
noncomputable def HP (y:Int)(M1 M2:MO)(menu:List Lf)(x:Int)(acc:List Lf):MH:=[.lst [.int x],.lst [.int y],M1,M2,.lst (menu.map Lf.enc),.lst (acc.map Lf.enc)]
def Vy:ME:=ah (aa 1) (au 2 aw (ab (aa 2) (ab (mC (.int 9)) af)))
variable {y:Int}{M1 M2:MO}{menu:List Lf}
theorem Nc (hm:menu.length=9){o:Option U}{x:Int}{acc:List Lf}:∃ (l:Lf) (x':Int),Vy [o,some (.ref 4),some (.ref 0)] (HP y M1 M2 menu x acc)=some (l.enc,HP y M1 M2 menu x' acc):=by
 have h0:0<=x%9:=Int.emod_nonneg _ (by lia)
 have h1:x%9<9:=Int.emod_lt_of_pos _ (by lia)
 obtain⟨j,hj⟩:=Int.eq_ofNat_of_zero_le h0
 have Zo:j<menu.length:=by lia
 have dg:=digit_eq (h:=HP y M1 M2 menu x acc) (t:=0) (x:=x) (m:=9) rfl (by lia) (by lia)
 rw[show(HP y M1 M2 menu x acc).set 0 (.lst [.int (x/9)])=HP y M1 M2 menu (x/9) acc from rfl,hj]at dg
 refine⟨menu[j],x/9,?_⟩
 have YC:(HP y M1 M2 menu (x/9) acc)[4]?=some (.lst (menu.map Lf.enc)):=rfl
 have ix:L2.iT (menu.map Lf.enc) ((j:Nat):Int)=some (menu[j].enc):=by rw[S.dW,abG,abw Zo];rfl
 generalize HP y M1 M2 menu (x/9) acc=Y at *
 generalize HP y M1 M2 menu x acc=Z at *
 simp[Vy,dg,aZ,sJ,aQ,YC,ix]
theorem AA (hm:menu.length=9){m:Nat}(UO:m<=4):∀ (r i:Nat) (x:Int) (acc:List Lf) (o:Option U),i+r=m->acc.length<=i->∃ ls x',ls.length=r/\Io (itR 0 m) (nName 0) bS Vy 5 i i [o,some (.ref 4),some (.ref 0)] (HP y M1 M2 menu x acc)=some (HP y M1 M2 menu x' (acc++ls))
 |0,i,x,acc,o,hi,ha=>⟨[],x,rfl,by
  rw[Ky (by lia)]
  unfold itR
  rw[abo (by lia)];simp⟩
 |r+1,i,x,acc,o,hi,ha=>by
  obtain⟨l,x1,e⟩:=Nc (y:=y) (M1:=M1) (M2:=M2) (menu:=menu) hm (o:=some (.int (0+(i:Nat)))) (x:=x) (acc:=acc)
  obtain⟨ls,x2,e1,e2⟩:=AA hm UO r (i+1) x1 (acc++[l]) (some (.int (0+(i:Nat)))) (by lia) (by simp;lia)
  refine⟨l::ls,x2,by simp[e1],?_⟩
  rw[Ky (by lia)]
  unfold itR
  rw[abr (by lia),abJ,Qq]
  have g0:nName 0 (.int (0+(i:Nat))) [o,some (.ref 4),some (.ref 0)] (HP y M1 M2 menu x acc)=some ([some (.int (0+(i:Nat))),some (.ref 4),some (.ref 0)],HP y M1 M2 menu x acc):=rfl
  rw[g0,abJ,NL,abJ,abr rfl,e,abJ]
  rw[Hx (acc:=acc.map Lf.enc) rfl (by simp;lia)]
  have st:(HP y M1 M2 menu x1 acc).set 5 (.lst (acc.map Lf.enc++[l.enc]))=HP y M1 M2 menu x1 (acc++[l]):=by simp[HP]
  rw[st]
  unfold itR at e2
  rw[e2];simp
end
section
def KI:MS:=df (bQ (ab (aa 6) af)) (nName 8) (ak (av (ab (mC (.str "row")) (ab (aa 10) af))) (nName 10))
def Nz (T K N D:MF)(R:MS):MS:=
  (ag (ak (au 2 T (ab (aa 0) (ab (mC (.int 0)) af))) (nName 1))
  (ag (ak (au 2 T (ab (aa 0) (ab (mC (.int 1)) af))) (nName 2))
  (ag (ak (au 1 K (ab (aa 2) af)) (nName 3))
  (ag (ak (ig cp (ab (au 2 N (ab (aa 2) (ab (mC (.int 2)) af))) af)) (nName 4))
  (ag (ak (ah (au 2 N (ab (aa 2) (ab (mC (.int 1)) af))) (mC (.int 0))) (nName 5))
  (ag (ak (au 2 D (ab (aa 1) (ab (mC (.int 8)) af))) (nName 6))
  (ag (ak (bZ (ab (av (ab (mC (.str "say")) (ab (aa 5) af))) (ab (av (ab (mC (.str "on")) (ab (ah (aa 4) (mC (.int 0))) af))) (ab (av (ab (mC (.str "on")) (ab (ah (aa 4) (mC (.int 1))) af))) (ab (av (ab (mC (.str "off")) (ab (ah (aa 4) (mC (.int 0))) af))) (ab (av (ab (mC (.str "row")) af)) (ab (av (ab (mC (.str "say")) (ab (ah (aa 4) (mC (.int 0))) af))) af))))))) (nName 7))
  (ag (ak (ay aI (aa 7) (bZ (ab (av (ab (mC (.str "leave")) af)) (ab (av (ab (mC (.str "slip")) (ab (ah (ah (aa 3) (ba jP (mC (.int 1)))) (mC (.int 0))) af))) (ab (av (ab (mC (.str "slip")) (ab (ah (ah (aa 3) (mC (.int 0))) (mC (.int 0))) af))) af))))) (nName 7))
  (ag (ak (bY [none,some 7,some 1] (bQ (ab (au 2 D (ab (aa 1) (ab (mC (.int 5)) af))) af)) (nName 0) bS (ah (aa 1) (au 2 D (ab (aa 2) (ab (mC (.int 9)) af))))) (nName 9))
  (ag (ak (ay aI (av (ab (mC (.str "row")) af)) (ig cp (ab (aa 9) af))) (nName 10))
  (ag KI
  (ag (ak (av (ab (aa 3) (ab (aa 4) (ab (av (ab (av (ab (aa 5) (ab (aa 10) af))) af)) af)))) (nName 11)) R))))))))))))
abbrev Vh:MF:=Kz (b5 aY) oK lG aw uD dw qr rR
theorem Mx:J1 (b5 aY) oK lG aw uD dw qr rR=Nz (b5 aY) oK lG aw AY:=rfl
theorem st {a:ME}{i:Nat}{T:MS}{σ:bG}{h:MH}{R:Fl}(u:U)(h':MH)(σ':bG)(e:a σ h=some (u,h'))(q:σ.set i (some u)=σ')(r:∃ G,T σ' h'=some (R,G)):∃ G,ag (ak a (nName i)) T σ h=some (R,G):=by
 subst q
 have e2:ak a (nName i) σ h=some (.nx (σ.set i (some u)),h'):=by unfold ak;rw[e];rfl
 unfold ag;rw[e2];exact r
noncomputable def mX (s a1 a2 a3 a4 a5 a6 a7 a8 a9 Yz YA:Option U):bG:=[s,a1,a2,a3,a4,a5,a6,a7,a8,a9,Yz,YA,none,none,none,none,none,none,none,none]
theorem IA {d:Nat}{ps:List Lf}{H:MH}{s a1 a2 a3 a4 a5 a7 a8 a9:Option U}(hd:d<=7):∃ De,KI (mX s a1 a2 a3 a4 a5 (some (.int (d:Nat))) a7 a8 a9 (some (lI ps 0)) none) H=some (.nx (mX s a1 a2 a3 a4 a5 (some (.int (d:Nat))) a7 De a9 (some (lI ps d)) none),H):=by
 obtain⟨σ',K,e,De,rfl,rfl⟩:=qe (mi:=bQ (ab (aa 6) af)) (b:=ak (av (ab (mC (.str "row")) (ab (aa 10) af))) (nName 10)) (j:=8) (σ:=mX s a1 a2 a3 a4 a5 (some (.int (d:Nat))) a7 a8 a9 (some (lI ps 0)) none) (h:=H) (h1:=H) (n:=d)
  (λk σ K=>∃ a8,σ=mX s a1 a2 a3 a4 a5 (some (.int (d:Nat))) a7 a8 a9 (some (lI ps k)) none/\K=H)
  (iH (by simp[mX]) (by lia)) (by lia) ⟨a8,rfl,rfl⟩
  (λk σ K hk ⟨a8,hσ,hK⟩=>by
   subst hσ hK
   exact⟨mX s a1 a2 a3 a4 a5 (some (.int (d:Nat))) a7 (some (.int (k:Nat))) a9 (some (lI ps (k+1))) none,K,by simp[mX,lI],some (.int (k:Nat)),rfl,rfl⟩)
 exact⟨De,e⟩
end
section
variable {ns:List Int}{x0 x1 y0 y1 y2 y3:Int}{m0 m1 n:Str}{ks:List (Str×Str)}{z1 z2:Str×Str}{d:Nat}
noncomputable def iZ (n m0 m1 a b:Str):List Lf:=[.say n,.on m0,.on m1,.off m0,.row,.say m0,.leave,.Cu a,.Cu b]
theorem Iq (hd:d<=7)
  (e0:b5 aY [.eA (ns.map .int),.int 0] []=some (.ref 0,[.lst [.int x0]]))
  (e1:b5 aY [.eA (ns.map .int),.int 1] [.lst [.int x0]]=some (.ref 1,[.lst [.int x0],.lst [.int y0]]))
  (ek:oK [.ref 1] [.lst [.int x0],.lst [.int y0]]=some (ib ks,[.lst [.int x0],.lst [.int y1]]))
  (Qh:lG [.ref 1,.int 2] [.lst [.int x0],.lst [.int y1]]=some (.lst [.str m0,.str m1],[.lst [.int x0],.lst [.int y2]]))
  (Qg:lG [.ref 1,.int 1] [.lst [.int x0],.lst [.int y2]]=some (.lst [.str n],[.lst [.int x0],.lst [.int y3]]))
  (d8:aw [.ref 0,.int 8] [.lst [.int x0],.lst [.int y3]]=some (.int (d:Nat),[.lst [.int x1],.lst [.int y3]]))
  (Um:L2.iT (ks.map λk=>U.tup [.str k.1,.str k.2]) (-1)=some (.tup [.str z1.1,.str z1.2]))
  (Uo:L2.iT (ks.map λk=>U.tup [.str k.1,.str k.2]) 0=some (.tup [.str z2.1,.str z2.2])) :
  ∃ G,Nz (b5 aY) oK lG aw AY (mX (some (.eA (ns.map .int))) none none none none none none none none none none none) []=some (.rt (.bl true),G):=by
 unfold Nz
 refine st (.ref 0) [.lst [.int x0]] (mX (some (.eA (ns.map .int))) (some (.ref 0)) none none none none none none none none none none) (by simp[mX,e0]) rfl ?_
 refine st (.ref 1) [.lst [.int x0],.lst [.int y0]] (mX (some (.eA (ns.map .int))) (some (.ref 0)) (some (.ref 1)) none none none none none none none none none) (by simp[mX,e1]) rfl ?_
 refine st (ib ks) [.lst [.int x0],.lst [.int y1]] (mX (some (.eA (ns.map .int))) (some (.ref 0)) (some (.ref 1)) (some (ib ks)) none none none none none none none none) (by simp[mX,ek]) rfl ?_
 refine st (.tup [.str m0,.str m1]) [.lst [.int x0],.lst [.int y2]] (mX (some (.eA (ns.map .int))) (some (.ref 0)) (some (.ref 1)) (some (ib ks)) (some (.tup [.str m0,.str m1])) none none none none none none none) (by simp[mX,Qh,cp,cD,aQ]) rfl ?_
 refine st (.str n) [.lst [.int x0],.lst [.int y3]] (mX (some (.eA (ns.map .int))) (some (.ref 0)) (some (.ref 1)) (some (ib ks)) (some (.tup [.str m0,.str m1])) (some (.str n)) none none none none none none) (by simp[mX,Qg,aZ,sJ,aQ]) rfl ?_
 refine st (.int (d:Nat)) [.lst [.int x1],.lst [.int y3]] (mX (some (.eA (ns.map .int))) (some (.ref 0)) (some (.ref 1)) (some (ib ks)) (some (.tup [.str m0,.str m1])) (some (.str n)) (some (.int (d:Nat))) none none none none none) (by simp[mX,d8]) rfl ?_
 refine st (.ref 2) [.lst [.int x1],.lst [.int y3],.lst (((iZ n m0 m1 z1.1 z2.1).take 6).map Lf.enc)] (mX (some (.eA (ns.map .int))) (some (.ref 0)) (some (.ref 1)) (some (ib ks)) (some (.tup [.str m0,.str m1])) (some (.str n)) (some (.int (d:Nat))) (some (.ref 2)) none none none none) (by simp[mX,iZ,Lf.enc]) rfl ?_
 refine st (.ref 4) [.lst [.int x1],.lst [.int y3],.lst (((iZ n m0 m1 z1.1 z2.1).take 6).map Lf.enc),.lst (((iZ n m0 m1 z1.1 z2.1).drop 6).map Lf.enc),.lst ((iZ n m0 m1 z1.1 z2.1).map Lf.enc)] (mX (some (.eA (ns.map .int))) (some (.ref 0)) (some (.ref 1)) (some (ib ks)) (some (.tup [.str m0,.str m1])) (some (.str n)) (some (.int (d:Nat))) (some (.ref 4)) none none none none) (by simp[mX,iZ,Lf.enc,ib,Um,Uo,jP];simp[Hf]) rfl ?_
 have d5:=digit_eq (h:=[.lst [.int x1],.lst [.int y3],.lst (((iZ n m0 m1 z1.1 z2.1).take 6).map Lf.enc),.lst (((iZ n m0 m1 z1.1 z2.1).drop 6).map Lf.enc),.lst ((iZ n m0 m1 z1.1 z2.1).map Lf.enc)]) (t:=0) (x:=x1) (m:=5) rfl (by lia) (by lia)
 have q0:0<=x1%5:=Int.emod_nonneg _ (by lia)
 have q1:x1%5<5:=Int.emod_lt_of_pos _ (by lia)
 obtain⟨m,hm⟩:=Int.eq_ofNat_of_zero_le q0
 have UO:m<=4:=by lia
 rw[hm]at d5
 generalize x1/5=x2 at d5
 obtain⟨ps,x3,pl,pe⟩:=AA (y:=y3) (M1:=.lst (((iZ n m0 m1 z1.1 z2.1).take 6).map Lf.enc)) (M2:=.lst (((iZ n m0 m1 z1.1 z2.1).drop 6).map Lf.enc)) (menu:=iZ n m0 m1 z1.1 z2.1) rfl UO m 0 x2 [] none (by lia) (by simp)
 have hp:ps.length<=4:=by lia
 rw[List.nil_append]at pe
 generalize iZ n m0 m1 z1.1 z2.1=mu at d5 pe ⊢
 generalize (mu.take 6).map Lf.enc=A1 at d5 pe ⊢
 generalize (mu.drop 6).map Lf.enc=A2 at d5 pe ⊢
 have cmp:bY [none,some 7,some 1] (bQ (ab (au 2 aw (ab (aa 1) (ab (mC (.int 5)) af))) af)) (nName 0) bS (ah (aa 1) (au 2 aw (ab (aa 2) (ab (mC (.int 9)) af)))) (mX (some (.eA (ns.map .int))) (some (.ref 0)) (some (.ref 1)) (some (ib ks)) (some (.tup [.str m0,.str m1])) (some (.str n)) (some (.int (d:Nat))) (some (.ref 4)) none none none none) [.lst [.int x1],.lst [.int y3],.lst A1,.lst A2,.lst (mu.map Lf.enc)]=some (.ref 5,HP y3 (.lst A1) (.lst A2) mu x3 ps):=by
  rw[z9,iH (n:=m) (h':=[.lst [.int x2],.lst [.int y3],.lst A1,.lst A2,.lst (mu.map Lf.enc)]) (by simp[mX,d5]) (by lia),abJ]
  refine(congrArg (λz=>Option.bind z _) (show Io _ _ _ _ _ _ _ _ _=_ from pe)).trans ?_
  rfl
 refine st (.ref 5) (HP y3 (.lst A1) (.lst A2) mu x3 ps) (mX (some (.eA (ns.map .int))) (some (.ref 0)) (some (.ref 1)) (some (ib ks)) (some (.tup [.str m0,.str m1])) (some (.str n)) (some (.int (d:Nat))) (some (.ref 4)) none (some (.ref 5)) none none) cmp rfl ?_
 have T3:(HP y3 (.lst A1) (.lst A2) mu x3 ps)[5]?=some (.lst (ps.map Lf.enc)):=rfl
 generalize HP y3 (.lst A1) (.lst A2) mu x3 ps=H at T3 ⊢
 refine st (lI ps 0) H (mX (some (.eA (ns.map .int))) (some (.ref 0)) (some (.ref 1)) (some (ib ks)) (some (.tup [.str m0,.str m1])) (some (.str n)) (some (.int (d:Nat))) (some (.ref 4)) none (some (.ref 5)) (some (lI ps 0)) none) (by
  have h9:1+ps.length<=sizeLine:=by rw[ab0];lia
  simp[mX,cp,cD,aQ,T3,lI,h9]) rfl ?_
 obtain⟨a8,ne⟩:=IA (d:=d) (ps:=ps) (H:=H) (s:=some (.eA (ns.map .int))) (a1:=some (.ref 0)) (a2:=some (.ref 1)) (a3:=some (ib ks)) (a4:=some (.tup [.str m0,.str m1])) (a5:=some (.str n)) (a7:=some (.ref 4)) (a8:=none) (a9:=some (.ref 5)) hd
 rw[ai ne]
 refine st (de (ib ks) m0 m1 n (.rw d ps)) H (mX (some (.eA (ns.map .int))) (some (.ref 0)) (some (.ref 1)) (some (ib ks)) (some (.tup [.str m0,.str m1])) (some (.str n)) (some (.int (d:Nat))) (some (.ref 4)) a8 (some (.ref 5)) (some (lI ps d)) (some (de (ib ks) m0 m1 n (.rw d ps)))) (by simp[mX,de,encD]) rfl ?_
 obtain⟨G,t⟩:=JG (h:=H) (ks:=ib ks) (m0:=m0) (m1:=m1) (n:=n) (ps:=ps) (d:=d) (pr:=5) (a8:=a8) (s:=⟨some (.eA (ns.map .int)),some (.ref 0),some (.ref 1),some (ib ks),some (.tup [.str m0,.str m1]),some (.ref 4),some (lI ps d)⟩) hd hp T3
 exact⟨_,t⟩
end
theorem QO {ks:List (Str×Str)}(h:1<=ks.length):∃ z1 z2:Str×Str,L2.iT (ks.map λk=>U.tup [.str k.1,.str k.2]) (-1)=some (.tup [.str z1.1,.str z1.2])/\L2.iT (ks.map λk=>U.tup [.str k.1,.str k.2]) 0=some (.tup [.str z2.1,.str z2.2]):=by
 have ne:ks≠[]:=λe=>by rw[e]at h;simp at h
 refine⟨ks.getLast ne,ks.head ne,?_,?_⟩
 ·have e:ks.map (λk=>U.tup [.str k.1,.str k.2])=ks.dropLast.map (λk=>U.tup [.str k.1,.str k.2])++[U.tup [.str (ks.getLast ne).1,.str (ks.getLast ne).2]]:=by
   conv=>lhs;rw[<-List.dropLast_concat_getLast ne]
   simp
  rw[e];exact S.vK
 ·cases ks with
  |nil=>exact absurd rfl ne
  |cons k r=>simp
theorem Mz (ns:List Int):Vh [.eA (ns.map .int)] []=some (.bl true,[]):=by
 obtain⟨x0,e0⟩:=A3 (h:=[]) (ns:=ns) (k:=0) (by lia)
 obtain⟨y0,e1⟩:=A3 (h:=[.lst [.int x0]]) (ns:=ns) (k:=1) (by lia)
 obtain⟨ks,y1,ek,_,k1,_⟩:=Et (h:=[.lst [.int x0],.lst [.int y0]]) (t:=1) (x:=y0) rfl
 obtain⟨a2,y2,Qh,⟨l2,S4,_⟩⟩:=rB (h:=[.lst [.int x0],.lst [.int y1]]) (t:=1) (m:=2) (x:=y1) rfl (by lia)
 obtain⟨a1,y3,Qg,⟨l1,_,_⟩⟩:=rB (h:=[.lst [.int x0],.lst [.int y2]]) (t:=1) (m:=1) (x:=y2) rfl (by lia)
 have d8:=digit_eq (h:=[.lst [.int x0],.lst [.int y3]]) (t:=0) (x:=x0) (m:=8) rfl (by lia) (by lia)
 have q0:0<=x0%8:=Int.emod_nonneg _ (by lia)
 have q1:x0%8<8:=Int.emod_lt_of_pos _ (by lia)
 obtain⟨d,hd⟩:=Int.eq_ofNat_of_zero_le q0
 rw[hd]at d8
 obtain⟨z1,z2,Um,Uo⟩:=QO k1
 match a2,l2,S4,Qh with
 |[m0,m1],_,S4,Qh=>
  match a1,l1,Qg with
  |[n],_,Qg=>
   obtain⟨G,eG⟩:=Iq (d:=d) (by lia) e0 e1 ek Qh Qg d8 Um Uo
   exact iw (h:=[]) (g:=G) (bc (by rw[Mx];exact eG)) .bl
end D51
namespace D51
open PySem PySem.W L2 S
def F3 (K:PySem.W.Frag):L2.Sp:=λvs H Q _=>∃ a,∃ ns:List Int,vs=[.ref a]/\fh K H a (ns.map V.int)/\G8 H/\ns.length<=63/\∀ H',Q (.bl true) H'
section
variable [kf:KF]
def LG (CV CG CM CE CR:Addr):CL:=λC f=>(C=CV/\f∈VF.map Str.ofString)\/(C=CG/\f∈GF.map Str.ofString)\/(C=CM/\f∈Lr.map Str.ofString)\/(C=CE/\f∈EF.map Str.ofString)\/(C=CR/\f∈RF.map Str.ofString)
theorem P5 {C:Addr}{f:Str}{L:List String}(k:p8 kf.K C)(q:((L.map Str.ofString).all λf=>decide (findIn kf.K (.ref C) f=some none))=true)(m:f∈L.map Str.ofString):p8 kf.K C/\jg kf.K C f:=by
 have z:findIn kf.K (.ref C) f=some none:=of_decide_eq_true (List.all_eq_true.mp q f m)
 exact⟨k,z⟩
theorem T6 {w:World}{CV CG CM CE CR:Addr}(T:Txt kf.K w CV CG CM CE CR):Bc kf.K (LG CV CG CM CE CR):=⟨λC f h=>by
 rcases h with⟨rfl,m⟩ | ⟨rfl,m⟩ | ⟨rfl,m⟩ | ⟨rfl,m⟩ | ⟨rfl,m⟩
 ·exact P5 T.k_View T.f_View m
 ·exact P5 T.k_Growth T.f_Growth m
 ·exact P5 T.k_Market T.f_Market m
 ·exact P5 T.k_Endings T.f_Endings m
 ·exact P5 T.k_Reckoning T.f_Reckoning m⟩
@[reducible] noncomputable def Ud {CV CG CM CE CR:Addr}(ok:Bc kf.K (LG CV CG CM CE CR)):Cw:=⟨⟨LG CV CG CM CE CR,ok⟩,CV,CG,CM,CE,CR,λf hf=>.inl ⟨rfl,acx hf⟩,λf hf=>.inr (.inl ⟨rfl,acx hf⟩),λf hf=>.inr (.inr (.inl ⟨rfl,acx hf⟩)),λf hf=>.inr (.inr (.inr (.inl ⟨rfl,acx hf⟩))),λf hf=>.inr (.inr (.inr (.inr ⟨rfl,acx hf⟩)))⟩
theorem t8 {ι:List Addr}{H:Hp}:∀ {ns:List Int},aH ι H (ns.map U.int) (ns.map V.int)
 |[]=>.nil
 |_::_=>.cons .int t8
theorem Ew [c:Cw]{P:Program}{w:World}{mg:Str->Option Value}{base:Heap}{k:Nat}{f:Addr}{fd:FuncData}(F:dA P w kf.K mg base sx k f fd ["script"] (oh 1 C4)):dA P w kf.K mg base sx k f fd ["script"] (F3 kf.K):=by
 refine F.imp λvs H Q E ⟨a,ns,e1,e2,e3,e4,q⟩=>?_
 subst e1
 have e6:C4 [.eA (ns.map .int)] []=some (.bl true,[]):=Mz ns
 refine⟨rfl,[],[.eA (ns.map .int)],[],.bl true,[],⟨rfl,List.nodup_nil,λn a o h _=>by simp at h⟩,.cons (.eA (vs:=ns.map V.int) ?_ t8) .nil,e6,λι' H' v x r kk=>?_⟩
 ·rcases e2 with e2 | e2
  ·left
   refine⟨by simp,?_⟩
   rcases e3 a with z | ⟨o,xs,z⟩
   ·rcases e2 with y | ⟨o,y⟩<;>rw[z]at y<;>cases y
   ·rcases e2 with y | ⟨o',y⟩
    ·rw[z]at y;cases y
    ·exact⟨o',y⟩
  ·exact .inr e2
 ·cases kk;exact q H'
end
theorem OH [kf:KF]{P:Program}{w:World}{h:Heap}{mg:Str->Option Value}{fa CV CG CM CE CR:Addr}(X:kf.K.In h)(G:h.Ns mainGlobals mg)(Zf:mg "law" = some (.ref fa))(T:Txt kf.K w CV CG CM CE CR) :
  ∃ fd:FuncData,(∀ (s:Shared) (v:Value),BindsTo s fd ⟨[v],[]⟩ [("script",v)])/\∀ base:Heap,kf.K.In base->base.Ns mainGlobals mg->dA P w kf.K mg base sx 40 fa fd ["script"] (F3 kf.K):=by
 obtain⟨f,hn,oc,od,kV,doc,pm,an,kj,ct,CT,l,c,k⟩:=T.d_law
 have e:=Zf.symm.trans (PySem.W.mg_of X G hn)
 cases e
 letI:=Ud (T6 T)
 exact⟨_,λs v=>.of_eq rfl,λbase _ _=>Ew (dA.mono (My (base:=base) X G T (DU l c k)) (by decide:10<=40))⟩
end D51
namespace D51
open PySem L2
theorem walk {l:PySem.W.OpenLaw}{q:Program}{loose:List Str}{XP:(Str->Option Value)->Heap->Prop}{YP:World->Heap->Prop}{d:DefRec}{K:Params->PySem.W.Frag}(hn:l.most=some 63)(Qv:d.params.defaults=[])
  (hY:∀ (w:World) (h:Heap),YP w h->(K w.params).In h) (hd:d.name = "law") (T:∀ w:World,∃ CV CG CM CE CR,Txt (K w.params) w CV CG CM CE CR) :
  PySem.W.WalkO q loose XP YP l.row.toRowW d [] (λf vs=>PySem.call f vs):=
 L2.JU (n:=63) (k:=40) (x:="script") (CX:=λ_=>sx) (sp:=λw=>F3 (K w.params)) hn (by decide) Qv ⟨rfl,by decide,by decide,rfl⟩ hY (λw mg fa h X G hm=>by
  obtain⟨CV,CG,CM,CE,CR,t⟩:=T w
  rw[hd]at hm
  exact @OH ⟨K w.params⟩ l.prog w h mg fa CV CG CM CE CR X G hm t) (λ_ _ a ns hl hO hS=>⟨a,ns,rfl,hS,hO,hl,λ_=>rfl⟩) λ_ _ _ _ _ z=>z
end D51
end
set_option genInjectivity false
set_option genCtorIdx false
structure PySem.W.Fast:Prop where
 (tw3831456877485688453 tw1684996367267898797 tw7596226687267770586 tw14870259154337604459 tw16630249011710119915 tw18026788237645470815 tw1578814236106149247 tw4367707881079713568 tw5555268332029652234 tw3997135723221519651 tw15128373579738202941 tw4908122899716925749 tw14425754886049468917 tw15996666114106139170 tw18421210085755418550 tw6756063728796802373 tw2081089704851088350 tw7259563413495232021 tw18044442817096864495 tw1948286589047074030 tw16180246687326710882 tw10109674516701510070 tw9683727673374148344 tw2425364697687409864 tw7879684202923828918 tw6902764357873121523 tw529118028524660070 tw4863832103690046095 tw5649738690403796116 tw8100115353546123494 tw6795439906072440208 tw3955288787927293174 tw917119386292796388 tw17681181895494562574 tw9679159854521393603 tw12009493010340778851 tw3378350485063599740 tw4550181727966717124 tw891560390816340338 tw2850437669907704712 tw5608856982061715493 tw16840415424598120564 tw10149388661844882104 tw11531548828025082484 tw3845865104335179086 tw12862326672737731094 tw12141729012136112047 tw18408205021757281191 tw7973326501154014045 tw9287437229408089320 tw3200302228769057892 tw13290925669429472168 tw2661747913779782497 tw13898324577030190286 tw15841654343238372008 tw13251554572478992634 tw17038575364848944893 tw8255841893273283678 tw17073410485620573342 tw8853689045395134328 tw12339182784397270184 tw13327568394060997502 tw2871745386845123875 tw7657773893705675257 tw1038094780342956414 tw3446423417348031449 tw17876810944452031303 tw5403232350823429826 tw8271477548327639493 tw11881410388288553325 tw12790319651193093282 tw12440083156415700961 tw10183763428628482335 tw6870378439995686351 tw11949427498346635398 tw17428924420105212078 tw6966006386045714316 tw7802998964856729093 tw5954785913508228937 tw12591527429343065291 tw5642218890123735258 tw9850046759267159630 tw15428455005123485362 tw15374342237128240708 tw12397118845103978210 tw9675777637150936984 tw11126956240875851695 tw1003203723369180714 tw900649630286965273 tw13976278328906119305 tw6633271827386986146 tw14708431076762349291 tw8962053224935655637 tw8397618236912233166 tw12918760904294066841 tw6740160032092829644 tw5542194023620630511 tw17016260668761165021 tw3208719795972734020 tw10388096051468324489 tw7419024550909589222 tw13652152333222458442 tw3523090053942561647 tw13753984331896173271 tw17574720287263622292 tw2196968234992574379 tw4810390612080881219 tw4608073144064096962 tw2852560461024025178 tw5711670785848832309 tw3716672077397889654 tw9448764081137502008 tw7718872869297123251 tw16789885031800699694 tw13713428803902305103 tw17040591723007012436 tw9759208370485780746 tw18399322347868804425 tw4875515710339703701 tw4175781213126520035 tw1596873603469228334 tw3760252535763697498 tw15974018422950622730 tw11321918515658195175 tw10872385346627659785 tw2213554715746256625 tw12969220482819431427 tw3615690862745795829 tw14035235619272271313 tw17473013640634249732 tw18148546184927842668 tw397765297360122905 tw12531152045833776746 tw7355109212785265074 tw3151667923554336705 tw10124913633064354917 tw4180710518312236028 tw17024568067394314220 tw13910873754997875389 tw11248515974579555748 tw3972371856351810583 tw5083066993789204484 tw10164977862613710151 tw17957659717647155546 tw6536931023293580557 tw2204202293841632237 tw9547349501171257271 tw7056234147458412734 tw10103468832482795757 tw8343632514648518137 tw17407625834568090319 tw11276071760953383671 tw13317204313120736563 tw3253697508123256388 tw16563730035120138309 tw7298069058952130274 tw2704716729518417483 tw3229595552698643315 tw10778878427399065413 tw6081822568459153535 tw8790653934096508607 tw10742214757410385994 tw17298442475660928198 tw16168135202135738886 tw9923866577988108419 tw2249498833416035431 tw17011530958260766182 tw10547611452270228402 tw12559843230475625194 tw15887909022039656578 tw3653420486972921231 tw15685574267946911382 tw3470231570486992471 tw7445543058374395926 tw7118407560702341959 tw17444963272976492655 tw2617076616964606029 tw11565070300774581568 tw9740588476913578103 tw16757185407658987663 tw9075152712344739915 tw16330191885793818323 tw3459548654996833799 tw2818281060155369864 tw11724132514602385815 tw1182158704636711991 tw10934266488886189074 tw18208018926782993212 tw7688207427409936150 tw16244860371858619591 tw16671437990722462604 tw1279341459324283907 tw13348047470782701149 tw2402152242046328308 tw17185517743497995899 tw15298240023231361550 tw3367929055033117030 tw1852771134784932559 tw1993967654770979612 tw5189323399885777171 tw2715381179033436813 tw8510480336221167617 tw15898694198746752139 tw13364548944950656536 tw6394093498907557036 tw12601811789366830308 tw13696370338610956669 tw12011438796208125818 tw14212816963882962208 tw8209587701613064040 tw12199322879810071388 tw10744726948737518846 tw14210828458311390888 tw14578142023347544306 tw12134409913303352148 tw13440988855383131605 tw13160770711246124915 tw15557233114234600689 tw1000538519501208162 tw2266310240136493155 tw12665728949023419136 tw778975360363120628 tw9648330424685355337 tw15830755487538868856 tw10036774337177375981 tw10812963195539009946 tw15992410012650030431 tw8886023475189902480 tw10952201344506488278 tw585379003154889049 tw4358703176168764518 tw4861318670863676262 tw2120680946318996186 tw14712373909528711978 tw2803839781675542634 tw1794440667250679653 tw6951177428906231822 tw7910242032372489597 tw15554687260827041018 tw10984967566873878399 tw8050767958794359609 tw14424609190273002342 tw1583608681213418051 tw7725577061908210018 tw13105215771756098343 tw3583341988210066535 tw4210570426705664933 tw17245153394152793350 tw17594949288153042596 tw12052307638185445379 tw18024853456542497412 tw6099263063043436465 tw8923040339101126687 tw6239810809026646990 tw4074416938515385310 tw5626024991056951505 tw9697903255276807165 tw2403967300350672992 tw8096858543209223588 tw17971227528519261059 tw3745769001717697146 tw5427697941971867681 tw2873403956573193265 tw3912329830287968768 tw4470323292067460072 tw11556949612301546294 tw8389619072233104320 tw12047778743038854466 tw11226246349543276368 tw17927456365776891798 tw7531625927652845602 tw8396568766970725295 tw13982322678522463879 tw17337799119094796315 tw17436722227302757591 tw14589959341941228812 tw4728863789223161396 tw210220747126671628 tw7115151874033763565 tw14555885958338238096 tw7337356737930948377 tw1538262269372706359 tw11739206383189076737 tw10621392581696839962 tw6938583689838816861 tw12413871948326853950 tw5950170141576947264 tw8714011306813722564 tw933799489109251699 tw419149472181082984 tw11349805596014163605 tw14098244675632842422 tw1590843515975539642 tw13870745092257909924 tw3676737832761485802 tw6814538525813608377 tw12042612512963404540 tw7131038910833294200 tw10388194111894287695 tw14194063798238379904 tw11650020246051124291 tw3862661134696734159 tw14480354939168435942 tw14349996728477412626 tw6145025405285789319 tw849033304483975394 tw3782665357962719336 tw2512561544351929927 tw7588991052214672164 tw2908227306574312703 tw2723354640435870063 tw7058418171191959135 tw1153463170795949688 tw16042460763856270146 tw4609686153412219357 tw6383287076117552949 tw223610516328081516 tw10829818799075250111 tw5019522441888855646 tw1919595689580184097 tw7982407189098013242 tw8147977914570387279 tw9632484130640784161 tw9263209543120869917 tw11166468641861857802 tw8342934793905593112 tw14204842657565919851 tw13407576962992107445 tw4477201256328776634 tw7313263682335633768 tw97302881323242758 tw4638207724668055321 tw7925641337532565322 tw15921243366959992030 tw17297484043626718596 tw14907991989201064878 tw2254157416199219850 tw6854329872859939442 tw15591298660244001312 tw1038408687708017255 tw10184512700348134984 tw3356776567701808985 tw13601296145335377007 tw6234683305637580060 tw8813105433748512872 tw6092835230501858016 tw16096433738747344261 tw12560448621979959387 tw14965147806279809562 tw11639261993261731488 tw6471830309655069228 tw462860447693945294 tw480695099083624735 tw1483375599910396783 tw13168631738876545933 tw7556123876959726364 tw3066942294203752841 tw12058627890355024504 tw10072030596134506071 tw13782012203104995382 tw18149375376518890377 tw967772581770096695 tw9700064412934744125 tw7383057015611985846 tw6716449903425432176 tw13870389561728772547 tw13741081971333698911 tw14391570993634034371 tw8282278694805310109 tw15475832465650330684 tw2248477234124041275 tw7178481669629484477 tw9580299616162435579 tw12295418183058018960 tw5744844965041970534 tw17973109193778077841 tw5733123122287394152 tw5628635696512836759 tw15765326600337238130 tw11568787616787290506 tw4354988639162192281 tw94803918139277683 tw1954283897701497532 tw14449718261750102724 tw677557298781935966 tw5666578484559823381 tw17670803129302916269 tw241217814728758249 tw18288228585287869977 tw11664665251097452675 tw3668422566875467017 tw3947777399402019683 tw11547276035096851734 tw5181236435309293529 tw1183783316306792929 tw4884979051072041186 tw486993694448759296 tw9182564706354180969 tw8506391165015462316 tw6573241443623148305 tw15633135716395630792 tw11240284928913542529 tw7450285832031349344 tw7853369142875319147 tw8496179824230159902 tw15745134153186808503 tw5804388908501634543 tw8515643380361180334 tw10498816873363757239 tw8507185703219112319 tw9434487563583337091 tw83217308672176664 tw17815389124701299450 tw6853023509656407766 tw2997025949864683934 tw9379954185696649464 tw10739882308563861332 tw5808940138158105194 tw5582924929990302037 tw16653876653409266746 tw9150606950694056276 tw651559909809644369 tw1677346616443284099 tw3842483969398825999 tw10736256328569121230 tw6738378173096832666 tw15425737294075139367 tw7461663157749641021 tw4022685772569097627 tw15890409966530032427 tw145644600983621429 tw12558049771486178761 tw5440155610544061847 tw9807691067947150506 tw2124864055125391430 tw11266196678881151964 tw3234600192656959570 tw6211368179337137530 tw11696955972506464224 tw3909944238723293129 tw16979784830443492558 tw14249718426295318941 tw11362582290136924 tw12713921590012912274 tw16623249735543311481 tw11504006400956978606 tw16694644911280652507 tw4556586817419683931 tw10556061023513834952 tw15153300044958062717 tw3961406109991018080 tw4677020143486055657 tw7012689451438554881 tw879004145609810353 tw5129794539681088240 tw13381256662896129048 tw16857085954738088713 tw995073033386211244 tw14568842220901946736 tw13768249052929533071 tw13522072566467356745 tw10596622947954027769 tw17591890086731459380 tw3504211662265292093 tw11650423696958237691 tw15697403663055134909 tw13259513031060592482 tw11773724501670954644 tw14793040253771333733 tw16962619507466605586 tw1322032195071524971 tw4186211344216354302 tw1695360970070135523 tw6896787994786331833 tw17895496692864568410 tw261752552260998002 tw17103901971970988507 tw18118493077091521947 tw2752458741898963031 tw443342997015416816 tw8952809623981391651 tw8407724493410017307 tw2526738389944805759 tw13994127611196168145 tw13307531579248097388 tw15720462594593861341 tw14004649878807171484 tw15543688843081163069 tw749022034669000687 tw1516994714912142711 tw8504617108375846226:True)
open PySem PySem.W PyProof.Rows
set_option maxRecDepth 100000 in
set_option maxHeartbeats 0 in
theorem PySem.Challenge.cw_slipcatch_k51_prices_of_a_row_holds : PySem.Challenge.rw_slipcatch_k51_prices_of_a_row.Holds := by
 w_on;o_law;k_head;(case hw=>w_witness2)
 k_fill
 exact D51.walk (l:=PySem.Challenge.rw_slipcatch_k51_prices_of_a_row) rfl rfl (λw h Y=>PySem.W.kIn_of Y) rfl λw=>⟨_,_,_,_,_,⟨rfl,
   ⟨rfl,rfl,rfl,rfl⟩,
   rfl,
   ⟨rfl,rfl,rfl,rfl⟩,
   rfl,
   ⟨rfl,rfl,rfl,rfl⟩,
   rfl,
   ⟨rfl,rfl,rfl,rfl⟩,
   rfl,
   ⟨rfl,rfl,rfl,rfl⟩,
   ⟨_,rfl,_,_,_,_,_,_,_,_,_,rfl,rfl,rfl⟩,
   ⟨_,rfl,_,_,_,_,_,_,_,_,_,rfl,rfl,rfl⟩,
   ⟨_,rfl,_,_,_,_,_,_,_,_,_,rfl,rfl,rfl⟩,
   ⟨_,rfl,_,_,_,_,_,_,_,_,_,rfl,rfl,rfl⟩,
   ⟨_,rfl,_,_,_,_,_,_,_,_,_,rfl,rfl,rfl⟩,
   ⟨_,rfl,_,_,_,_,_,_,_,_,_,rfl,rfl,rfl⟩,
   ⟨_,rfl,_,_,_,_,_,_,_,_,_,rfl,rfl,rfl⟩,
   ⟨_,rfl,_,_,_,_,_,_,_,_,_,rfl,rfl,rfl⟩,
   ⟨_,⟨rfl,rfl,rfl,rfl⟩,_,_,_,_,_,_,_,_,_,rfl,rfl,rfl⟩,
   ⟨_,rfl,_,_,_,_,_,_,_,_,_,rfl,rfl,rfl⟩,
   ⟨_,rfl,_,_,_,_,_,_,_,_,_,rfl,rfl,rfl⟩,
   ⟨_,rfl,_,_,_,_,_,_,_,_,_,rfl,rfl,rfl⟩,
   ⟨_,rfl,_,_,_,_,_,_,_,_,_,rfl,rfl,rfl⟩,
   ⟨_,rfl,_,_,_,_,_,_,_,_,_,rfl,rfl,rfl⟩,
   ⟨_,rfl,_,_,_,_,_,_,_,_,_,rfl,rfl,rfl⟩,
   ⟨_,rfl,_,_,_,_,_,_,_,_,_,rfl,rfl,rfl⟩,
   ⟨_,rfl,_,_,_,_,_,_,_,_,_,rfl,rfl,rfl⟩,
   ⟨_,⟨rfl,rfl,rfl,rfl⟩,_,_,_,_,_,_,_,_,_,rfl,rfl,rfl⟩,
   ⟨_,⟨rfl,rfl,rfl⟩,_,_,_,_,_,_,_,_,_,rfl,rfl,rfl⟩,
   ⟨_,⟨rfl,rfl,rfl⟩,_,_,_,_,_,_,_,_,_,rfl,rfl,rfl⟩,
   ⟨_,⟨rfl,rfl,rfl⟩,_,_,_,_,_,_,_,_,_,rfl,rfl,rfl⟩,
   ⟨_,⟨rfl,rfl,rfl⟩,_,_,_,_,_,_,_,_,_,rfl,rfl,rfl⟩,
   ⟨_,rfl,_,_,_,_,_,_,_,_,_,rfl,rfl,rfl⟩,
   ⟨_,⟨rfl,rfl,rfl,rfl⟩,_,_,_,_,_,_,_,_,_,rfl,rfl,rfl⟩,
   ⟨_,⟨rfl,rfl,rfl⟩,_,_,_,_,_,_,_,_,_,rfl,rfl,rfl⟩,
   ⟨_,⟨rfl,rfl,rfl⟩,_,_,_,_,_,_,_,_,_,rfl,rfl,rfl⟩,
   ⟨_,⟨rfl,rfl,rfl⟩,_,_,_,_,_,_,_,_,_,rfl,rfl,rfl⟩,
   ⟨_,⟨rfl,rfl,rfl,rfl⟩,_,_,_,_,_,_,_,_,_,rfl,rfl,rfl⟩,
   ⟨_,⟨rfl,rfl,rfl⟩,_,_,_,_,_,_,_,_,_,rfl,rfl,rfl⟩,
   ⟨_,⟨rfl,rfl,rfl⟩,_,_,_,_,_,_,_,_,_,rfl,rfl,rfl⟩,
   ⟨_,⟨rfl,rfl,rfl⟩,_,_,_,_,_,_,_,_,_,rfl,rfl,rfl⟩,
   ⟨_,⟨rfl,rfl,rfl⟩,_,_,_,_,_,_,_,_,_,rfl,rfl,rfl⟩,
   ⟨_,rfl,_,_,_,_,_,_,_,_,_,rfl,rfl,rfl⟩,
   ⟨_,rfl,_,_,_,_,_,_,_,_,_,rfl,rfl,rfl⟩,
   ⟨_,⟨rfl,rfl,rfl,rfl⟩,_,_,_,_,_,_,_,_,_,rfl,rfl,rfl⟩,
   ⟨_,⟨rfl,rfl,rfl⟩,_,_,_,_,_,_,_,_,_,rfl,rfl,rfl⟩,
   ⟨_,rfl,_,_,_,_,_,_,_,_,_,rfl,rfl,rfl⟩,
   ⟨_,rfl,_,_,_,_,_,_,_,_,_,rfl,rfl,rfl⟩,
   ⟨_,rfl,_,_,_,_,_,_,_,_,_,rfl,rfl,rfl⟩,
   ⟨_,rfl,_,_,_,_,_,_,_,_,_,rfl,rfl,rfl⟩,
   ⟨_,rfl,_,_,_,_,_,_,_,_,_,rfl,rfl,rfl⟩,
   ⟨_,rfl,_,_,_,_,_,_,_,_,_,rfl,rfl,rfl⟩,
   ⟨_,rfl,_,_,_,_,_,_,_,_,_,rfl,rfl,rfl⟩,
   ⟨_,rfl,_,_,_,_,_,_,_,_,_,rfl,rfl,rfl⟩,
   ⟨_,rfl,_,_,_,_,_,_,_,_,_,rfl,rfl,rfl⟩,
   ⟨_,rfl,_,_,_,_,_,_,_,_,_,rfl,rfl,rfl⟩,
   ⟨_,rfl,_,_,_,_,_,_,_,_,_,rfl,rfl,rfl⟩,
   ⟨_,rfl,_,_,_,_,_,_,_,_,_,rfl,rfl,rfl⟩,
   rfl,
   rfl,
   rfl,
   rfl,
   rfl,
   rfl,
   ⟨_,_,_,_,rfl,rfl,⟨rfl,rfl,rfl⟩,rfl,(.cons rfl rfl rfl ⟨_,_,_,rfl,rfl,rfl,D51.cw (by decide),(.cons ⟨_,rfl⟩ (.cons ⟨_,rfl⟩ (.cons ⟨_,rfl⟩ .nil)))⟩ (.cons rfl rfl rfl ⟨_,_,_,rfl,rfl,rfl,D51.cw (by decide),(.cons ⟨_,rfl⟩ (.cons ⟨_,rfl⟩ (.cons ⟨_,rfl⟩ .nil)))⟩ (.cons rfl rfl rfl ⟨_,_,_,rfl,rfl,rfl,D51.cw (by decide),(.cons ⟨_,rfl⟩ (.cons ⟨_,rfl⟩ (.cons ⟨_,rfl⟩ .nil)))⟩ (.cons rfl rfl rfl ⟨_,_,_,rfl,rfl,rfl,D51.cw (by decide),(.cons ⟨_,rfl⟩ (.cons ⟨_,rfl⟩ (.cons ⟨_,rfl⟩ .nil)))⟩ (.cons rfl rfl rfl ⟨_,_,_,rfl,rfl,rfl,D51.cw (by decide),(.cons ⟨_,rfl⟩ (.cons ⟨_,rfl⟩ (.cons ⟨_,rfl⟩ .nil)))⟩ (.cons rfl rfl rfl ⟨_,_,_,rfl,rfl,rfl,D51.cw (by decide),(.cons ⟨_,rfl⟩ (.cons ⟨_,rfl⟩ (.cons ⟨_,rfl⟩ .nil)))⟩ (.cons rfl rfl rfl ⟨_,_,_,rfl,rfl,rfl,D51.cw (by decide),(.cons ⟨_,rfl⟩ (.cons ⟨_,rfl⟩ (.cons ⟨_,rfl⟩ .nil)))⟩ (.cons rfl rfl rfl ⟨_,_,_,rfl,rfl,rfl,D51.cw (by decide),(.cons ⟨_,rfl⟩ (.cons ⟨_,rfl⟩ (.cons ⟨_,rfl⟩ .nil)))⟩ (.cons rfl rfl rfl ⟨_,_,_,rfl,rfl,rfl,D51.cw (by decide),(.cons ⟨_,rfl⟩ (.cons ⟨_,rfl⟩ (.cons ⟨_,rfl⟩ .nil)))⟩ (.cons rfl rfl rfl ⟨_,_,_,rfl,rfl,rfl,D51.cw (by decide),(.cons ⟨_,rfl⟩ (.cons ⟨_,rfl⟩ (.cons ⟨_,rfl⟩ .nil)))⟩ (.cons rfl rfl rfl ⟨_,_,_,rfl,rfl,rfl,D51.cw (by decide),(.cons ⟨_,rfl⟩ (.cons ⟨_,rfl⟩ (.cons ⟨_,rfl⟩ .nil)))⟩ (.cons rfl rfl rfl ⟨_,_,_,rfl,rfl,rfl,D51.cw (by decide),(.cons ⟨_,rfl⟩ (.cons ⟨_,rfl⟩ (.cons ⟨_,rfl⟩ .nil)))⟩ (.cons rfl rfl rfl ⟨_,_,_,rfl,rfl,rfl,D51.cw (by decide),(.cons ⟨_,rfl⟩ (.cons ⟨_,rfl⟩ (.cons ⟨_,rfl⟩ .nil)))⟩ (.cons rfl rfl rfl ⟨_,_,_,rfl,rfl,rfl,D51.cw (by decide),(.cons ⟨_,rfl⟩ (.cons ⟨_,rfl⟩ (.cons ⟨_,rfl⟩ .nil)))⟩ .nil)))))))))))))),rfl⟩⟩⟩
