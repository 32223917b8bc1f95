import PyProof.Rows.All
import Wide.All
import OpenK.AllK
import Wide.FinOn
import HandS.TupAny
import HandS.Strs
import HandS.List
import HandS.Base
import HandS.Call
import HandS.Set
import HandS.Defaults
import HandS.Words
import HandS.Iter
import HandS.Walk
import HandS.Zip0
import KE.GoesEnum
import KE.GoesMore
import HandS.SortInts
import HandS.More
import PyProof.ReprRoads
import PyProof.ReprText
import HandS.ForMost
import HandS.Wide
import HandS.IsInst
import HandS.DictComp
import HandS.Flow
import HandS.Evl
import HandS.Style
import HandS.WordsExc
import HandS.ForExc
import HandS.Ends
import HandS.Zip
import PyProof.PureStr
import HandS.Comp
import HandS.Conv
import HandS.Dict
import KE.KDictZip
import KE.KMathGC
import HandS.Gcd
import HandS.Finally
import HandS.Codes
import KE.KEqDict
import PySem.Challenge.RW_goersay_k31_least_slips_that_do_alike
set_option Elab.async false
set_option linter.all false
set_option maxRecDepth 100000
set_option maxHeartbeats 4000000
/-! Tuples of which it is known that they have no dict of their own: made by tuple(l), t + u, t[i:j]; t.index(x). -/
namespace L2
open PySem PySem.Spec PyProof.Rows
/-- a tuple whose object is known -/
def TupF (H : Hp) (a : Addr) (xs : List V) : Prop := ∃ o : Obj, o.dict = none ∧ H a = some (.frz o (.tup xs))
theorem TupF.same {H H' : Hp} {a : Addr} {xs : List V} (h : TupF H a xs) (s : Same H H') : TupF H' a xs := let ⟨o, e, q⟩ := h; ⟨o, e, s _ _ q⟩
theorem TupF.sq {K : PySem.W.Frag} {H : Hp} {a : Addr} {xs : List V} (h : TupF H a xs) : SqT K H a xs := let ⟨o, _, q⟩ := h; .inl (.inr ⟨o, q⟩)
section
variable {X : Cx}
/-- tuple(l), l a list -/
theorem call_tupleF : CallR X (.type "tuple") (fun xs H Q => ∃ p ys, xs = [.ref p] ∧ SqL X.K H p ys ∧ ∀ l o, H l = none → o.dict = none → Q (.ref l) (upd H l (.frz o (.tup ys)))) := by
  intro pins s σ H xs us Q I r h
  obtain ⟨p, ys, rfl, hq, q⟩ := h
  obtain ⟨u, rfl, rx⟩ := vals1 r
  cases rx
  obtain ⟨its, r', pl, hz⟩ := I.list hq
  have hlen := r'.length
  refine call_tuple_list pl.isList (fun h' kp => ?_) (by simp only [List.size_toArray] <;> omega)
  have I1 : Inv X pins σ H { s with heap := h' } := I.kept (t' := s.toks) kp
  have I2 : Inv X pins σ (upd H h'.objs.size (.frz { cls := .type "tuple", data := .seq its.toArray } (.tup ys))) { s with heap := h'.push { cls := .type "tuple", data := .seq its.toArray } } :=
    I1.laid (t' := s.toks) (fun b o e => Heap.get?_push_of_some _ e) (Nat.le_refl _) (show ObjOk X.prog X.w _ _ _ (.frz { cls := .type "tuple", data := .seq its.toArray } (.tup ys)) from ⟨Heap.get?_push_size _ rfl, hz, its, r', IsTup.new _ _⟩)
  exact ⟨.ref h'.objs.size, _, I2, rfl, q _ _ (I1.hok.fresh (Nat.le_refl _)) rfl⟩
/-- t + u -/
def rCatF (K : PySem.W.Frag) : R2 := fun x y H Q => ∃ a b xs ys, x = .ref a ∧ y = .ref b ∧ SqT K H a xs ∧ SqT K H b ys ∧ xs.length + ys.length ≤ sizeLine ∧
  (xs = [] → Q (.ref b) H) ∧ (xs ≠ [] → ys = [] → Q (.ref a) H) ∧ (xs ≠ [] → ys ≠ [] → ∀ p o, H p = none → o.dict = none → Q (.ref p) (upd H p (.frz o (.tup (xs ++ ys)))))
theorem op_catF : OpR X (binaryOp .Add) (rCatF X.K) := by
  intro pins s σ H x y v u Q I rx ry h
  obtain ⟨a, b, xs, ys, rfl, rfl, ha, hb, hz, q0, q1, q2⟩ := h
  by_cases hx : xs = []
  · subst hx
    exact op_catA pins s σ H _ _ v u Q I rx ry ⟨a, b, [], ys, rfl, rfl, ha, hb, hz, q0, fun e => absurd rfl e, fun e => absurd rfl e⟩
  · cases rx
    cases ry
    obtain ⟨its, r1, p1, _⟩ := I.tuple ha
    obtain ⟨its2, r2, p2, _⟩ := I.tuple hb
    refine HT.cat_tup p1 p2 (fun z => hx (r1.nil_iff.mp z)) (fun z => ⟨.ref a, H, I, rfl, q1 hx (r2.nil_iff.mp z)⟩) (fun z => ?_) (by rw [← r1.length, ← r2.length]; exact hz)
    refine ⟨.ref s.heap.objs.size, _, I.laid (t' := s.toks) (o := .frz { cls := .type "tuple", data := .seq (its ++ its2).toArray } (.tup (xs ++ ys))) (fun b ob q => Heap.get?_push_of_some _ q) (Nat.le_refl _) ?_, rfl, q2 hx (fun w => z (r2.nil_iff.mpr w)) _ _ (I.hok.fresh (Nat.le_refl _)) rfl⟩
    exact ⟨Heap.get?_push_size _ rfl, by rw [List.length_append]; exact hz, _, r1.append r2, IsTup.new _ _⟩
/-- t[lo:hi] -/
def rSlF (K : PySem.W.Frag) : V → Option Int → Option Int → Hp → VK → Prop := fun x lo hi H Q => ∃ a xs, x = .ref a ∧ SqT K H a xs ∧
  (HT.sIx xs.length 0 lo = 0 ∧ HT.sIx xs.length xs.length hi = xs.length → Q (.ref a) H) ∧ (¬ (HT.sIx xs.length 0 lo = 0 ∧ HT.sIx xs.length xs.length hi = xs.length) → ∀ p o, H p = none → o.dict = none → Q (.ref p) (upd H p (.frz o (.tup (cutV xs lo hi)))))
theorem sl_tupF : SlR X (rSlF X.K) := by
  intro pins s σ H x v vl vu lo hi sl Q I rx hs pl pu h
  obtain ⟨a, xs, rfl, hx, q1, q2⟩ := h
  by_cases hw : HT.sIx xs.length 0 lo = 0 ∧ HT.sIx xs.length xs.length hi = xs.length
  · exact sl_tupA pins s σ H _ v vl vu lo hi sl Q I rx hs pl pu ⟨a, xs, rfl, hx, q1, fun e => absurd hw e⟩
  · cases rx
    obtain ⟨its, r, ht, hz⟩ := I.tuple hx
    have hlen : its.toArray.size = xs.length := by rw [List.size_toArray]; exact r.length.symm
    refine ⟨"tuple", _, PyProof.Rows.slot_tuple_getitem.lookup, ht.typeIs, ?_⟩
    refine HT.getItem_tuple_cut ht hs pl pu (by rw [hlen]; exact hw) ?_ (by rw [hlen]; exact hz)
    rw [hlen]
    refine ⟨.ref s.heap.objs.size, _, I.laid (t' := s.toks) (o := .frz { cls := .type "tuple", data := .seq ((its.drop (HT.sIx xs.length 0 lo)).take (HT.sIx xs.length xs.length hi - HT.sIx xs.length 0 lo)).toArray } (.tup (cutV xs lo hi))) (fun b ob q => Heap.get?_push_of_some _ q) (Nat.le_refl _) ?_, rfl, q2 hw _ _ (I.hok.fresh (Nat.le_refl _)) rfl⟩
    exact ⟨Heap.get?_push_size _ rfl, Nat.le_trans (cutV_length xs lo hi) hz, _, (r.drop (HT.sIx xs.length 0 lo)).take (HT.sIx xs.length xs.length hi - HT.sIx xs.length 0 lo), IsTup.new _ _⟩
def tBMF (r : V → List V → Hp → VK → Prop) (to : TE) (t : TA) : TE := fun σ H Q => to σ H fun x H1 => (∃ a xs, x = .ref a ∧ TupF H1 a xs) ∧ t σ H1 fun xs H2 => r x xs H2 Q
variable {o e : Expr} {es : List Expr} {to : TE} {t : TA} {name : Str} {apos cpos : Pos} {id : String} {r : V → List V → Hp → VK → Prop}
/-- t.m(e, ..), t a tuple whose object is known -/
theorem pe_bmF (slot : Slot "tuple" name id) (hty : typeOf (.builtin id) = pure (.type "method_descriptor")) (hm : MtR X id r) (ho : PE X o to) (ha : PA X (e :: es) t)
    (hbase : attributeBase o name X.env (eval o X.env) = eval o X.env := by rfl)
    (hfew : ((backTo cpos (starEach (e :: es) X.env)).all (fun x => !x.1) && (backToKw cpos (keywordEach [] X.env)).all (fun x => x.1.isSome)
      && decide ((e :: es).length + ([] : List Keyword).length + (if ([] : List Keyword).isEmpty then 0 else 1) < 30)) = true := by rfl)
    (hline : (apos.endLine == cpos.line) = true := by rfl) (hs : starEach (e :: es) X.env = (false, eval e X.env) :: starEach es X.env := by rfl) (hplain : (backTo cpos (starEach es X.env)).any (·.1) = false := by rfl) :
    PE X (.Call (.Attribute o name apos) (e :: es) [] cpos) (tBMF r to t) := by
  refine ⟨fun pins s σ H Q I h => ?_⟩
  refine wpAny_Call_method_late hbase hfew hline rfl (thn (ho.run pins s σ H _ I h) fun v s1 ⟨x, H1, I1, r1, ty, q1⟩ => ?_)
  obtain ⟨a, xs, rfl, ob, hd, he⟩ := ty
  cases (show v = Value.ref a from r1)
  obtain ⟨hg, _, its, rv, o', h1, h2, _⟩ := (show ObjOk X.prog X.w H1 s1.heap a (.frz ob (.tup xs)) from I1.hok a _ he)
  refine ⟨"tuple", id, PySem.F.plainAttrs_tuple, slot, hty, ⟨o', h1, h2⟩, fun b eb => ?_, ?_⟩
  · cases eb
    exact ⟨ob, hg, hd⟩
  have hA := ha.run cpos pins s1 σ H1 _ I1 q1
  rw [hs] at hA ⊢
  refine Calls.callWith_builtin (by show (false || (backTo cpos (starEach es X.env)).any (·.1)) = false; rw [hplain] <;> rfl) (Calls.evalArgs_plain ?_)
  exact thn hA fun us s2 ⟨vs, H2, I2, r2, q2⟩ => hm pins s2 σ H2 _ vs _ us Q I2 r1 r2 q2
end
end L2
/-! Own rule: len(set(xs)) of a list or tuple of texts, however many (the set itself is looked at by membership alone). -/
namespace GSet
open PySem PySem.Spec PyProof.Rows
/-- the texts met first, in order -/
def firsts (xs : List Str) : List Str := xs.foldl (fun acc x => if x ∈ acc then acc else acc ++ [x]) []
def more (acc : List Str) (x : Str) : List Str := if x ∈ acc then acc else acc ++ [x]
theorem firsts_snoc (xs : List Str) (x : Str) : firsts (xs ++ [x]) = more (firsts xs) x := by
  unfold firsts more
  rw [List.foldl_append]
  rfl
theorem mem_more {acc : List Str} {x y : Str} : y ∈ more acc x ↔ y ∈ acc ∨ y = x := by
  unfold more
  split
  · rename_i h
    exact ⟨.inl, fun z => z.elim id fun e => by rw [e]; exact h⟩
  · rw [List.mem_append, List.mem_singleton]
theorem more_len {acc : List Str} {x : Str} : (more acc x).length = if x ∈ acc then acc.length else acc.length + 1 := by
  unfold more
  split
  · rfl
  · rw [List.length_append]
    rfl
theorem firsts_le : ∀ (n : Nat) (xs : List Str), xs.length = n → (firsts xs).length ≤ n
  | 0, xs, h => by
    have e := List.eq_nil_of_length_eq_zero h
    subst e
    exact Nat.le_refl _
  | n + 1, xs, h => by
    have hne : xs ≠ [] := fun z => by rw [z] at h; cases h
    have ed := List.dropLast_concat_getLast hne
    have il := firsts_le n xs.dropLast (by rw [List.length_dropLast, h]; rfl)
    rw [← ed, firsts_snoc, more_len]
    split <;> omega
theorem more_nodup {acc : List Str} {x : Str} (h : acc.Nodup) : (more acc x).Nodup := by
  unfold more
  split
  · exact h
  · rename_i hx
    rw [List.nodup_append]
    refine ⟨h, List.nodup_cons.mpr ⟨List.not_mem_nil, List.nodup_nil⟩, fun a ha b hb e => ?_⟩
    rw [List.mem_singleton] at hb
    subst hb
    subst e
    exact hx ha
theorem firsts_nodup_eq {xs : List Str} (h : xs.Nodup) : ∀ i, i ≤ xs.length → firsts (xs.take i) = xs.take i
  | 0, _ => rfl
  | i + 1, hi => by
    have hlt : i < xs.length := hi
    have e1 : xs.take (i + 1) = xs.take i ++ [xs[i]] := by
      rw [List.take_succ, List.getElem?_eq_getElem hlt]
      rfl
    rw [e1, firsts_snoc, firsts_nodup_eq h i (Nat.le_of_lt hlt)]
    unfold more
    rw [if_neg]
    intro hm
    obtain ⟨j, hj, ej⟩ := List.mem_iff_getElem.mp hm
    rw [List.getElem_take] at ej
    rw [List.length_take] at hj
    have := (List.getElem_inj h).mp ej
    omega
theorem firsts_of_nodup {xs : List Str} (h : xs.Nodup) : firsts xs = xs := by
  have q := firsts_nodup_eq h xs.length (Nat.le_refl _)
  rwa [List.take_length] at q
theorem firsts_lt_of_dup {xs : List Str} (h : ¬ xs.Nodup) : (firsts xs).length < xs.length := by
  have key : ∀ (n : Nat) (ys : List Str), ys.length = n → ¬ ys.Nodup → (firsts ys).length < n := by
    intro n
    induction n with
    | zero =>
      intro ys hy hn
      have e := List.eq_nil_of_length_eq_zero hy
      subst e
      exact absurd List.nodup_nil hn
    | succ n ih =>
      intro ys hy hn
      have hne : ys ≠ [] := fun z => by rw [z] at hy; cases hy
      have ed := List.dropLast_concat_getLast hne
      have el : ys.dropLast.length = n := by rw [List.length_dropLast, hy]; rfl
      have ef : firsts ys = more (firsts ys.dropLast) (ys.getLast hne) := by rw [← firsts_snoc, ed]
      by_cases hd : ys.dropLast.Nodup
      · have hin : ys.getLast hne ∈ ys.dropLast := by
          refine Classical.byContradiction fun hc => hn ?_
          rw [← ed, List.nodup_append]
          refine ⟨hd, List.nodup_cons.mpr ⟨List.not_mem_nil, List.nodup_nil⟩, fun a ha b hb e => ?_⟩
          rw [List.mem_singleton] at hb
          rw [e, hb] at ha
          exact hc ha
        rw [ef, more_len, firsts_of_nodup hd, if_pos hin]
        omega
      · have := ih _ el hd
        rw [ef, more_len]
        split <;> omega
  exact key _ xs rfl h
theorem firsts_len_iff (xs : List Str) : (firsts xs).length = xs.length ↔ xs.Nodup := by
  refine ⟨fun e => Classical.byContradiction fun h => ?_, fun h => by rw [firsts_of_nodup h]⟩
  have := firsts_lt_of_dup h
  omega

section
variable {prog : Program} {w : World} {A : Around} {R : Result → Shared → Prop} {I : Addr} {fp wr : List Addr} {G : Array GenState → Array GenState → Prop} {n : Nat} {P : Nat → Value → Prop} {St : Nat → Shared → Prop}
/-- what stands in the set behind i items -/
abbrev InSet (prog : Program) (w : World) (h : Heap) (S : Addr) (xs : List Str) (i : Nat) : Prop :=
  h.SetOf (PySem.strKind prog w) S (fun k' => decide (k' ∈ firsts (xs.take i))) (firsts (xs.take i)).length
theorem turns (W : WalksS prog w A.in1 I fp wr G n P St) (S : Addr) (hSf : S ∉ fp) (xs : List Str) (hsz : xs.length = n) (hbig : n + 1 < scanBound)
    (hval : ∀ i v, P i v → ∃ t, v = .str (xs.getD i Str.empty) t) :
    ∀ (k i : Nat) (s : Shared), n - i = k → i ≤ n → St i s → InSet prog w s.heap S xs i →
      (∀ s', Moved (S :: wr) G s s' → InSet prog w s'.heap S xs n → R (.ok (.ret .none)) s') →
      codeAny (model prog w) A (.builtin "set.update.loop" ⟨[.ref S, .ref I], []⟩) R s := by
  have notW : S ∉ wr := fun z => hSf (W.sub _ z)
  have wide : ∀ b ∈ wr, b ∈ S :: wr := fun _ z => List.mem_cons_of_mem _ z
  intro k
  induction k with
  | zero =>
    intro i s hk hi hst hS hR
    obtain rfl : i = n := by omega
    refine codeAny_builtin PyProof.Rows.F.entry_set_update_loop ?_
    rw [Around.under_plainId PyProof.Rows.F.plain_set_update_loop _]
    show wpAny _ A.in1 (pyNext (.ref I) >>= _) _ _ s
    refine wpAny_bind (W.done s _ _ hst fun s1 mv => ?_)
    show wpAny _ A.in1 (ret Value.none) _ _ s1
    refine wpAny_pure (hR s1 (mv.mono wide) ?_)
    obtain ⟨o, es, ep, t, ho, more⟩ := hS
    exact ⟨o, es, ep, t, mv.heap S _ notW ho, more⟩
  | succ k ih =>
    intro i s hk hi hst hS hR
    have lt : i < n := by omega
    refine codeAny_builtin PyProof.Rows.F.entry_set_update_loop ?_
    rw [Around.under_plainId PyProof.Rows.F.plain_set_update_loop _]
    show wpAny _ A.in1 (pyNext (.ref I) >>= _) _ _ s
    refine wpAny_bind (W.item i s _ _ lt hst fun v s1 hP hst1 mv => ?_)
    obtain ⟨t, rfl⟩ := hval i v hP
    have hS1 : InSet prog w s1.heap S xs i := by
      obtain ⟨o, es, ep, tb, ho, more⟩ := hS
      exact ⟨o, es, ep, tb, mv.heap S _ notW ho, more⟩
    have hle : (firsts (xs.take i)).length ≤ i := firsts_le i (xs.take i) (by rw [List.length_take]; omega)
    show wpAny _ A.in1 (holding [Value.str (xs.getD i Str.empty) t] (setAdd S (.str (xs.getD i Str.empty) t)) >>= _) _ _ s1
    refine wpAny_bind (wpAny_holding ?_)
    unfold setAdd
    refine wpAny_holding (wpAny_bind ((PySem.strKind prog w).pyHash (k := xs.getD i Str.empty) (strKind_is _ _ _ _) ?_))
    refine wpAny_setAddHashed_of (knd := PySem.strKind prog w) (s := { s1 with toks := s1.toks + 1 }) (strKind_is _ _ _ _) rfl hS1 (by omega) fun h2 same hS2 => ?_
    have hlt : i < xs.length := by omega
    have et : xs.take (i + 1) = xs.take i ++ [xs.getD i Str.empty] := by
      rw [List.take_succ, List.getD_eq_getElem?_getD, List.getElem?_eq_getElem hlt]
      rfl
    have hSi : InSet prog w h2 S xs (i + 1) := by
      refine SetOf_congr hS2 (fun k' => ?_) ?_
      · rw [et, firsts_snoc, Bool.eq_iff_iff, Bool.or_eq_true, decide_eq_true_iff, decide_eq_true_iff, decide_eq_true_iff]
        exact mem_more.symm
      · rw [et, firsts_snoc, more_len]
        by_cases c : xs.getD i Str.empty ∈ firsts (xs.take i)
        · rw [if_pos c, if_pos (by rw [decide_eq_true_iff]; exact c)]
        · rw [if_neg c, if_neg (by rw [decide_eq_true_iff]; exact c)]
    have offS : ∀ b, b ∉ S :: wr → b ≠ S := fun b z e => z (by rw [e]; exact List.mem_cons_self)
    refine wpAny_pure ⟨plainId_quiet PyProof.Rows.F.plain_set_update_loop _, ih (i + 1) _ (by omega) lt (W.frame _ s1 _ _ hst1 (Nat.le_succ _) fun b hb o e => ?_) hSi fun s3 mv3 hS3 => ?_⟩
    · rw [same.2 b fun z => hSf (z ▸ hb)]
      exact e
    · refine hR s3 (Moved.trans W.gtrans ((mv.mono wide).then_heap (Nat.le_succ _) fun b o hb e => ?_) mv3) hS3
      rw [same.2 b (offS b hb)]
      exact e
end

section
variable {prog : Program} {w : World} {A : Around} {E : Value → Shared → Prop} {s : Shared}
/-- a set just made -/
abbrev Fso (led : Bool) : Obj := { cls := .type "set", dict := none, data := .set #[] 0 (.fresh 0 0 led) }
/-- what a fresh set of the texts is, and that nothing else has changed -/
abbrev Made (prog : Program) (w : World) (h0 h1 : Heap) (xs : List Str) : Prop :=
  InSet prog w h1 h0.objs.size xs xs.length ∧ ∀ b o, b < h0.objs.size → h0.get? b = some o → h1.get? b = some o

set_option maxHeartbeats 3200000 in
theorem set_of_list {l : Addr} {items : Array Value} {xs : List Str} {Q : Value → Shared → Prop} (hh : A.handled = none) (hl : s.heap.IsList l items) (hi : StrsAre items.toList xs) (hbig : xs.length + 1 < scanBound)
    (k : ∀ (h1 : Heap) (tk : Nat), Made prog w s.heap h1 xs → Q (.ref s.heap.objs.size) { s with heap := h1, toks := tk }) : wpAny (model prog w) A (call (.type "set") [.ref l]) Q E s := by
  obtain ⟨c, tl, hmro⟩ := PySem.F.called_set.mro
  have hmade := PySem.F.called_set.made; have hsub := PySem.F.called_set.sub
  refine wpAny_call (codeAny_of_tree (show wpAny _ _ (callAny (.type "set") _) _ _ _ from wpAny_pure ⟨Code.quiet_builtin _ (by decide +kernel), codeAny_builtin PySem.F.entry_type_call ?_⟩))
  rw [Around.under_plain (weight_type_call_type "set" [.ref l] []) rfl]
  have h1 := PySem.F.called_set.notType; have h2 := PySem.F.called_set.canCreate; have hct := PySem.F.typeCall_set_1 (.ref l)
  repeat (any_goals (first | assumption | wp_step))
  refine codeAny_mono (code_set_new_1 (.ref l) (E := E) (Q₁ := fun ob z => ∃ led : Bool, ob = .ref s.heap.objs.size ∧ z = { s with heap := s.heap.push (Fso led) }) fun led => ⟨led, rfl, rfl⟩) fun r z hr => ?_
  cases r with
  | error e => exact hr
  | ok fl =>
    cases fl with
    | ret ob =>
      obtain ⟨led, rfl, rfl⟩ := hr
      have hS : (s.heap.push (Fso led)).get? s.heap.objs.size = some (Fso led) := Heap.get?_push_size _ rfl
      have hT : Shared.TypeIs { s with heap := s.heap.push (Fso led) } (.ref s.heap.objs.size) "set" := ⟨_, hS, rfl⟩
      have hli := PySem.F.called_set.init.lookup; have hbi := PySem.F.called_set.init.bind (.ref s.heap.objs.size)
      repeat (any_goals (first | assumption | wp_step))
      refine codeAny_mono (codeAny_call_builtin (R := wants (fun r z => r = .none ∧ ∃ h1 tk, z = { s with heap := h1, toks := tk } ∧ Made prog w s.heap h1 xs) E)
        PySem.F.called_set.init.plain PySem.F.entry_set_init (check_set_init_1 hT ?_)) fun r2 z2 hr2 => ?_
      · obtain ⟨⟨oc, od, odat, osl⟩, hol, hcl, nl, hdl⟩ := hl
        simp only at hcl hdl; subst hcl; subst hdl
        have hol2 : (s.heap.push (Fso led)).get? l = some { cls := .type "list", dict := od, data := .seq items nl, slots := osl } := Heap.get?_push_of_some _ hol
        have q1 := PySem.F.sub_list_set; have q2 := PySem.F.sub_list_frozenset; have q3 : (Value.type "list" == Value.type "dict") = false := by decide
        have hl1 : (s.heap.push (Fso led)).IsList l items := ⟨_, hol2, rfl, nl, rfl⟩
        unfold Builtin.«set.__init__» noKeywords Builtin.Frozenset.updateFrom
        generalize hPI : pyIter = PI
        wp_walk
        subst hPI
        refine wpAny_pyIter_list hl1 ?_; refine wpAny_bind (wpAny_runValue ?_)
        have lt := Heap.lt_size hol
        have hsz : xs.length = items.size := by rw [← StrsAre.len_eq hi, Array.length_toList]
        have apart : l ≠ (s.heap.push (Fso led)).objs.size := by rw [Heap.size_push]; exact Nat.ne_of_lt (Nat.lt_succ_of_lt lt)
        have off : s.heap.objs.size ∉ [(s.heap.push (Fso led)).objs.size, l] := by
          rw [Heap.size_push]; simp only [List.mem_cons, List.not_mem_nil, or_false, not_or]; exact ⟨Nat.ne_of_lt (Nat.lt_succ_self _), Nat.ne_of_gt lt⟩
        refine turns ((Walks.list (show A.in1.in1.in1.handled = none by simp [hh]) _ l apart items).toS) s.heap.objs.size off xs hsz (by omega)
          (fun i v hv => SS.strs_at hi i v (by rw [Array.getElem?_toList]; exact hv)) (items.size - 0) 0 _ (by omega) (Nat.zero_le _) ⟨⟨_, Heap.get?_push_size _ rfl, rfl, rfl⟩, hl1.push _⟩ ?start0 ?rest0
        case start0 =>
          have hget : ((s.heap.push (Fso led)).push { cls := .type "list_iterator", data := .fields #[.ref l, .int 0 0] }).get? s.heap.objs.size = some (Fso led) := Heap.get?_push_of_some _ hS
          exact SetOf_congr ((setObjOf_fresh (knd := PySem.strKind prog w) led).setOf hget (by unfold scanBound; omega)) (fun _ => rfl) rfl
        case rest0 =>
          rintro ⟨h3, g3, d3, tk3, os3⟩ hm hS3
          obtain rfl : g3 = s.gens := hm.gens
          obtain rfl : d3 = s.drawn := hm.drawn
          obtain rfl : os3 = s.os := hm.os
          show wpAny _ _ _ _ _ _
          refine wpAny_pure ?_
          show wpAny _ _ (ret Value.none) _ _ _
          rw [← hsz] at hS3
          refine wpAny_pure ⟨rfl, h3, tk3, rfl, hS3, fun b o hb e => hm.heap b o ?_ (Heap.get?_push_of_some _ (Heap.get?_push_of_some _ e))⟩
          rw [Heap.size_push]; simp only [List.mem_cons, List.not_mem_nil, or_false, not_or]; exact ⟨Nat.ne_of_lt hb, Nat.ne_of_lt (Nat.lt_succ_of_lt hb)⟩
      · cases r2 with
        | error e => exact hr2
        | ok fl2 =>
          cases fl2 with
          | ret r =>
            obtain ⟨rfl, h1, tk, rfl, hm⟩ := hr2
            repeat (any_goals (first | assumption | wp_step))
            exact k _ _ hm
          | _ => exact hr2.elim
    | _ => exact hr.elim

set_option maxHeartbeats 3200000 in
theorem set_of_tuple {l : Addr} {items : Array Value} {xs : List Str} {Q : Value → Shared → Prop} (hh : A.handled = none) (hl : s.heap.IsTuple l items) (hi : StrsAre items.toList xs) (hbig : xs.length + 1 < scanBound)
    (k : ∀ (h1 : Heap) (tk : Nat), Made prog w s.heap h1 xs → Q (.ref s.heap.objs.size) { s with heap := h1, toks := tk }) : wpAny (model prog w) A (call (.type "set") [.ref l]) Q E s := by
  obtain ⟨c, tl, hmro⟩ := PySem.F.called_set.mro
  have hmade := PySem.F.called_set.made; have hsub := PySem.F.called_set.sub
  refine wpAny_call (codeAny_of_tree (show wpAny _ _ (callAny (.type "set") _) _ _ _ from wpAny_pure ⟨Code.quiet_builtin _ (by decide +kernel), codeAny_builtin PySem.F.entry_type_call ?_⟩))
  rw [Around.under_plain (weight_type_call_type "set" [.ref l] []) rfl]
  have h1 := PySem.F.called_set.notType; have h2 := PySem.F.called_set.canCreate; have hct := PySem.F.typeCall_set_1 (.ref l)
  repeat (any_goals (first | assumption | wp_step))
  refine codeAny_mono (code_set_new_1 (.ref l) (E := E) (Q₁ := fun ob z => ∃ led : Bool, ob = .ref s.heap.objs.size ∧ z = { s with heap := s.heap.push (Fso led) }) fun led => ⟨led, rfl, rfl⟩) fun r z hr => ?_
  cases r with
  | error e => exact hr
  | ok fl =>
    cases fl with
    | ret ob =>
      obtain ⟨led, rfl, rfl⟩ := hr
      have hS : (s.heap.push (Fso led)).get? s.heap.objs.size = some (Fso led) := Heap.get?_push_size _ rfl
      have hT : Shared.TypeIs { s with heap := s.heap.push (Fso led) } (.ref s.heap.objs.size) "set" := ⟨_, hS, rfl⟩
      have hli := PySem.F.called_set.init.lookup; have hbi := PySem.F.called_set.init.bind (.ref s.heap.objs.size)
      repeat (any_goals (first | assumption | wp_step))
      refine codeAny_mono (codeAny_call_builtin (R := wants (fun r z => r = .none ∧ ∃ h1 tk, z = { s with heap := h1, toks := tk } ∧ Made prog w s.heap h1 xs) E)
        PySem.F.called_set.init.plain PySem.F.entry_set_init (check_set_init_1 hT ?_)) fun r2 z2 hr2 => ?_
      · obtain ⟨⟨oc, od, odat, osl⟩, hol, hcl, nl, hdl⟩ := hl
        simp only at hcl hdl; subst hcl; subst hdl
        have hol2 : (s.heap.push (Fso led)).get? l = some { cls := .type "tuple", dict := od, data := .seq items nl, slots := osl } := Heap.get?_push_of_some _ hol
        have q1 := PySem.F.sub_tuple_set; have q2 := PySem.F.sub_tuple_frozenset; have q3 : (Value.type "tuple" == Value.type "dict") = false := by decide
        have hl1 : (s.heap.push (Fso led)).IsTuple l items := ⟨_, hol2, rfl, nl, rfl⟩
        unfold Builtin.«set.__init__» noKeywords Builtin.Frozenset.updateFrom
        generalize hPI : pyIter = PI
        wp_walk
        subst hPI
        refine wpAny_pyIter_tuple hl1 ?_; refine wpAny_bind (wpAny_runValue ?_)
        have lt := Heap.lt_size hol
        have hsz : xs.length = items.size := by rw [← StrsAre.len_eq hi, Array.length_toList]
        have apart : l ≠ (s.heap.push (Fso led)).objs.size := by rw [Heap.size_push]; exact Nat.ne_of_lt (Nat.lt_succ_of_lt lt)
        have off : s.heap.objs.size ∉ [(s.heap.push (Fso led)).objs.size, l] := by
          rw [Heap.size_push]; simp only [List.mem_cons, List.not_mem_nil, or_false, not_or]; exact ⟨Nat.ne_of_lt (Nat.lt_succ_self _), Nat.ne_of_gt lt⟩
        refine turns ((Walks.tuple (show A.in1.in1.in1.handled = none by simp [hh]) _ l apart items).toS) s.heap.objs.size off xs hsz (by omega)
          (fun i v hv => SS.strs_at hi i v (by rw [Array.getElem?_toList]; exact hv)) (items.size - 0) 0 _ (by omega) (Nat.zero_le _) ⟨⟨_, Heap.get?_push_size _ rfl, rfl, rfl⟩, hl1.push _⟩ ?start0 ?rest0
        case start0 =>
          have hget : ((s.heap.push (Fso led)).push { cls := .type "tuple_iterator", data := .fields #[.ref l, .int 0 0] }).get? s.heap.objs.size = some (Fso led) := Heap.get?_push_of_some _ hS
          exact SetOf_congr ((setObjOf_fresh (knd := PySem.strKind prog w) led).setOf hget (by unfold scanBound; omega)) (fun _ => rfl) rfl
        case rest0 =>
          rintro ⟨h3, g3, d3, tk3, os3⟩ hm hS3
          obtain rfl : g3 = s.gens := hm.gens
          obtain rfl : d3 = s.drawn := hm.drawn
          obtain rfl : os3 = s.os := hm.os
          show wpAny _ _ _ _ _ _
          refine wpAny_pure ?_
          show wpAny _ _ (ret Value.none) _ _ _
          rw [← hsz] at hS3
          refine wpAny_pure ⟨rfl, h3, tk3, rfl, hS3, fun b o hb e => hm.heap b o ?_ (Heap.get?_push_of_some _ (Heap.get?_push_of_some _ e))⟩
          rw [Heap.size_push]; simp only [List.mem_cons, List.not_mem_nil, or_false, not_or]; exact ⟨Nat.ne_of_lt hb, Nat.ne_of_lt (Nat.lt_succ_of_lt hb)⟩
      · cases r2 with
        | error e => exact hr2
        | ok fl2 =>
          cases fl2 with
          | ret r =>
            obtain ⟨rfl, h1, tk, rfl, hm⟩ := hr2
            repeat (any_goals (first | assumption | wp_step))
            exact k _ _ hm
          | _ => exact hr2.elim
    | _ => exact hr.elim

end
end GSet
namespace L2
open PySem PySem.Spec PyProof.Rows
/-- len(set(xs)), xs a list or tuple of texts -/
def tLenSetS (K : PySem.W.Frag) (ta : TE) : TE := fun σ H Q => ta σ H fun x H1 => ∃ l, ∃ xs : List Str, x = .ref l ∧ (SqL K H1 l (xs.map V.str) ∨ SqT K H1 l (xs.map V.str)) ∧ xs.length ≤ 1000 ∧ Q (.int (GSet.firsts xs).length) H1
theorem pe_lenSetS {X : Cx} {a : Expr} {ta : TE} {p p2 q pos : Pos} (hc : X.calm = true) (hm : X.mg "len" = none) (hm2 : X.mg "set" = none) (ha : PE X a ta) (hg : Gl X "len" := by rfl) (hg2 : Gl X "set" := by rfl)
    (na : starEach [a] X.env = (false, eval a X.env) :: starEach [] X.env := by rfl) : PE X (.Call (.Name "len" p) [.Call (.Name "set" p2) [a] [] q] [] pos) (tLenSetS X.K ta) := by
  refine ⟨fun pins s σ H Q I h => Call_ (ld_blt I hg hm boot_len (callWith_builtin1 (args_cons ?_ rfl) rfl rfl))⟩
  refine Call_ (ld_blt I hg2 hm2 boot_set (callWith_type1 (args_cons (thn (ha.run pins s σ H _ I h) fun v s1 ⟨x, H1, I1, r1, q1⟩ => args_nil ?_) na) na rfl))
  obtain ⟨l, xs, rfl, hq, hl, q1⟩ := q1
  cases r1
  have big : xs.length + 1 < scanBound := by unfold scanBound; omega
  have fin : ∀ (h1 : Heap) (tk : Nat), GSet.Made X.prog X.w s1.heap h1 xs →
      wpAny (model X.prog X.w) X.A (spliced (backTo pos (starEach [] X.env))) (fun vs z => wpAny (model X.prog X.w) X.A (call (.builtin "len") (Value.ref s1.heap.objs.size :: vs)) (EP X pins σ Q) X.xe z) X.xe { s1 with heap := h1, toks := tk } := fun h1 tk ⟨hS, hk⟩ => by
    have le := GSet.firsts_le xs.length (xs.take xs.length) (by rw [List.take_length])
    obtain ⟨o, es, ep, t, ho, hex, hd, _, _, _, hf, hn⟩ := hS
    have I2 : Inv X pins σ H1 { s1 with heap := h1, toks := tk } := I1.kept fun b o e => hk b o (Heap.lt_size e) e
    refine args_nil (call_len_set ho hex hd hf (by rw [hn]; omega) ⟨.int (GSet.firsts xs).length, H1, I2.tok _, ⟨_, by rw [hn, List.take_length]⟩, q1⟩)
  rcases hq with hq | hq
  · obtain ⟨its, r, pl, hz⟩ := I1.list hq
    exact GSet.set_of_list (I1.ok.hd hc) pl.isList (by simpa using strsAre_of r) big fin
  · obtain ⟨its, r, pl, hz⟩ := I1.tuple hq
    exact GSet.set_of_tuple (I1.ok.hd hc) pl (by simpa using strsAre_of r) big fin
end L2
/-! Own rule: o.m(k = v, ..), a method of an own class called by keywords alone. -/
namespace L2
open PySem PySem.Spec PyProof.Rows
/-- [o], its class, then the keywords' values, then the promise of them in the parameters' order -/
def tMethKw (C : Addr) (m : Str) (n : Nat) (sp : Sp) (gV : List V → List V → List V) (E : XK) (ta : TE) (tk : TA) : TE := fun σ H Q =>
  ta σ H fun x H1 => ∃ a dx fs, x = .ref a ∧ H1 a = some (.ins C dx fs) ∧ fs.lookup m = none ∧ tk σ H1 fun zs H2 => zs.length = n ∧ sp (gV [x] zs) H2 Q E
section
variable {X : Cx} {CX : CXT} {k : Nat} {f C : Addr} {fd : FuncData} {ps ks : List Str} {sp : Sp} {E : XK} {o : Expr} {m : Str} {ta : TE} {apos : Pos} {pos : Pos} {kws : List Keyword} {tk : TA} {g : List Value → List Value → List Value} {gV : List V → List V → List V}
theorem pe_methKw {pl : Sem Bool} (he : PE X o ta) (c : Cls X.K C) (hm : Meth X.K C m f) (F : FnOk X.prog X.w X.K X.mg X.base CX k f fd ps sp) (hr : Room k X.A) (hb : KBn X.K fd ps 1 ks g gV) (hx : Passes CX X E) (hkw : PK X kws tk)
    (hall : (backToKw pos (keywordEach kws X.env)).all (·.1.isSome) = true := by rfl) (hks : (backToKw pos (keywordEach kws X.env)).filterMap (·.1) = ks := by rfl)
    (hpl : ((backTo pos (starEach [] X.env)).any (·.1) || (backToKw pos (keywordEach kws X.env)).any (·.1.isNone)) = false := by rfl)
    (ht : eval (.Call (.Attribute o m apos) [] kws pos) X.env = (do
      let v ← eval o X.env
      standAt apos.atName
      let (q, first) ← holding [v] (getMethod v m pl)
      callWith pos q first (backTo pos (starEach [] X.env)) (backToKw pos (keywordEach kws X.env))) := by rfl) :
    PE X (.Call (.Attribute o m apos) [] kws pos) (tMethKw C m ks.length sp gV E ta tk) := by
  refine ⟨fun pins s σ H Q I h => PySem.W.methodCall_KW (pl := pl) (thn (he.run pins s σ H _ I h) fun u s1 ⟨x, H1, I1, rx, a, dx, fs, ex, ea, l, q⟩ => ?_) ht⟩
  subst ex
  obtain rfl : u = Value.ref a := rx
  refine getmeth_ok I1 ea c hm l (PySem.W.callWith_KW0 (first := [.ref a]) (h₀ := X.base) I.ok.mod.kin hm.kp hall ?_ hpl)
  refine thn (hkw.run pos pins s1 σ H1 _ I1 q) fun ws s2 ⟨zs, H2, I2, rz, l2, q2⟩ => ⟨I2.kIn, ?_⟩
  rw [hks]
  exact run_fnN (us := [.ref a]) (vs := [.ref a]) F hr hb hx I2 (.cons rfl .nil) rz rfl l2 q2
end
/-- how one keyword behind self binds: h is «fun _ _ _ _ _ _ us ws l1 l2 => match us, ws, l1, l2 with | [_], [_], _, _ => rfl» -/
theorem Fun.kbn {K : PySem.W.Frag} {x qual : Str} {st : Stmt} {f : Addr} {fd : FuncData} {ps ks : List Str} {n : Nat} (F : Fun K x qual st f fd)
    (h : ∀ (kV doc pm : Value) (an : Option Addr) (cdv ct : Value) (us ws : List Value), us.length = n → ws.length = ks.length → bindArgs (PySem.W.fnOf x qual (defArgs st) (defBody st) (defScope st) .none kV doc pm an cdv ct) ⟨us, ks.zip ws⟩ = pure (ps.zip (us ++ ws))) :
    KBn K fd ps n ks (fun us ws => us ++ ws) (fun us ws => us ++ ws) := by
  obtain ⟨oc, od, kV, doc, pm, an, cdv, ct, osl, rfl, lk, hcd⟩ := F.ex
  exact ⟨fun s us ws _ l1 l2 => .of_eq (h kV doc pm an cdv ct us ws l1 l2), fun r rz => r.append rz⟩
/-- by places -/
def byPl {α : Type} (is : List Nat) (_us ws : List α) : List α := is.filterMap fun i => ws[i]?
theorem Vals.at? : ∀ {zs : List V} {ws : List Value} (i : Nat), Vals zs ws → (∃ z w, zs[i]? = some z ∧ ws[i]? = some w ∧ RelV z w) ∨ (zs[i]? = none ∧ ws[i]? = none)
  | _, _, _, .nil => .inr ⟨rfl, rfl⟩
  | _, _, 0, .cons r _ => .inl ⟨_, _, rfl, rfl, r⟩
  | _, _, i + 1, .cons _ t => Vals.at? i t
theorem Vals.byPl {zs : List V} {ws : List Value} (r : Vals zs ws) : ∀ is : List Nat, Vals (is.filterMap fun i => zs[i]?) (is.filterMap fun i => ws[i]?)
  | [] => .nil
  | i :: t => by
    have ih := Vals.byPl r t
    rcases Vals.at? i r with ⟨z, w, e1, e2, q⟩ | ⟨e1, e2⟩
    · rw [List.filterMap_cons_some e1, List.filterMap_cons_some e2]
      exact .cons q ih
    · rw [List.filterMap_cons_none e1, List.filterMap_cons_none e2]
      exact ih
/-- f(k = v, ..): keywords alone, is: where each parameter's value stands among them -/
theorem Fun.kbp {K : PySem.W.Frag} {x qual : Str} {st : Stmt} {f : Addr} {fd : FuncData} {ps ks : List Str} (is : List Nat) (F : Fun K x qual st f fd)
    (h : ∀ (kV doc pm : Value) (an : Option Addr) (cdv ct : Value) (ws : List Value), ws.length = ks.length → bindArgs (PySem.W.fnOf x qual (defArgs st) (defBody st) (defScope st) .none kV doc pm an cdv ct) ⟨[], ks.zip ws⟩ = pure (ps.zip (byPl is [] ws))) :
    KBn K fd ps 0 ks (byPl is) (byPl is) := by
  obtain ⟨oc, od, kV, doc, pm, an, cdv, ct, osl, rfl, lk, hcd⟩ := F.ex
  refine ⟨fun s us ws _ l1 l2 => .of_eq ?_, fun r rz => Vals.byPl rz is⟩
  cases us with
  | nil => exact h kV doc pm an cdv ct ws l2
  | cons _ _ => cases l1
def tCallK0 (n : Nat) (sp : Sp) (gV : List V → List V → List V) (E : XK) (tk : TA) : TE := fun σ H Q => tk σ H fun zs H2 => zs.length = n ∧ sp (gV [] zs) H2 Q E
section
variable {X : Cx} {CX : CXT} {k : Nat} {f : Addr} {fd : FuncData} {ps ks : List Str} {sp : Sp} {E : XK} {x : Str} {p pos : Pos} {kws : List Keyword} {tk : TA} {g : List Value → List Value → List Value} {gV : List V → List V → List V}
theorem pe_callK0 (F : FnOk X.prog X.w X.K X.mg X.base CX k f fd ps sp) (hr : Room k X.A) (hg : Gl X x) (hm : X.mg x = some (.ref f)) (hk : PySem.W.keepIn X.K (.ref f) = true) (hb : KBn X.K fd ps 0 ks g gV) (hx : Passes CX X E)
    (hkw : PK X kws tk) (hall : (backToKw pos (keywordEach kws X.env)).all (·.1.isSome) = true := by rfl) (hks : (backToKw pos (keywordEach kws X.env)).filterMap (·.1) = ks := by rfl)
    (hdb : (x == ("__debug__" : Str)) = false := by decide)
    (hpl : ((backTo pos (starEach [] X.env)).any (·.1) || (backToKw pos (keywordEach kws X.env)).any (·.1.isNone)) = false := by rfl) :
    PE X (.Call (.Name x p) [] kws pos) (tCallK0 ks.length sp gV E tk) := by
  refine ⟨fun pins s σ H Q I h => ?_⟩
  refine wpAny_Call_Name_kw (ld_glob I hg hm ?_ hdb)
  refine PySem.W.callWith_KW0 (h₀ := X.base) (first := []) I.ok.mod.kin hk hall ?_ hpl
  refine thn (hkw.run pos pins s σ H _ I h) fun ws s2 ⟨zs, H2, I2, rz, l2, q2⟩ => ⟨I2.kIn, ?_⟩
  rw [hks]
  exact run_fnN (us := []) (vs := []) F hr hb hx I2 .nil rz rfl l2 q2
end
end L2
/-! enumerate of a tuple: each item in a new pair. -/
namespace PySem
open Sem (wp)
set_option maxHeartbeats 1000000 in
theorem g_meets_enum1 {v : Value} {o : Obj} {H : Heap → Prop} (B : Begins v o H) :
    Meets (Builtin.«enumerate.__new__» ⟨[.type "enumerate", v], []⟩) (fun _ R s => H s.heap ∧
      R (.ok (.ret (.ref (s.heap.push o).objs.size))) { s with heap := (s.heap.push o).push { cls := .type "enumerate", data := .fields #[.none, .bool false, .ref s.heap.objs.size, rawInt 0, .none, .none] } }) :=
  .of_wp fun prog w A R s h => by
    obtain ⟨hp, g, d, tk, os⟩ := s; obtain ⟨h1, h⟩ := h
    have hsub := sub_enumerate
    have q1 : ∀ {A' : Around} {E : Value → Shared → Prop} {Q : Value → Shared → Prop}, Q (.ref hp.objs.size) ⟨hp.push o, g, d, tk, os⟩ → wpAny (model prog w) A' (pyIter v) Q E ⟨hp, g, d, tk, os⟩ :=
      fun q => B.iter prog w _ _ ⟨hp, g, d, tk, os⟩ _ h1 q
    wp_walk using q1
    refine wpAny_stack_any fun st => wpAny_pure ?_
    split
    · rename_i c _ _ _ _ _
      cases (c == Value.type "enumerate")
      · wp_walk using q1
        exact ⟨_, rfl, h⟩
      · wp_walk using q1
        exact ⟨_, rfl, h⟩
    · wp_walk using q1
      exact ⟨_, rfl, h⟩
section
variable {prog : Program} {w : World} {A : Around} {E : Value → Shared → Prop} {s : Shared}
theorem g_call_enum {v : Value} {o : Obj} {H : Heap → Prop} {Q : Value → Shared → Prop} (B : Begins v o H) (h1 : H s.heap)
    (h : ∀ h', IsEnum h' (s.heap.objs.size + 1) s.heap.objs.size 0 .none → h'.get? s.heap.objs.size = some o → h'.objs.size = s.heap.objs.size + 2 →
      (∀ b o, s.heap.get? b = some o → h'.get? b = some o) → Q (.ref (s.heap.objs.size + 1)) { s with heap := h' }) :
    wpAny (model prog w) A (call (.type "enumerate") [v]) Q E s := by
  refine callType_new F.called_enumerate (by decide) (F.typeCall_enumerate_1 _) (F.newCall_enumerate_1 _) (fun obj => F.args_object_init_2 obj _) F.entry_enumerate_new
    (g_meets_enum1 B) ⟨h1, ?_⟩
  have hz : (s.heap.push o).objs.size = s.heap.objs.size + 1 := Heap.size_push ..
  show _ ∧ _
  rw [hz]
  have he : IsEnum ((s.heap.push o).push { cls := .type "enumerate", data := .fields #[.none, .bool false, .ref s.heap.objs.size, rawInt 0, .none, .none] }) (s.heap.objs.size + 1) s.heap.objs.size 0 .none := by
    have := Heap.get?_push_size (s.heap.push o) (o := { cls := .type "enumerate", data := .fields #[.none, .bool false, .ref s.heap.objs.size, rawInt 0, .none, .none] }) rfl
    rw [hz] at this; exact this
  exact ⟨⟨_, he, rfl⟩, h _ he (Heap.get?_push_of_some _ (Heap.get?_push_size _ B.free)) (by rw [Heap.size_push, hz]) fun b o x => Heap.get?_push_of_some _ (Heap.get?_push_of_some _ x)⟩
end
end PySem
namespace L2
open PySem PySem.Spec PyProof.Rows
def IteT (K : PySem.W.Frag) (a : Addr) : It :=
  ⟨fun i H => ∃ (xs : List V) (x : V), SqT K H a xs ∧ xs[i]? = some x, fun i H v H' => ∃ T x, v = .ref T ∧ H T = none ∧ H' = upd H T (.tup [.int (i : Nat), x]) ∧ ∀ xs, SqT K H a xs → xs[i]? = some x, fun i H => ∃ xs : List V, SqT K H a xs ∧ xs.length ≤ i⟩
theorem turn_enumT {P : Program} {w : World} {K : PySem.W.Frag} {elts : List Expr} {kk : Nat} {tpos : Pos} (a e it : Addr) (hae : a ≠ e) (hai : a ≠ it) :
    Turn P w K (.Tuple elts kk tpos) (IteT K a) [e, it] e (fun i h => (∃ old, IsEnum h e it ((i : Nat) : Int) old) ∧ h.IsTupleIter it a i ∧ e ≠ it) where
  mem := by simp
  obj := fun i h st b hb => by
    obtain ⟨⟨old, he⟩, ⟨o, ho, hc, hd⟩, _⟩ := st
    have e' : b = e ∨ b = it := by simpa using hb
    rcases e' with z | z
    · rw [z]; exact ⟨_, he, fun v q => nomatch q⟩
    · rw [z]; exact ⟨o, ho, fun v q => by rw [hd] at q; cases q⟩
  keep := fun i h h' st k => let ⟨⟨old, he⟩, hi, hne⟩ := st; ⟨⟨old, k e (by simp) _ he⟩, hi.at fun o q => k it (by simp) o q, hne⟩
  item := by
    intro X hP hw hK hc i pins s σ H E I hf st hg
    subst hP hw hK
    obtain ⟨⟨old, he⟩, hit, hne⟩ := st
    obtain ⟨xs, x, hq, hx⟩ := hg
    obtain ⟨its, rv, p, hz⟩ := I.tuple hq
    obtain ⟨u, hu, ru⟩ := rv.get hx
    have hel : e < s.heap.objs.size := Heap.lt_size he
    have hil : it < s.heap.objs.size := by obtain ⟨_, q, _⟩ := hit; exact Heap.lt_size q
    have hT0 : s.heap.IsTuple a its.toArray := p
    have hul : i < its.toArray.size := by
      rw [List.size_toArray]
      exact (List.getElem?_eq_some_iff.mp hu).1
    refine wpAny_pyNext_enum_itemD (Draws.tuple (A := X.A.in1) (I.ok.hd hc) it a hai its.toArray) he ⟨hit, hT0⟩ hul hne (by simp only [List.mem_cons, List.not_mem_nil, or_false]; exact fun z => z.elim hne fun z => hae z.symm) fun u' h' tk pu ho hst hT hsz hk => ?_
    obtain rfl : u' = u := by
      have e1 : its.toArray[i]? = some u' := pu
      have e2 : its.toArray[i]? = some u := by simpa using hu
      exact Option.some.inj (e1.symm.trans e2)
    refine ⟨_, rfl, wpAny_letOwnedTupleGo_enum (s := { s with heap := h', toks := tk + 1 }) ho fun h'' he' sb => ?_⟩
    have hT2 : h''.get? s.heap.objs.size = some { cls := .type "tuple", data := .seq #[.int i tk, u'] } := (sb.2 _ (Nat.ne_of_gt hel)).trans hT
    have new : ObjOk X.prog X.w (upd H s.heap.objs.size (.tup [.int (i : Nat), x])) h'' s.heap.objs.size (.tup [.int (i : Nat), x]) :=
      ⟨by show 2 ≤ sizeLine; decide, [.int i tk, u'], .cons ⟨_, rfl⟩ (.cons ru .nil), ⟨_, hT2, rfl, _, rfl⟩⟩
    have I1 : Inv X pins σ (upd H s.heap.objs.size (.tup [.int (i : Nat), x])) { s with heap := h'', toks := tk + 1 } :=
      I.turnedNew (ch := [e, it]) (fun b ob hb q => (sb.2 b (fun z => hb (by simp [z]))).trans (hk b ob (fun z => hb (by simp [z])) (fun z => hb (by simp [z])) q)) hf (Nat.le_refl _) new
    refine ⟨.ref s.heap.objs.size, _, I1, rfl, ⟨_, x, rfl, I.hok.fresh (Nat.le_refl _), rfl, fun ys hy => by rw [I.tuple_inj hy hq]; exact hx⟩, ⟨⟨u', ?_⟩, hst.1.at fun o q => (sb.2 it (Ne.symm hne)).trans q, hne⟩, fun b hb => ?_⟩
    · have e1 : ((i + 1 : Nat) : Int) = (i : Int) + 1 := by omega
      rw [e1]; exact he'
    · have hb' : b < s.heap.objs.size := by
        have e' : b = e ∨ b = it := by simpa using hb
        rcases e' with z | z
        · rw [z]; exact hel
        · rw [z]; exact hil
      rw [upd_ne (Nat.ne_of_lt hb')]
      exact (hf b hb).1
  done := by
    intro X hP hw hK hc i pins s σ H E I hf st hg
    subst hP hw hK
    obtain ⟨⟨old, he⟩, hit, hne⟩ := st
    obtain ⟨xs, hq, hx⟩ := hg
    obtain ⟨its, rv, p, hz⟩ := I.tuple hq
    obtain ⟨f0, f1, f2, f3, f4, f5⟩ := hf it (by simp)
    have hl := rv.length
    have hT0 : s.heap.IsTuple a its.toArray := p
    have hT : s.TypeIs (.ref e) "enumerate" := ⟨_, he, rfl⟩
    unfold pyNext
    refine wpAny_bind (wpAny_attempt (wpAny_callSpecial?_slot (name := Str.ofString "__next__") hT F.slot_enumerate_next
      (wpAny_call_entry F.slot_enumerate_next hT F.entry_enumerate_next ?_ (F.args_enumerate_next_1 _))))
    show wpAny _ _ (field (.ref e) 2 >>= _) _ _ _
    refine wpAny_bind (wpAny_field he rfl (x := .ref it) rfl ?_)
    refine wpAny_bind (RZ.nextOf_tuple_end (I.ok.hd hc) hit hT0 (by simp; omega) fun h' x he' hx' => ?_)
    obtain ⟨o, ho, hcc⟩ := hx'
    refine wpAny_bind (wpAny_isInstance (T := "StopIteration") (b := true) ⟨o, ho, hcc⟩ isSubtype_stop ?_)
    exact wpAny_pure ⟨rfl, I.turned (t' := s.toks) (fun b o hb q => he' b o hb q) f0 f1 f3 f4 f5⟩
  self := fun A i s Q E st h => let ⟨⟨_, he⟩, _⟩ := st; wpAny_pyIter_enum he h
def iEnumT (K : PySem.W.Frag) (ta : TA) : TI := fun σ H R => ta σ H fun vs H1 => ∃ a xs, vs = [.ref a] ∧ SqT K H1 a xs ∧ R (IteT K a) H1
theorem pi_enumT {X : Cx} {e : Expr} {ta : TA} {p pos tpos : Pos} {elts : List Expr} {kk : Nat} (hg : Gl X "enumerate") (hm : X.mg "enumerate" = none) (ha : PA X [e] ta) (hs : starEach [e] X.env = [(false, eval e X.env)] := by rfl) :
    PI X (.Tuple elts kk tpos) (.Call (.Name "enumerate" p) [e] [] pos) (iEnumT X.K ta) := by
  refine ⟨fun pins s σ H R I h => ?_⟩
  refine Call_ (ld_blt I hg hm boot_enumerate (PyProof.Rows.callWith_type1 (thn (ha.run pos pins s σ H _ I h) fun us s1 ⟨vs, H1, I1, r1, q1⟩ => ?_) hs rfl))
  obtain ⟨a, xs, ex, hq, q⟩ := q1
  subst ex
  cases r1 with
  | cons r rr =>
    cases rr
    cases r
    obtain ⟨its, rv, p', hz⟩ := I1.tuple hq
    have hT0 : s1.heap.IsTuple a its.toArray := p'
    have hal : a < s1.heap.objs.size := by obtain ⟨o, ho, _⟩ := hT0; exact Heap.lt_size ho
    refine g_call_enum (begins_tuple a its.toArray) hT0 fun h' he hit hsz hk => wpAny_pyIter_enum he ?_
    have I2 : Inv X pins σ H1 { s1 with heap := h' } := I1.kept (t' := s1.toks) hk
    refine ⟨s1.heap.objs.size + 1, [s1.heap.objs.size + 1, s1.heap.objs.size], _, _, H1, rfl, I2, turn_enumT a (s1.heap.objs.size + 1) s1.heap.objs.size (Nat.ne_of_lt (Nat.lt_succ_of_lt hal)) (Nat.ne_of_lt hal), ⟨⟨.none, he⟩, ⟨_, hit, rfl, rfl⟩, Nat.succ_ne_self _⟩, fun b hb => ?_, q⟩
    have e' : b = s1.heap.objs.size + 1 ∨ b = s1.heap.objs.size := by simpa using hb
    have hle : s1.heap.objs.size ≤ b := by
      rcases e' with z | z
      · rw [z]; exact Nat.le_add_right _ _
      · rw [z]; exact Nat.le_refl _
    exact I1.fpOk hle (I1.hok.fresh hle)
theorem walk_enumT {K : PySem.W.Frag} {a : Addr} {xs : List V} : Walk (IteT K a) xs.length (fun H => SqT K H a xs) (YPair (fun i => some (.int (i : Nat))) (fun i => xs[i]?)) := by
  refine ⟨fun i _ hi q => ⟨xs, xs[i], q, by simp [hi]⟩, fun _ q => ⟨xs, q, Nat.le_refl _⟩, fun i H v H' _ q y => ?_⟩
  obtain ⟨T, x, h1, h2, h3, h4⟩ := y
  exact ⟨T, .int (i : Nat), x, h1, h2, h3, rfl, h4 xs q⟩
end L2
/-! Own rule: sorted(d), d a dict whose keys are numbers, however many. -/
namespace L2
open PySem PySem.Spec PyProof.Rows
variable {X : Cx}
theorem keys_nums {us : List Value} {ns : List Int} (h : us.length = ns.length) (g : ∀ (i : Nat) (u : Value) (n : Int), us[i]? = some u → ns[i]? = some n → ∃ t, u = Value.int n t) : IntsAre us ns := by
  refine ints_each h fun i u e => ?_
  have hlt : i < ns.length := by rw [← h]; exact (List.getElem?_eq_some_iff.mp e).1
  obtain ⟨t, rfl⟩ := g i u _ e (List.getElem?_eq_getElem hlt)
  exact ⟨_, t, List.getElem?_eq_getElem hlt, rfl⟩
def rSortKeys : List V → Hp → VK → Prop := fun xs H Q => ∃ (d : Addr) (kvs : List (Key × V)) (ns : List Int), xs = [.ref d] ∧ Rd H d (.dK kvs) ∧ kvs.map (·.1) = ns.map Sum.inl ∧ ns.length ≤ 5000 ∧
  ∀ (ms : List Int) (q : Addr), ms.Perm ns → ms.Pairwise (· ≤ ·) → H q = none → Q (.ref q) (upd H q (.lst (ms.map V.int)))
theorem cr_sortedKeys (calm : X.calm = true) : CallR X (.builtin "sorted") rSortKeys := by
  intro pins s σ H xs us Q I rel hyp
  obtain ⟨d, kvs, ns, rfl, hd, hk, hlen, fin⟩ := hyp
  rw [Vals.ref1 rel]
  obtain ⟨z, lo, raw, krel, dl⟩ := dk_rd I.hok hd
  obtain ⟨ep, at'⟩ := dl.dictAt
  have hraw : raw.map (·.1) = ns.map Sum.inl := krel.keys.symm.trans hk
  have len : raw.length = ns.length := by simpa using congrArg List.length hraw
  have line : ns.length ≤ sizeLine := Nat.le_trans hlen (by decide)
  refine Calls.call_function_entry PyProof.Rows.kind_sorted PyProof.Rows.plain_sorted PyProof.Rows.entry_sorted (PyProof.Rows.args_sorted1 _) ?_
  unfold Builtin.«sorted»
  refine wpAny_bind (m := checkCount "sorted" 1 1 _) (wpAny_pure ?_)
  refine wpAny_bind (PySem.W.kdu_collect (A := X.A.in1) (PySem.W.kdl_dict (knd := mixKind X.prog X.w) (kvs := raw) (ep := ep) lo) (I.ok.hd calm) at' (by rw [len]; exact line) fun h1 tk got kept hgot => ?_)
  have gl : got.toList.length = ns.length := by rw [Array.length_toList, hgot.1, len]
  have nums : IntsAre got.toList ns := keys_nums gl fun i u n e en => by
    obtain ⟨k, w, e1, e2⟩ := hgot.2 i u (by rw [← Array.getElem?_toList]; exact e)
    have e3 : (raw.map (·.1))[i]? = some k := by rw [List.getElem?_map, e1]; rfl
    rw [hraw, List.getElem?_map, en] at e3
    have e4 : Sum.inl n = k := Option.some.inj e3
    subst e4
    rcases keyIs_shape (show keyIs (Sum.inl n) u = true from e2) with ⟨m, t, ek, ev⟩ | ⟨m, t, ek, ev⟩
    · cases ek
      exact ⟨t, ev⟩
    · cases ek
  have I1 : Inv X pins σ H { s with heap := h1, toks := tk } := I.kept kept
  refine wpAny_bind (wpAny_newList ?_ (by rw [gl]; exact line))
  have ob : (h1.push (seqObj "list" got.toList.toArray 0)).get? h1.objs.size = some (seqObj "list" got.toList.toArray 0) := Heap.get?_push_size _ rfl
  show wpAny _ _ _ _ _ { s with heap := h1.push (seqObj "list" got.toList.toArray 0), toks := tk }
  refine wpAny_bind (wpAny_holding (wpAny_call_entry PyProof.Rows.slot_list_sort ⟨_, ob, rfl⟩ PyProof.Rows.entry_list_sort
    (SrtO.list_sort_ord SrtO.swo_int (s := { s with heap := h1.push (seqObj "list" got.toList.toArray 0), toks := tk }) ob (by rw [gl]; exact line) (fun two => SrtO.ints_sortable nums two) fun out g1 g2 => ⟨_, rfl, ?_⟩) (PyProof.Rows.args_list_sort _)))
  obtain ⟨k1, k2, k3⟩ := SrtO.ints_out nums g1 g2
  obtain ⟨ep', at2⟩ := PyProof.Rows.sortedHeap_at (vs := got.toList) (out := out.toArray) ob
  have small : ((out.map SrtO.iv).map V.int).length ≤ sizeLine := by rw [List.length_map, k2.length_eq]; exact line
  refine wpAny_pure ⟨_, rfl, .ref h1.objs.size, upd H h1.objs.size (.lst ((out.map SrtO.iv).map V.int)), I1.laid (t' := tk) (fun b u e => ?_) (Nat.le_refl _)
    (show ObjOk X.prog X.w _ _ _ (.lst ((out.map SrtO.iv).map V.int)) from ⟨small, out, ep', vals_of_ints k1, at2⟩), rfl, fin _ _ k2 k3 (I1.hok.fresh (Nat.le_refl _))⟩
  have lt := Heap.lt_size e
  rw [PyProof.Rows.sortedHeap_old (Nat.ne_of_lt lt) (by rw [size_push']; exact Nat.lt_succ_of_lt lt)]
  exact Heap.get?_push_of_some _ e
/-- a row to be gone through that is a list or a tuple -/
theorem pi_either {tg e : Expr} {w1 w2 : TI} (a : PI X tg e w1) (b : PI X tg e w2) : PI X tg e (fun σ H R => w1 σ H R ∨ w2 σ H R) :=
  ⟨fun pins s σ H R I h => h.elim (a.run pins s σ H R I) (b.run pins s σ H R I)⟩
end L2
/-! repr of lists and tuples. -/
namespace GL
open PySem PySem.Spec PyProof.Rows L2
def disp : PyData → Bool
  | .list _ | .tuple _ => true
  | _ => false
def rRepr (K : PySem.W.Frag) : List V → Hp → VK → Prop := fun xs H Q => ∃ (a : Addr) (d : PyData), xs = [.ref a] ∧ Dp K H (.ref a) d ∧ SeqAt.shaped d = true ∧ d.showable = true ∧ d.depth ≤ 60 ∧ d.shown.length ≤ sizeLine ∧ Q (.str d.shown) H
theorem call_repr {X : Cx} (hu : X.A.units + 64 < cLine) (hg : X.A.guards = some []) : CallR X (.builtin "repr") (rRepr X.K) := by
  intro pins s σ H xs us Q I r h
  obtain ⟨a, d, rfl, hd, hc, hs, hdp, hsz, q⟩ := h
  obtain ⟨as, r1⟩ := Dp.reads I d (.ref a) us[0]! hd (by
    obtain ⟨u, rfl, e⟩ := vals1 r
    exact e)
  obtain ⟨u, rfl, e⟩ := vals1 r
  have e2 : u = Value.ref a := e
  subst e2
  refine repr_of_reads' r1 hs (PyData.noDict_hsm ?_) hg (by omega) (fun _ _ e => e) (fun h' t tk hk => ?_) hsz
  · unfold SeqAt.shaped at hc
    exact PyData.hasDict_of_canLay d (by rw [Bool.and_eq_true] at hc; first | exact hc.1 | exact hc.2)
  · exact ⟨.str _, H, I.kept hk, ⟨_, rfl⟩, q⟩
end GL
/-! Lemmas that every law of this program wants: the state of the draws, lists and texts, what a comparison of data tells. -/
namespace GL
open PySem PySem.Spec PyProof.Rows L2
/-! ### the draws' state: a list at S, its cells at C -/
def StOk (H : Hp) (S C : Addr) : Prop := ∃ (cells : List Int) (k m : Int), H S = some (.lst [.ref C, .int k, .int m]) ∧ H C = some (.lst (cells.map V.int)) ∧ 0 < cells.length ∧ cells.length ≤ 63 ∧ (∀ c ∈ cells, 0 ≤ c) ∧ 0 ≤ k ∧ 0 ≤ m ∧ m < 2147483647
/-- all but the state stands as it stood -/
def Mod (S C : Addr) (H H' : Hp) : Prop := ∀ b o, H b = some o → b ≠ S → b ≠ C → H' b = some o
theorem Mod.refl (S C : Addr) (H : Hp) : Mod S C H H := fun _ _ h _ _ => h
theorem Mod.trans {S C : Addr} {H H1 H2 : Hp} (a : Mod S C H H1) (b : Mod S C H1 H2) : Mod S C H H2 := fun x o h n1 n2 => b x o (a x o h n1 n2) n1 n2
theorem Mod.of {S C : Addr} {H H1 : Hp} (a : Same H H1) : Mod S C H H1 := fun x o h _ _ => a x o h
theorem same_new {H : Hp} {p : Addr} {o : HO} (h : H p = none) : Same H (upd H p o) := fun b x e => by
  rw [upd_ne (ne_of_none e h)]
  exact e
/-- a new object of the call's own may change -/
theorem _root_.L2.Same.own {H H1 : Hp} {p : Addr} {o : HO} (s : Same H H1) (h : H p = none) : Same H (upd H1 p o) := fun b x e => by
  rw [upd_ne (ne_of_none e h)]
  exact s b x e
theorem Mod.own {S C : Addr} {H H1 : Hp} {p : Addr} {o : HO} (s : Mod S C H H1) (h : H p = none) : Mod S C H (upd H1 p o) := fun b x e n1 n2 => by
  rw [upd_ne (ne_of_none e h)]
  exact s b x e n1 n2
theorem StOk.ne {H : Hp} {S C : Addr} (h : StOk H S C) : S ≠ C := fun e => by
  obtain ⟨cells, k, m, h1, h2, _⟩ := h
  rw [e, h2] at h1
  cases cells with
  | nil => cases h1
  | cons x r => cases h1
theorem StOk.same {H H' : Hp} {S C : Addr} (h : StOk H S C) (s : Same H H') : StOk H' S C := by
  obtain ⟨cells, k, m, h1, h2, r⟩ := h
  exact ⟨cells, k, m, s _ _ h1, s _ _ h2, r⟩
theorem StOk.upd {H : Hp} {S C p : Addr} {o : HO} (h : StOk H S C) (n1 : p ≠ S) (n2 : p ≠ C) : StOk (upd H p o) S C := by
  obtain ⟨cells, k, m, h1, h2, r⟩ := h
  exact ⟨cells, k, m, by rw [upd_ne n1.symm]; exact h1, by rw [upd_ne n2.symm]; exact h2, r⟩
theorem StOk.neS {H : Hp} {S C p : Addr} (h : StOk H S C) (n : H p = none) : p ≠ S := fun e => by
  obtain ⟨cells, k, m, h1, h2, r⟩ := h
  rw [e, h1] at n
  cases n
theorem StOk.neC {H : Hp} {S C p : Addr} (h : StOk H S C) (n : H p = none) : p ≠ C := fun e => by
  obtain ⟨cells, k, m, h1, h2, r⟩ := h
  rw [e, h2] at n
  cases n
/-- an object of another kind is none of the two -/
theorem StOk.offL {H : Hp} {S C p : Addr} {o : HO} (h : StOk H S C) (e : H p = some o) (k : ∀ xs, o ≠ .lst xs) : p ≠ S ∧ p ≠ C := by
  obtain ⟨cells, i, m, h1, h2, r⟩ := h
  refine ⟨fun z => ?_, fun z => ?_⟩
  · rw [z, h1] at e
    exact k _ (Option.some.inj e).symm
  · rw [z, h2] at e
    exact k _ (Option.some.inj e).symm
theorem StOk.offS {H : Hp} {S C p : Addr} {ys : List Str} (h : StOk H S C) (e : H p = some (.lst (ys.map V.str))) : p ≠ S ∧ p ≠ C := by
  obtain ⟨cells, i, m, h1, h2, h0, r⟩ := h
  refine ⟨fun z => ?_, fun z => ?_⟩
  · rw [z, h1] at e
    cases ys with
    | nil => cases e
    | cons y r => cases e
  · rw [z, h2] at e
    cases ys with
    | nil =>
      cases cells with
      | nil => exact absurd h0 (Nat.lt_irrefl _)
      | cons x r => cases e
    | cons y r =>
      cases cells with
      | nil => cases e
      | cons x r => cases e
theorem Mod.strs {S C p : Addr} {H H' : Hp} {ys : List Str} (m : Mod S C H H') (h : StOk H S C) (e : H p = some (.lst (ys.map V.str))) : H' p = some (.lst (ys.map V.str)) :=
  m _ _ e (h.offS e).1 (h.offS e).2
theorem Mod.other {S C p : Addr} {H H' : Hp} {o : HO} (m : Mod S C H H') (h : StOk H S C) (e : H p = some o) (k : ∀ xs, o ≠ .lst xs) : H' p = some o :=
  m _ _ e (h.offL e k).1 (h.offL e k).2
/-! ### items -/
theorem cell_at {xs : List Int} {z : Int} (h0 : 0 ≤ z) (h : z < (xs.length : Int)) : ∃ (j : Nat) (c : Int), z = (j : Int) ∧ j < xs.length ∧ xs[j]? = some c ∧ (xs.map V.int)[j]? = some (.int c) ∧ c ∈ xs := by
  obtain ⟨j, rfl⟩ := Int.eq_ofNat_of_zero_le h0
  have hj : j < xs.length := by omega
  refine ⟨j, xs[j], rfl, hj, List.getElem?_eq_getElem hj, ?_, List.getElem_mem hj⟩
  rw [List.getElem?_map, List.getElem?_eq_getElem hj]
  rfl
theorem ixN_of {n j : Nat} {z : Int} (e : z = (j : Int)) (h : j < n) : ixN n z = some j := by
  subst e
  unfold ixN
  rw [if_pos (by omega), if_pos (by omega)]
  rfl
theorem lst3_set1 (a b c d : V) : ([a, b, c] : List V).set 1 d = [a, d, c] := rfl
theorem at_some {α : Type} {xs : List α} {d : Int} (h0 : 0 ≤ d) (h : d < (xs.length : Int)) : ∃ j v, d = ((j : Nat) : Int) ∧ xs[j]? = some v ∧ v ∈ xs := by
  obtain ⟨j, rfl⟩ := Int.eq_ofNat_of_zero_le h0
  have hj : j < xs.length := by omega
  exact ⟨j, xs[j], rfl, List.getElem?_eq_getElem hj, List.getElem_mem hj⟩
theorem atI_at {α : Type} {xs : List α} {d : Int} {j : Nat} {v : α} (e : d = ((j : Nat) : Int)) (h : xs[j]? = some v) : atI xs d = some v := by
  subst e
  unfold atI
  rw [ixN_of rfl (List.getElem?_eq_some_iff.mp h).1]
  exact h
theorem strs_at {xs : List Str} {j : Nat} {v : Str} (h : xs[j]? = some v) : (xs.map V.str)[j]? = some (.str v) := by
  rw [List.getElem?_map, h]
  rfl
theorem of_strs_at {xs : List Str} {j : Nat} {v : V} (h : (xs.map V.str)[j]? = some v) : ∃ z, xs[j]? = some z ∧ v = .str z := by
  rw [List.getElem?_map] at h
  cases e : xs[j]? with
  | none => rw [e] at h; cases h
  | some z => rw [e] at h; exact ⟨z, rfl, (Option.some.inj h).symm⟩
theorem of_ints_at {xs : List Int} {j : Nat} {v : V} (h : (xs.map V.int)[j]? = some v) : ∃ z, xs[j]? = some z ∧ v = .int z := by
  rw [List.getElem?_map] at h
  cases e : xs[j]? with
  | none => rw [e] at h; cases h
  | some z => rw [e] at h; exact ⟨z, rfl, (Option.some.inj h).symm⟩
theorem take_snoc {α : Type} {l : List α} {i : Nat} {x : α} (h : l[i]? = some x) : l.take (i + 1) = l.take i ++ [x] := by
  rw [List.take_succ, h]
  rfl
theorem small_nat {n : Nat} (h : n ≤ 100000) : (n : Int).natAbs < 2 ^ 200 := by
  rw [Int.natAbs_natCast]
  exact Nat.lt_of_le_of_lt h (by decide)
theorem small_sz {n : Nat} (h : n ≤ 100000) : n ≤ sizeLine := Nat.le_trans h (by decide)
theorem small_lt {n : Nat} (h : n < 100000) : n < sizeLine := Nat.lt_of_lt_of_le h (by decide)
/-- one taken out -/
theorem erase_perm {α : Type} : ∀ {l : List α} {j : Nat} {x : α}, l[j]? = some x → (x :: l.eraseIdx j).Perm l
  | [], _, _, h => by simp at h
  | a :: r, 0, x, h => by
    have e : a = x := Option.some.inj h
    subst e
    exact .refl _
  | a :: r, j + 1, x, h => by
    have ih := erase_perm (l := r) (j := j) (x := x) h
    show (x :: a :: r.eraseIdx j).Perm (a :: r)
    exact (List.Perm.swap _ _ _).trans (ih.cons a)
theorem erase_map {α β : Type} (f : α → β) : ∀ (l : List α) (j : Nat), (l.map f).eraseIdx j = (l.eraseIdx j).map f
  | [], _ => rfl
  | a :: r, 0 => rfl
  | a :: r, j + 1 => by
    show f a :: (r.map f).eraseIdx j = f a :: (r.eraseIdx j).map f
    rw [erase_map f r j]
theorem take_min {α : Type} (xs : List α) (k : Nat) : xs.take (min k xs.length) = xs.take k := by
  by_cases h : k ≤ xs.length
  · rw [Nat.min_eq_left h]
  · rw [Nat.min_eq_right (by omega), List.take_length, List.take_of_length_le (by omega)]
theorem drop_min {α : Type} (xs : List α) (k : Nat) : xs.drop (min k xs.length) = xs.drop k := by
  by_cases h : k ≤ xs.length
  · rw [Nat.min_eq_left h]
  · rw [Nat.min_eq_right (by omega), List.drop_length, List.drop_of_length_le (by omega)]
theorem cut_take (xs : List V) (k : Nat) : cutV xs none (some (k : Int)) = xs.take k := by
  unfold cutV
  rw [HT.sIx_none, HT.sIx_nat, List.drop_zero, Nat.sub_zero, take_min]
theorem cut_drop (xs : List V) (k : Nat) : cutV xs (some (k : Int)) none = xs.drop k := by
  unfold cutV
  rw [HT.sIx_none, HT.sIx_nat, drop_min, List.take_of_length_le]
  rw [List.length_drop]
  omega
/-! ### texts as data -/
theorem dp_all {K : PySem.W.Frag} {H : Hp} : ∀ ys : List Str, DpAll K H (ys.map V.str) (ys.map PyData.str)
  | [] => .nil
  | y :: r => .cons (.str y) (dp_all r)
theorem dp_list {K : PySem.W.Frag} {H : Hp} {a : Addr} {ys : List Str} (h : H a = some (.lst (ys.map V.str))) : Dp K H (.ref a) (.list (ys.map PyData.str)) := .lst (SqL.of h) (dp_all ys)
theorem dp_tup {K : PySem.W.Frag} {H : Hp} {a : Addr} {ys : List Str} (h : H a = some (.tup (ys.map V.str))) : Dp K H (.ref a) (.tuple (ys.map PyData.str)) := .tup (SqT.of h) (dp_all ys)
theorem can_strs : ∀ ys : List Str, (∀ y ∈ ys, PyData.strOk y = true) → PyData.canLayAll0 (ys.map PyData.str) = true
  | [], _ => by rw [List.map_nil, PyData.canLayAll0]
  | y :: r, h => by
    rw [List.map_cons, PyData.canLayAll0, PyData.canLay0, h y List.mem_cons_self, can_strs r fun z hz => h z (List.mem_cons_of_mem _ hz)]
    rfl
theorem depth_strs : ∀ ys : List Str, PyData.depthAll (ys.map PyData.str) = 0
  | [] => by rw [List.map_nil, PyData.depthAll]
  | y :: r => by
    rw [List.map_cons, PyData.depthAll, depth_strs r, PyData.depth]
    rfl
theorem shaped_list {ys : List Str} (h : ∀ y ∈ ys, PyData.strOk y = true) : SeqAt.shaped (.list (ys.map PyData.str)) = true := by
  unfold SeqAt.shaped
  rw [PyData.canLay0, can_strs ys h, PyData.depth, depth_strs]
  rfl
theorem shaped_tup {ys : List Str} (h : ∀ y ∈ ys, PyData.strOk y = true) : SeqAt.shaped (.tuple (ys.map PyData.str)) = true := by
  unfold SeqAt.shaped
  rw [PyData.canLay0, can_strs ys h, PyData.depth, depth_strs]
  rfl
theorem eqv_strs : ∀ xs ys : List Str, PyData.eqvAll (xs.map PyData.str) (ys.map PyData.str) = decide (xs = ys)
  | [], [] => by rw [List.map_nil, PyData.eqvAll]; rfl
  | [], y :: r => by rw [List.map_nil, List.map_cons, PyData.eqvAll]; rfl
  | x :: r, [] => by rw [List.map_nil, List.map_cons, PyData.eqvAll]; rfl
  | x :: r, y :: s => by
    rw [List.map_cons, List.map_cons, PyData.eqvAll, PyData.eqv, eqv_strs r s, Bool.eq_iff_iff, Bool.and_eq_true, beq_iff_eq, decide_eq_true_iff, decide_eq_true_iff, List.cons.injEq]
theorem eqv_lists (xs ys : List Str) : PyData.eqv (.list (xs.map PyData.str)) (.list (ys.map PyData.str)) = decide (xs = ys) := by rw [PyData.eqv, eqv_strs]
theorem eqv_tups (xs ys : List Str) : PyData.eqv (.tuple (xs.map PyData.str)) (.tuple (ys.map PyData.str)) = decide (xs = ys) := by rw [PyData.eqv, eqv_strs]
/-! ### ints as data -/
theorem dpi_all {K : PySem.W.Frag} {H : Hp} : ∀ ys : List Int, DpAll K H (ys.map V.int) (ys.map PyData.int)
  | [] => .nil
  | y :: r => .cons (.int y) (dpi_all r)
theorem can_ints : ∀ ys : List Int, PyData.canLayAll0 (ys.map PyData.int) = true
  | [] => by rw [List.map_nil, PyData.canLayAll0]
  | y :: r => by rw [List.map_cons, PyData.canLayAll0, PyData.canLay0, can_ints r]; rfl
theorem depth_ints : ∀ ys : List Int, PyData.depthAll (ys.map PyData.int) = 0
  | [] => by rw [List.map_nil, PyData.depthAll]
  | y :: r => by rw [List.map_cons, PyData.depthAll, depth_ints r, PyData.depth]; rfl
theorem shapedi_list (ys : List Int) : SeqAt.shaped (.list (ys.map PyData.int)) = true := by
  unfold SeqAt.shaped
  rw [PyData.canLay0, can_ints ys, PyData.depth, depth_ints]
  rfl
theorem shapedi_tup (ys : List Int) : SeqAt.shaped (.tuple (ys.map PyData.int)) = true := by
  unfold SeqAt.shaped
  rw [PyData.canLay0, can_ints ys, PyData.depth, depth_ints]
  rfl
theorem eqv_ints : ∀ xs ys : List Int, PyData.eqvAll (xs.map PyData.int) (ys.map PyData.int) = decide (xs = ys)
  | [], [] => by rw [List.map_nil, PyData.eqvAll]; rfl
  | [], y :: r => by rw [List.map_nil, List.map_cons, PyData.eqvAll]; rfl
  | x :: r, [] => by rw [List.map_nil, List.map_cons, PyData.eqvAll]; rfl
  | x :: r, y :: s => by
    rw [List.map_cons, List.map_cons, PyData.eqvAll, PyData.eqv, eqv_ints r s, Bool.eq_iff_iff, Bool.and_eq_true, beq_iff_eq, decide_eq_true_iff, decide_eq_true_iff, List.cons.injEq]
theorem eqvi_lists (xs ys : List Int) : PyData.eqv (.list (xs.map PyData.int)) (.list (ys.map PyData.int)) = decide (xs = ys) := by rw [PyData.eqv, eqv_ints]
theorem eqvi_tups (xs ys : List Int) : PyData.eqv (.tuple (xs.map PyData.int)) (.tuple (ys.map PyData.int)) = decide (xs = ys) := by rw [PyData.eqv, eqv_ints]
/-! ### promises of the helpers -/
def spDraw : Sp := fun vs H Q _ => ∃ (S C : Addr) (n : Int), vs = [.ref S, .int n] ∧ 0 < n ∧ n.natAbs < 2 ^ 200 ∧ StOk H S C ∧ ∀ H' d, Mod S C H H' → StOk H' S C → 0 ≤ d → d < n → Q (.int d) H'
/-- one of a list, or one sign of a text -/
def spPick : Sp := fun vs H Q _ => ∃ (S C : Addr) (x : V), vs = [.ref S, x] ∧ StOk H S C ∧
  ((∃ a xs, x = .ref a ∧ a ≠ S ∧ a ≠ C ∧ H a = some (.lst xs) ∧ 0 < xs.length ∧ xs.length ≤ 1000 ∧ ∀ H' v, Mod S C H H' → StOk H' S C → v ∈ xs → Q v H') ∨
   (∃ z : Str, x = .str z ∧ 0 < z.cps.toList.length ∧ z.length ≤ 1000 ∧ ∀ H' c, Mod S C H H' → StOk H' S C → c ∈ z.cps.toList → Q (.str ⟨#[c]⟩) H'))
/-- a new list of the same, in some order -/
def spMixed : Sp := fun vs H Q _ => ∃ (S C a : Addr) (ns : List Str), vs = [.ref S, .ref a] ∧ StOk H S C ∧ H a = some (.lst (ns.map V.str)) ∧ ns.length ≤ 100 ∧ (∀ y ∈ ns, PyData.strOk y = true) ∧
  ∀ H' p ys, Mod S C H H' → StOk H' S C → H p = none → H' p = some (.lst (List.map V.str ys)) → ys.Perm ns → Q (.ref p) H'
/-- a slip of at most 58 figures -/
def spSlip : Sp := fun vs H Q _ => ∃ (S C : Addr), vs = [.ref S] ∧ StOk H S C ∧ ∀ H' z, Mod S C H H' → StOk H' S C → Int.natAbs z < 10 ^ 58 → Q (.int z) H'
def spState (K : PySem.W.Frag) : Sp := fun vs H Q _ => ∃ (a : Addr) (ns : List Int), vs = [.ref a] ∧ SqL K H a (ns.map V.int) ∧ ns.length ≤ 63 ∧ ∀ H' S C, Same H H' → H S = none → H C = none → StOk H' S C → Q (.ref S) H'
def spLaw (K : PySem.W.Frag) : Sp := fun vs H Q _ => ∃ (a : Addr) (ns : List Int), vs = [.ref a] ∧ SqL K H a (ns.map V.int) ∧ ns.length ≤ 63 ∧ ∀ H', Q (.bl true) H'
end GL
/-! Names: texts of one to eight small letters. -/
namespace GL
open PySem PySem.Spec PyProof.Rows L2
abbrev abc : Str := ("abcdefghijklmnopqrstuvwxyz" : Str)
def one (c : Nat) : Str := ⟨#[c]⟩
def NameOk (z : Str) : Prop := 1 ≤ z.cps.toList.length ∧ z.cps.toList.length ≤ 8 ∧ ∀ c ∈ z.cps.toList, 97 ≤ c ∧ c ≤ 122
instance (z : Str) : Decidable (NameOk z) := by unfold NameOk; exact inferInstance
theorem NameOk.str {z : Str} (h : NameOk z) : PyData.strOk z = true := by
  unfold PyData.strOk
  rw [← Array.all_toList, List.all_eq_true]
  intro c hc
  have := (h.2.2 c hc).2
  exact decide_eq_true (by omega)
theorem NameOk.len {z : Str} (h : NameOk z) : z.length ≤ 8 := by
  have e : z.cps.toList.length = z.length := Array.length_toList
  have := h.2.1
  omega
theorem NameOk.len1 {z : Str} (h : NameOk z) : 1 ≤ z.length := by
  have e : z.cps.toList.length = z.length := Array.length_toList
  have := h.1
  omega
theorem abc_mem {c : Nat} : c ∈ abc.cps.toList ↔ 97 ≤ c ∧ c ≤ 122 := by
  have h1 : ∀ c ∈ abc.cps.toList, 97 ≤ c ∧ c ≤ 122 := by decide +kernel
  have h2 : ∀ k, k < 26 → (97 + k) ∈ abc.cps.toList := by decide +kernel
  refine ⟨h1 c, fun h => ?_⟩
  have := h2 (c - 97) (by omega)
  rwa [show 97 + (c - 97) = c by omega] at this
theorem one_ok {c : Nat} (h : 97 ≤ c ∧ c ≤ 122) : PyData.strOk (one c) = true := by
  have : NameOk (one c) := ⟨Nat.le_refl _, (by show 1 ≤ 8; decide), fun x hx => by
    rw [show (one c).cps.toList = [c] from rfl, List.mem_singleton] at hx
    rw [hx]
    exact h⟩
  exact this.str
theorem glue_fold : ∀ (ys : List Str) (acc : Array Nat), (ys.foldl (fun a y => a ++ (Str.empty).cps ++ y.cps) acc).toList = acc.toList ++ ys.flatMap fun y => y.cps.toList
  | [], acc => by rw [List.foldl_nil, List.flatMap_nil, List.append_nil]
  | y :: r, acc => by
    rw [List.foldl_cons, glue_fold r, List.flatMap_cons, Array.toList_append, Array.toList_append, show (Str.empty).cps.toList = [] from rfl, List.append_nil, List.append_assoc]
theorem glue_nil (ys : List Str) : (Txt.join ⟨#[]⟩ ys).cps.toList = ys.flatMap fun y => y.cps.toList := by
  show ((ys.drop 1).foldl (fun a y => a ++ (Str.empty).cps ++ y.cps) (ys.headD Str.empty).cps).toList = _
  rw [glue_fold]
  cases ys with
  | nil => rfl
  | cons y r => rfl
theorem glue_ones (cs : List Nat) : (Txt.join ⟨#[]⟩ (cs.map one)).cps.toList = cs := by
  rw [glue_nil]
  induction cs with
  | nil => rfl
  | cons c r ih =>
    rw [List.map_cons, List.flatMap_cons, ih]
    rfl
theorem ones_len : ∀ cs : List Nat, ((cs.map one).map (·.length)).sum = cs.length
  | [] => rfl
  | c :: r => by
    rw [List.map_cons, List.map_cons, List.sum_cons, ones_len r, List.length_cons]
    show 1 + r.length = r.length + 1
    omega
/-- the first seven signs and one more -/
def w7 (z : Str) (c : Nat) : Str := cutS z none (some 7) ++ one c
theorem w7_cps (z : Str) (c : Nat) : (w7 z c).cps.toList = z.cps.toList.take 7 ++ [c] := by
  show ((cutS z none (some 7)).cps ++ (one c).cps).toList = _
  rw [Array.toList_append]
  have e : (cutS z none (some 7)).cps.toList = z.cps.toList.take 7 := by
    show (z.cps.toList.drop (HT.sIx z.length 0 none)).take (HT.sIx z.length z.length (some ((7 : Nat) : Int)) - HT.sIx z.length 0 none) = _
    rw [HT.sIx_none, HT.sIx_nat, List.drop_zero, Nat.sub_zero, show z.length = z.cps.toList.length from Array.length_toList.symm, take_min]
  rw [e]
  rfl
theorem w7_ok {z : Str} {c : Nat} (h : NameOk z) (hc : 97 ≤ c ∧ c ≤ 122) : NameOk (w7 z c) := by
  unfold NameOk
  rw [w7_cps]
  refine ⟨by rw [List.length_append, List.length_singleton]; omega, by rw [List.length_append, List.length_singleton, List.length_take]; omega, fun x hx => ?_⟩
  rcases List.mem_append.mp hx with hx | hx
  · exact h.2.2 x (List.mem_of_mem_take hx)
  · rw [List.mem_singleton] at hx
    rw [hx]
    exact hc
theorem w7_inj {z : Str} {c d : Nat} (h : w7 z c = w7 z d) : c = d := by
  have e := congrArg (fun x : Str => x.cps.toList) h
  rw [w7_cps, w7_cps] at e
  have := List.append_cancel_left e
  exact (List.cons.inj this).1
/-- the word itself, then its turns by the signs -/
def turns27 (z : Str) : List Str := z :: abc.cps.toList.map (w7 z)
theorem turns27_ok {z : Str} (h : NameOk z) : ∀ y ∈ turns27 z, NameOk y := fun y hy => by
  rcases List.mem_cons.mp hy with rfl | hy
  · exact h
  · obtain ⟨c, hc, rfl⟩ := List.mem_map.mp hy
    exact w7_ok h (abc_mem.mp hc)
theorem nodup_map {α β : Type} {f : α → β} (hf : ∀ a b, f a = f b → a = b) : ∀ {l : List α}, l.Nodup → (l.map f).Nodup
  | [], _ => List.nodup_nil
  | a :: r, h => by
    rw [List.nodup_cons] at h
    rw [List.map_cons, List.nodup_cons]
    refine ⟨fun hm => ?_, nodup_map hf h.2⟩
    obtain ⟨b, hb, e⟩ := List.mem_map.mp hm
    rw [hf _ _ e] at hb
    exact h.1 hb
theorem abc_nodup : abc.cps.toList.Nodup := by decide +kernel
/-- of so many one is none of few -/
theorem fresh_one {z : Str} {found : List Str} (h : found.length < 26) : (turns27 z).filter (fun y => !decide (y ∈ found)) ≠ [] := fun e => by
  have sub : abc.cps.toList.map (w7 z) ⊆ found := fun y hy => by
    refine Classical.byContradiction fun hn => ?_
    have : y ∈ (turns27 z).filter (fun y => !decide (y ∈ found)) := List.mem_filter.mpr ⟨List.mem_cons_of_mem _ hy, by rw [decide_eq_false hn]; rfl⟩
    rw [e] at this
    cases this
  have := List.Nodup.length_le_of_subset (nodup_map (fun a b => w7_inj) abc_nodup) sub
  rw [List.length_map, show abc.cps.toList.length = 26 by decide +kernel] at this
  omega
theorem inV_strs (x : Str) : ∀ ys : List Str, inV (.str x) (ys.map V.str) = decide (x ∈ ys)
  | [] => rfl
  | y :: r => by
    have ih := inV_strs x r
    unfold inV at ih ⊢
    rw [List.map_cons, List.any_cons, ih, Bool.eq_iff_iff, Bool.or_eq_true, decide_eq_true_iff, decide_eq_true_iff, List.mem_cons]
    show ((y == x) = true ∨ _) ↔ _
    rw [beq_iff_eq]
    exact ⟨fun h => h.imp Eq.symm id, fun h => h.imp Eq.symm id⟩
def spNames : Sp := fun vs H Q _ => ∃ (S C : Addr) (n : Int), vs = [.ref S, .int n] ∧ 0 ≤ n ∧ n ≤ 14 ∧ StOk H S C ∧
  ∀ H' p ys, Mod S C H H' → StOk H' S C → H p = none → H' p = some (.lst (List.map V.str ys)) → ys.length = n.toNat → ys.Nodup → (∀ y ∈ ys, NameOk y) → Q (.ref p) H'
end GL
namespace GL
open PySem PySem.Spec PyProof.Rows L2
def words13 : List Str := ["ring", "may", "sure", "far", "more", "go", "come", "watch", "round", "anew", "swap", "seat", "undo"]
theorem words13_ok : ∀ y ∈ words13, NameOk y := by decide +kernel
def etao : Str := "etaoinshrdlcumwf"
theorem etao_mem : ∀ c ∈ etao.cps.toList, 97 ≤ c ∧ c ≤ 122 := by decide +kernel
/-- of so many turns one is none of few -/
theorem fresh_w7 {z : Str} {found : List Str} (h : found.length < 26) : (abc.cps.toList.map (w7 z)).filter (fun y => !decide (y ∈ found)) ≠ [] := fun e => by
  have sub : abc.cps.toList.map (w7 z) ⊆ found := fun y hy => by
    refine Classical.byContradiction fun hn => ?_
    have : y ∈ (abc.cps.toList.map (w7 z)).filter (fun y => !decide (y ∈ found)) := List.mem_filter.mpr ⟨hy, by rw [decide_eq_false hn]; rfl⟩
    rw [e] at this
    cases this
  have := List.Nodup.length_le_of_subset (nodup_map (fun a b => w7_inj) abc_nodup) sub
  rw [List.length_map, show abc.cps.toList.length = 26 by decide +kernel] at this
  omega
end GL
/-! Slips by names, rounds. -/
namespace GL
open PySem PySem.Spec PyProof.Rows L2
/-! ### a dict of slips -/
def SlipsAt (H : Hp) (d : Addr) (ns : List Str) (sl : Str → Int) : Prop := ∃ kvs : List (Key × V), H d = some (.dK kvs) ∧ kvs.length = ns.length ∧ (kvs.map (·.1)).Nodup ∧ ∀ n ∈ ns, valV kvs (Sum.inr n : Key) = some (.int (sl n))
theorem SlipsAt.same {H H' : Hp} {d : Addr} {ns : List Str} {sl : Str → Int} (h : SlipsAt H d ns sl) (s : Same H H') : SlipsAt H' d ns sl := by
  obtain ⟨kvs, h1, r⟩ := h
  exact ⟨kvs, s _ _ h1, r⟩
theorem SlipsAt.mod {H H' : Hp} {d S C : Addr} {ns : List Str} {sl : Str → Int} (h : SlipsAt H d ns sl) (s : Mod S C H H') (st : StOk H S C) : SlipsAt H' d ns sl := by
  obtain ⟨kvs, h1, r⟩ := h
  exact ⟨kvs, s.other st h1 (fun _ z => nomatch z), r⟩
theorem valV_mem {κ : Type} [DecidableEq κ] : ∀ {kvs : List (κ × V)} {k : κ}, k ∈ kvs.map (·.1) → ∃ v, valV kvs k = some v ∧ (k, v) ∈ kvs
  | [], _, h => nomatch h
  | (k0, v0) :: r, k, h => by
    by_cases e : k0 = k
    · subst e
      exact ⟨v0, valV_pos rfl, List.mem_cons_self⟩
    · rw [List.map_cons, List.mem_cons] at h
      rcases h with h | h
      · exact absurd h.symm e
      · obtain ⟨v, h1, h2⟩ := valV_mem h
        exact ⟨v, by rw [valV_neg e]; exact h1, List.mem_cons_of_mem _ h2⟩
theorem valV_none {κ : Type} [DecidableEq κ] : ∀ {kvs : List (κ × V)} {k : κ}, k ∉ kvs.map (·.1) → valV kvs k = none
  | [], _, _ => rfl
  | (k0, v0) :: r, k, h => by
    rw [List.map_cons, List.mem_cons, not_or] at h
    rw [valV_neg (fun e => h.1 e.symm)]
    exact valV_none h.2
theorem merge_new : ∀ (more kvs : List (Key × V)), ((kvs ++ more).map (·.1)).Nodup → mergeK kvs more = kvs ++ more
  | [], kvs, _ => by rw [List.append_nil]; rfl
  | (k, v) :: r, kvs, h => by
    show mergeK (putK kvs k v) r = _
    have hk : k ∉ kvs.map (·.1) := fun hm => by
      rw [List.map_append, List.nodup_append] at h
      exact h.2.2 k hm k (by rw [List.map_cons]; exact List.mem_cons_self) rfl
    have e1 : kvs ++ (k, v) :: r = (kvs ++ [(k, v)]) ++ r := by rw [List.append_assoc]; rfl
    rw [putK_new v (valV_none hk), e1]
    exact merge_new r _ (by rw [← e1]; exact h)
theorem put_old_len {κ : Type} [DecidableEq κ] {kvs : List (κ × V)} {k : κ} {x v : V} (h : valV kvs k = some x) : (putK kvs k v).length = kvs.length ∧ (putK kvs k v).map (·.1) = kvs.map (·.1) := by
  have a : (kvs.any fun kv => decide (kv.1 = k)) = true := by rw [valV_any, h]; rfl
  unfold putK
  rw [if_pos a]
  refine ⟨List.length_map _, ?_⟩
  rw [List.map_map]
  refine List.map_congr_left fun p _ => ?_
  show (if p.1 = k then (p.1, v) else p).1 = p.1
  split <;> rfl
def setSl (sl : Str → Int) (n : Str) (z : Int) : Str → Int := fun x => if x = n then z else sl x
theorem SlipsAt.put {H : Hp} {d : Addr} {ns : List Str} {sl : Str → Int} {kvs : List (Key × V)} {n : Str} {z : Int} (hl : kvs.length = ns.length) (hn : (kvs.map (·.1)).Nodup) (hv : ∀ n ∈ ns, valV kvs (Sum.inr n : Key) = some (.int (sl n))) (hm : n ∈ ns) :
    SlipsAt (upd H d (.dK (putK kvs (Sum.inr n : Key) (.int z)))) d ns (setSl sl n z) := by
  have q := put_old_len (v := .int z) (hv n hm)
  refine ⟨_, upd_same, q.1.trans hl, by rw [q.2]; exact hn, fun m hmm => ?_⟩
  rw [valV_put]
  unfold setSl
  by_cases e : m = n
  · rw [if_pos (congrArg Sum.inr e), if_pos e]
  · rw [if_neg (fun h => e (Sum.inr.inj h)), if_neg e]
    exact hv m hmm
/-! ### rounds -/
def nexts (sl : Str → Int) : Nat → Str → List Str → List Str
  | 0, _, _ => []
  | n + 1, g, row => row.getD (sl g % (row.length : Int)).toNat Str.empty :: nexts sl n (row.getD (sl g % (row.length : Int)).toNat Str.empty) (row.drop ((sl g % (row.length : Int)).toNat + 1) ++ row.take (sl g % (row.length : Int)).toNat)
/-- those behind b, round and round, without b -/
def behind (ns : List Str) (b : Str) : List Str := ns.drop (ns.idxOf b + 1) ++ ns.take (ns.idxOf b)
def orderOf (ns : List Str) (sl : Str → Int) (b : Str) : List Str := b :: nexts sl (ns.length - 1) b (behind ns b)
theorem idx_lt {ns : List Str} {b : Str} (h : b ∈ ns) : ns.idxOf b < ns.length := List.idxOf_lt_length_iff.mpr h
theorem idx_at {ns : List Str} {b : Str} (h : b ∈ ns) : ns[ns.idxOf b]? = some b := by
  rw [List.getElem?_eq_getElem (idx_lt h), List.getElem_idxOf]
theorem idx_first {b : Str} : ∀ {ns : List Str} {m : Nat}, m < ns.idxOf b → ns[m]? ≠ some b
  | [], m, h => by simp at h
  | x :: r, m, h => by
    rw [List.idxOf_cons] at h
    by_cases e : x = b
    · rw [show (x == b) = true from beq_iff_eq.mpr e] at h
      exact absurd h (Nat.not_lt_zero _)
    · rw [show (x == b) = false from beq_eq_false_iff_ne.mpr e] at h
      cases m with
      | zero =>
        intro q
        exact e (Option.some.inj q)
      | succ m =>
        exact idx_first (ns := r) (Nat.lt_of_succ_lt_succ h)
theorem behind_len {ns : List Str} {b : Str} (h : b ∈ ns) : (behind ns b).length = ns.length - 1 := by
  have := idx_lt h
  unfold behind
  rw [List.length_append, List.length_drop, List.length_take]
  omega
/-- at the place that the slip leaves -/
theorem spot {row : List Str} (z : Int) (h : row ≠ []) : ∃ j, z % (row.length : Int) = ((j : Nat) : Int) ∧ j < row.length ∧ (z % (row.length : Int)).toNat = j ∧ row[j]? = some (row.getD j Str.empty) := by
  have hp := List.length_pos_iff.mpr h
  have h0 := Int.emod_nonneg z (show (row.length : Int) ≠ 0 by omega)
  have h1 := Int.emod_lt_of_pos z (show (0 : Int) < (row.length : Int) by omega)
  obtain ⟨j, hj⟩ := Int.eq_ofNat_of_zero_le h0
  refine ⟨j, hj, by omega, by omega, ?_⟩
  rw [List.getD_eq_getElem?_getD, List.getElem?_eq_getElem (by omega)]
  rfl
theorem nexts_step {sl : Str → Int} {n j : Nat} {g : Str} {row : List Str} (hj : (sl g % (row.length : Int)).toNat = j) : nexts sl (n + 1) g row = row.getD j Str.empty :: nexts sl n (row.getD j Str.empty) (row.drop (j + 1) ++ row.take j) := by
  subst hj
  rfl
theorem cut_len {row : List Str} {j : Nat} (h : j < row.length) : (row.drop (j + 1) ++ row.take j).length = row.length - 1 := by
  rw [List.length_append, List.length_drop, List.length_take]
  omega
/-- all of them, from behind x on, x itself last -/
def rot (ns : List Str) (x : Str) : List Str := ns.drop (ns.idxOf x + 1) ++ ns.take (ns.idxOf x + 1)
theorem idx_mid {x : Str} : ∀ {U : List Str} (V : List Str), x ∉ U → (U ++ x :: V).idxOf x = U.length
  | [], V, _ => by rw [List.nil_append, List.idxOf_cons, show (x == x) = true from beq_self_eq_true x]; rfl
  | u :: U, V, h => by
    rw [List.mem_cons, not_or] at h
    rw [List.cons_append, List.idxOf_cons, show (u == x) = false from beq_eq_false_iff_ne.mpr fun e => h.1 e.symm, List.length_cons]
    show (U ++ x :: V).idxOf x + 1 = _
    rw [idx_mid V h.2]
theorem rot_mid {U V : List Str} {x : Str} (h : x ∉ U) : rot (U ++ x :: V) x = V ++ U ++ [x] := by
  unfold rot
  have e : U ++ x :: V = (U ++ [x]) ++ V := by rw [List.append_assoc]; rfl
  have l : U.length + 1 = (U ++ [x]).length := by rw [List.length_append]; rfl
  rw [idx_mid V h, e, l, List.drop_left, List.take_left, List.append_assoc]
theorem behind_mid {U V : List Str} {x : Str} (h : x ∉ U) : behind (U ++ x :: V) x = V ++ U := by
  unfold behind
  have e : U ++ x :: V = (U ++ [x]) ++ V := by rw [List.append_assoc]; rfl
  have l : U.length + 1 = (U ++ [x]).length := by rw [List.length_append]; rfl
  rw [idx_mid V h, List.take_left, e, l, List.drop_left]
theorem nd_mid {U V : List Str} {x : Str} (h : (U ++ x :: V).Nodup) : x ∉ U ∧ x ∉ V := by
  rw [List.nodup_append, List.nodup_cons] at h
  exact ⟨fun hm => h.2.2 x hm x List.mem_cons_self rfl, h.2.1.1⟩
/-- counting on: from behind g to behind x -/
theorem rot_on {ns : List Str} {g x : Str} {A B : List Str} (hn : ns.Nodup) (hg : g ∈ ns) (e : rot ns g = A ++ x :: B) : rot ns x = B ++ A ++ [x] := by
  obtain ⟨U, V, rfl⟩ := List.append_of_mem hg
  obtain ⟨hU, hV⟩ := nd_mid hn
  rw [rot_mid hU] at e
  have hnr : (V ++ U ++ [g]).Nodup := by
    have p : (V ++ U ++ [g]).Perm (U ++ g :: V) := by
      rw [List.append_assoc]
      refine List.perm_append_comm.trans ?_
      rw [List.append_assoc]
      exact .refl _
    exact p.nodup_iff.mpr hn
  have hx : x ∈ V ++ U ++ [g] := by rw [e]; exact List.mem_append_right _ List.mem_cons_self
  have uniq : ∀ {A' B' : List Str}, V ++ U ++ [g] = A' ++ x :: B' → A' = A ∧ B' = B := fun {A' B'} e' => by
    have h1 := nd_mid (e ▸ hnr)
    have h2 := nd_mid (e' ▸ hnr)
    have e2 : A' ++ x :: B' = A ++ x :: B := e'.symm.trans e
    have l : A'.length = A.length := by
      have i1 := idx_mid B' h2.1
      have i2 := idx_mid B h1.1
      rw [← i1, ← i2, e2]
    have := List.append_inj e2 l
    exact ⟨this.1, (List.cons.inj this.2).2⟩
  rw [List.append_assoc, List.mem_append] at hx
  rcases hx with hx | hx
  · obtain ⟨V1, V2, rfl⟩ := List.append_of_mem hx
    obtain ⟨rfl, rfl⟩ := uniq (A' := V1) (B' := V2 ++ U ++ [g]) (by simp)
    have hx1 : x ∉ U ++ g :: V1 := by
      have : (U ++ g :: (V1 ++ x :: V2)) = (U ++ g :: V1) ++ x :: V2 := by simp
      rw [this] at hn
      exact (nd_mid hn).1
    have : U ++ g :: (V1 ++ x :: V2) = (U ++ g :: V1) ++ x :: V2 := by simp
    rw [this, rot_mid hx1]
    simp
  · rw [List.mem_append, List.mem_singleton] at hx
    rcases hx with hx | rfl
    · obtain ⟨U1, U2, rfl⟩ := List.append_of_mem hx
      obtain ⟨rfl, rfl⟩ := uniq (A' := V ++ U1) (B' := U2 ++ [g]) (by simp)
      have this : U1 ++ x :: U2 ++ g :: V = U1 ++ x :: (U2 ++ g :: V) := by simp
      rw [this] at hn ⊢
      rw [rot_mid (nd_mid hn).1]
      simp
    · obtain ⟨rfl, rfl⟩ := uniq (A' := V ++ U) (B' := []) rfl
      rw [rot_mid hU]
      simp
/-- who still sits, listed from behind the latest goer: the shrinking row -/
def sitting (ns goers : List Str) (g : Str) : List Str := (rot ns g).filter fun x => !decide (x ∈ goers)
theorem sitting_first {ns : List Str} {b : Str} (hn : ns.Nodup) (hb : b ∈ ns) : sitting ns [b] b = behind ns b := by
  obtain ⟨U, V, rfl⟩ := List.append_of_mem hb
  obtain ⟨hU, hV⟩ := nd_mid hn
  unfold sitting
  rw [rot_mid hU, behind_mid hU, List.filter_append, List.filter_eq_self.mpr]
  · simp
  · intro x hx
    have : x ≠ b := fun e => by
      rw [e] at hx
      rcases List.mem_append.mp hx with hx | hx
      · exact hV hx
      · exact hU hx
    simp [this]
theorem sitting_next {ns goers : List Str} {g : Str} {j : Nat} (hn : ns.Nodup) (hg : g ∈ ns) (hj : j < (sitting ns goers g).length) :
    sitting ns (goers ++ [(sitting ns goers g).getD j Str.empty]) ((sitting ns goers g).getD j Str.empty) = (sitting ns goers g).drop (j + 1) ++ (sitting ns goers g).take j ∧ (sitting ns goers g).getD j Str.empty ∈ ns := by
  generalize hx : (sitting ns goers g).getD j Str.empty = x
  have hget : (sitting ns goers g)[j]? = some x := by
    rw [← hx, List.getD_eq_getElem?_getD, List.getElem?_eq_getElem hj]
    rfl
  have hsplit : sitting ns goers g = (sitting ns goers g).take j ++ x :: (sitting ns goers g).drop (j + 1) := by
    have e1 := List.getElem_of_getElem? hget
    obtain ⟨h1, e1⟩ := e1
    rw [← e1, List.getElem_cons_drop, List.take_append_drop]
  unfold sitting at hsplit ⊢
  obtain ⟨A, B, eAB, eA, eB⟩ : ∃ A B, rot ns g = A ++ x :: B ∧ A.filter (fun y => !decide (y ∈ goers)) = ((rot ns g).filter fun y => !decide (y ∈ goers)).take j ∧ B.filter (fun y => !decide (y ∈ goers)) = ((rot ns g).filter fun y => !decide (y ∈ goers)).drop (j + 1) := by
    obtain ⟨A, R, e1, e2, e3⟩ := List.filter_eq_append_iff.mp hsplit
    obtain ⟨A1, B1, f1, f2, f3, f4⟩ := List.filter_eq_cons_iff.mp e3
    refine ⟨A ++ A1, B1, by rw [e1, f1, List.append_assoc], ?_, f4⟩
    rw [List.filter_append, e2, List.filter_eq_nil_iff.mpr f2, List.append_nil]
  have hr := rot_on hn hg eAB
  have hxn : x ∈ ns := by
    obtain ⟨U, V, rfl⟩ := List.append_of_mem hg
    obtain ⟨hU, hV⟩ := nd_mid hn
    rw [rot_mid hU] at eAB
    have : x ∈ V ++ U ++ [g] := by rw [eAB]; exact List.mem_append_right _ List.mem_cons_self
    simp only [List.mem_append, List.mem_singleton, List.mem_cons, List.not_mem_nil, or_false] at this ⊢
    rcases this with (h | h) | h
    · exact .inr (.inr h)
    · exact .inl h
    · exact .inr (.inl h)
  have hnd : (A ++ x :: B).Nodup := by
    rw [← eAB]
    obtain ⟨U, V, rfl⟩ := List.append_of_mem hg
    obtain ⟨hU, hV⟩ := nd_mid hn
    rw [rot_mid hU]
    have p : (V ++ U ++ [g]).Perm (U ++ g :: V) := by
      rw [List.append_assoc]
      refine List.perm_append_comm.trans ?_
      rw [List.append_assoc]
      exact .refl _
    exact p.nodup_iff.mpr hn
  obtain ⟨hA, hB⟩ := nd_mid hnd
  refine ⟨?_, hxn⟩
  rw [hr, List.filter_append, List.filter_append, ← eA, ← eB]
  have drop1 : ∀ L : List Str, x ∉ L → L.filter (fun y => !decide (y ∈ goers ++ [x])) = L.filter fun y => !decide (y ∈ goers) := fun L hL => by
    refine List.filter_congr fun y hy => ?_
    have : y ≠ x := fun e => hL (e ▸ hy)
    simp [this]
  rw [drop1 B hB, drop1 A hA]
  simp
end GL
namespace GL
open PySem PySem.Spec PyProof.Rows L2
theorem Paired.mapF {α β : Type} {F G : α → β → Prop} (h : ∀ a b, F a b → G a b) : ∀ {xs : List α} {ys : List β}, Paired F xs ys → Paired G xs ys
  | _, _, .nil => .nil
  | _, _, .cons a r => .cons (h _ _ a) (Paired.mapF h r)
def slOf (kvs : List (Key × V)) (n : Str) : Int := match valV kvs (Sum.inr n : Key) with
  | some (.int z) => z
  | _ => 0
def spSlips : Sp := fun vs H Q _ => ∃ (S C a : Addr) (ns : List Str), vs = [.ref S, .ref a] ∧ StOk H S C ∧ H a = some (.lst (ns.map V.str)) ∧ ns.length ≤ 100 ∧ ns.Nodup ∧ (∀ y ∈ ns, PyData.strOk y = true) ∧
  ∀ H' d sl, Mod S C H H' → StOk H' S C → H d = none → SlipsAt H' d ns sl → (∀ n ∈ ns, Int.natAbs (sl n) < 10 ^ 58) → Q (.ref d) H'
def spOrder : Sp := fun vs H Q _ => ∃ (a d : Addr) (ns : List Str) (sl : Str → Int) (b : Str), vs = [.ref a, .ref d, .str b] ∧ H a = some (.lst (ns.map V.str)) ∧ SlipsAt H d ns sl ∧ ns.length ≤ 100 ∧ ns.Nodup ∧ (∀ y ∈ ns, PyData.strOk y = true) ∧ b ∈ ns ∧
  ∀ H' t, Same H H' → H t = none → H' t = some (.tup ((orderOf ns sl b).map V.str)) → Q (.ref t) H'
theorem cut_drop_s (ns : List Str) (j : Nat) : cutV (ns.map V.str) (some ((j : Int) + 1)) none = (ns.drop (j + 1)).map V.str := by
  rw [show (some ((j : Int) + 1)) = some ((j + 1 : Nat) : Int) from rfl, cut_drop, List.map_drop]
theorem cut_take_s (ns : List Str) (j : Nat) : cutV (ns.map V.str) none (some (j : Int)) = (ns.take j).map V.str := by
  rw [cut_take, List.map_take]
theorem last_s (found : List Str) (g : Str) : atI ((found ++ [g]).map V.str) (-1) = some (.str g) := by
  rw [List.map_append]
  exact atI_last _ _
theorem len_s {ns : List Str} (h : ns.length ≤ 1000) : (ns.map V.str).length ≤ sizeLine := by
  rw [List.length_map]
  exact small_sz (by omega)
/-! ### rings -/
structure GoodNs (ns : List Str) : Prop where
  two : 2 ≤ ns.length
  twelve : ns.length ≤ 12
  nd : ns.Nodup
  ok : ∀ y ∈ ns, NameOk y
theorem GoodNs.str {ns : List Str} (g : GoodNs ns) : ∀ y ∈ ns, PyData.strOk y = true := fun y hy => (g.ok y hy).str
/-- the attributes as __init__ stores them -/
def rflds (nl sd : Addr) : List (Str × V) := putF "_slips" (.ref sd) (putF "_names" (.ref nl) [])
theorem rk : ¬ (("_names" : Str) = "_slips") := by decide +kernel
theorem rflds_names (nl sd : Addr) : (rflds nl sd).lookup ("_names" : Str) = some (.ref nl) := by
  unfold rflds
  rw [lookup_putF, if_neg rk, lookup_putF, if_pos rfl]
theorem rflds_slips (nl sd : Addr) : (rflds nl sd).lookup ("_slips" : Str) = some (.ref sd) := by
  unfold rflds
  rw [lookup_putF, if_pos rfl]
theorem rflds_no (nl sd : Addr) {m : Str} (h1 : ¬ m = "_names") (h2 : ¬ m = "_slips") : (rflds nl sd).lookup m = none := by
  unfold rflds
  rw [lookup_putF, if_neg h2, lookup_putF, if_neg h1]
  all_goals rfl
structure RingAt (aR : Addr) (H : Hp) (p : Addr) (ns : List Str) (sl : Str → Int) : Prop where
  ex : ∃ dx nl sd, H p = some (.ins aR dx (rflds nl sd)) ∧ H nl = some (.lst (ns.map V.str)) ∧ SlipsAt H sd ns sl
  good : GoodNs ns
theorem RingAt.same {aR p : Addr} {H H' : Hp} {ns : List Str} {sl : Str → Int} (h : RingAt aR H p ns sl) (s : Same H H') : RingAt aR H' p ns sl := by
  obtain ⟨⟨dx, nl, sd, h1, h2, h3⟩, g⟩ := h
  exact ⟨⟨dx, nl, sd, s _ _ h1, s _ _ h2, h3.same s⟩, g⟩
theorem RingAt.mod {aR p S C : Addr} {H H' : Hp} {ns : List Str} {sl : Str → Int} (h : RingAt aR H p ns sl) (s : Mod S C H H') (st : StOk H S C) : RingAt aR H' p ns sl := by
  obtain ⟨⟨dx, nl, sd, h1, h2, h3⟩, g⟩ := h
  exact ⟨⟨dx, nl, sd, s.other st h1 (fun _ z => nomatch z), s.strs st h2, h3.mod s st⟩, g⟩
def spIsName : Sp := fun vs H Q _ => ∃ z : Str, vs = [.str z] ∧ NameOk z ∧ ∀ H', Same H H' → Q (.bl true) H'
def spIsNumber : Sp := fun vs H Q _ => ∃ z : Int, vs = [.int z] ∧ Q (.bl true) H
/-- a list, or a tuple whose object is known -/
def SqAt (b : Bool) (H : Hp) (a : Addr) (xs : List V) : Prop := match b with
  | true => TupF H a xs
  | false => H a = some (.lst xs)
theorem SqAt.same {b : Bool} {H H' : Hp} {a : Addr} {xs : List V} (h : SqAt b H a xs) (s : Same H H') : SqAt b H' a xs := match b, h with
  | true, h => TupF.same h s
  | false, h => s _ _ h
theorem SqAt.seq {K : PySem.W.Frag} {b : Bool} {H : Hp} {a : Addr} {xs : List V} (h : SqAt b H a xs) : SqL K H a xs ∨ SqT K H a xs := match b, h with
  | true, h => .inr (TupF.sq h)
  | false, h => .inl (SqL.of h)
theorem SqAt.l {K : PySem.W.Frag} {H : Hp} {a : Addr} {xs : List V} (h : SqAt false H a xs) : SqL K H a xs := SqL.of (show H a = some (.lst xs) from h)
theorem SqAt.t {K : PySem.W.Frag} {H : Hp} {a : Addr} {xs : List V} (h : SqAt true H a xs) : SqT K H a xs := TupF.sq h
theorem SqAt.tyl {K : PySem.W.Frag} {H : Hp} {a : Addr} {xs : List V} (h : SqAt false H a xs) : TyX K H (.ref a) (.type "list") := .base (.lst (show H a = some (.lst xs) from h))
theorem SqAt.tyt {K : PySem.W.Frag} {H : Hp} {a : Addr} {xs : List V} (h : SqAt true H a xs) : TyX K H (.ref a) (.type "tuple") := let ⟨_, _, e⟩ := h; .fTuple e
/-- a list or a tuple, to be read -/
def SeqR (H : Hp) (a : Addr) (xs : List V) : Prop := H a = some (.lst xs) ∨ H a = some (.tup xs) ∨ TupF H a xs
theorem SeqR.same {H H' : Hp} {a : Addr} {xs : List V} (h : SeqR H a xs) (s : Same H H') : SeqR H' a xs := h.imp (s _ _ ·) (Or.imp (s _ _ ·) (·.same s))
theorem SeqR.seq {K : PySem.W.Frag} {H : Hp} {a : Addr} {xs : List V} (h : SeqR H a xs) : SqL K H a xs ∨ SqT K H a xs := h.imp SqL.of (·.elim SqT.of TupF.sq)
theorem SqAt.rd {b : Bool} {H : Hp} {a : Addr} {xs : List V} (h : SqAt b H a xs) : SeqR H a xs := match b, h with
  | true, h => .inr (.inr h)
  | false, h => .inl h
theorem TupF.mod {S C p : Addr} {H H' : Hp} {xs : List V} (m : TupF H p xs) (s : Mod S C H H') (st : StOk H S C) : TupF H' p xs := let ⟨o, d, e⟩ := m; ⟨o, d, s.other st e (fun _ z => nomatch z)⟩
theorem slF {K : PySem.W.Frag} {H : Hp} {a : Addr} {xs : List V} {lo hi : Option Int} {Q : VK} (ha : TupF H a xs) (q : ∀ H' p, Same H H' → TupF H' p (cutV xs lo hi) → Q (.ref p) H') : rSlF K (.ref a) lo hi H Q := by
  refine ⟨a, xs, rfl, ha.sq, fun ⟨h1, h2⟩ => q H a (fun _ _ h => h) ?_, fun _ p o np e => q _ p (same_new np) ⟨o, e, upd_same⟩⟩
  unfold cutV
  rw [h1, h2, List.drop_zero, Nat.sub_zero, List.take_length]
  exact ha
theorem slF' {K : PySem.W.Frag} {H : Hp} {a : Addr} {xs : List V} {lo hi : Option Int} {Q : VK} (ha : SqT K H a xs) (hw : ¬ (HT.sIx xs.length 0 lo = 0 ∧ HT.sIx xs.length xs.length hi = xs.length)) (q : ∀ H' p, Same H H' → H p = none → TupF H' p (cutV xs lo hi) → Q (.ref p) H') : rSlF K (.ref a) lo hi H Q :=
  ⟨a, xs, rfl, ha, fun e => absurd e hw, fun _ p o np e => q _ p (same_new np) np ⟨o, e, upd_same⟩⟩
theorem slA {K : PySem.W.Frag} {H : Hp} {a : Addr} {xs : List V} {lo hi : Option Int} {Q : VK} (ha : H a = some (.tup xs)) (q : ∀ H' p, Same H H' → H' p = some (.tup (cutV xs lo hi)) → Q (.ref p) H') : rSlA K (.ref a) lo hi H Q := by
  refine ⟨a, xs, rfl, SqT.of ha, fun ⟨h1, h2⟩ => q H a (fun _ _ h => h) ?_, fun _ p np => q _ p (same_new np) upd_same⟩
  rw [ha]
  unfold cutV
  rw [h1, h2, List.drop_zero, Nat.sub_zero, List.take_length]
theorem catA {K : PySem.W.Frag} {H : Hp} {a b : Addr} {xs ys : List V} {Q : VK} (ha : H a = some (.tup xs)) (hb : H b = some (.tup ys)) (hl : xs.length + ys.length ≤ sizeLine) (q : ∀ H' p, Same H H' → H' p = some (.tup (xs ++ ys)) → Q (.ref p) H') : rCatA K (.ref a) (.ref b) H Q := by
  refine ⟨a, b, xs, ys, rfl, rfl, SqT.of ha, SqT.of hb, hl, fun e => q H b (fun _ _ h => h) ?_, fun _ e => q H a (fun _ _ h => h) ?_, fun _ _ p np => q _ p (same_new np) upd_same⟩
  · rw [hb, e]; rfl
  · rw [ha, e, List.append_nil]
theorem catF {K : PySem.W.Frag} {H : Hp} {a b : Addr} {xs ys : List V} {Q : VK} (ha : TupF H a xs) (hb : TupF H b ys) (hl : xs.length + ys.length ≤ sizeLine) (q : ∀ H' p, Same H H' → TupF H' p (xs ++ ys) → Q (.ref p) H') : rCatF K (.ref a) (.ref b) H Q := by
  refine ⟨a, b, xs, ys, rfl, rfl, ha.sq, hb.sq, hl, fun e => q H b (fun _ _ h => h) ?_, fun _ e => q H a (fun _ _ h => h) ?_, fun _ _ p o np d => q _ p (same_new np) ⟨o, d, upd_same⟩⟩
  · rw [e]; exact hb
  · rw [e, List.append_nil]; exact ha
theorem ixSeq {K : PySem.W.Frag} {H : Hp} {a : Addr} {xs : List V} {i : Int} {v : V} {Q : VK} (ha : SeqR H a xs) (e : atI xs i = some v) (q : Q v H) : rIx K (.ref a) (.int i) H Q :=
  (ha.seq (K := K)).elim (fun h => .inl ⟨a, xs, i, v, rfl, rfl, h, e, q⟩) (fun h => .inr (.inl ⟨a, xs, i, v, rfl, rfl, h, e, q⟩))
def spIsNames : Sp := fun vs H Q _ => ∃ (c : Bool) (a : Addr) (ns : List Str), vs = [.ref a] ∧ SqAt c H a (ns.map V.str) ∧ GoodNs ns ∧ ∀ H', Same H H' → Q (.bl true) H'
def spChkNames : Sp := fun vs H Q _ => ∃ (c : Bool) (a : Addr) (ns : List Str), vs = [.ref a] ∧ SqAt c H a (ns.map V.str) ∧ GoodNs ns ∧ ∀ H', Same H H' → Q .non H'
def spChkName : Sp := fun vs H Q _ => ∃ (c : Bool) (a : Addr) (ns : List Str) (x : Str), vs = [.ref a, .str x] ∧ SqAt c H a (ns.map V.str) ∧ x ∈ ns ∧ Q .non H
def spIsSlips : Sp := fun vs H Q _ => ∃ (a d : Addr) (ns : List Str) (sl : Str → Int), vs = [.ref a, .ref d] ∧ H a = some (.lst (ns.map V.str)) ∧ SlipsAt H d ns sl ∧ ns.length ≤ 100 ∧ ∀ H', Same H H' → Q (.bl true) H'
def spBehind : Sp := fun vs H Q _ => ∃ (c : Bool) (a : Addr) (ns : List Str) (x : Str), vs = [.ref a, .str x] ∧ SqAt c H a (ns.map V.str) ∧ ns.length ≤ 100 ∧ x ∈ ns ∧ ∀ H' p, Same H H' → SqAt c H' p ((rot ns x).map V.str) → Q (.ref p) H'
def spSit : Sp := fun vs H Q _ => ∃ (c : Bool) (a g : Addr) (ns found : List Str) (x : Str), vs = [.ref a, .ref g] ∧ SqAt c H a (ns.map V.str) ∧ SeqR H g ((found ++ [x]).map V.str) ∧ ns.length ≤ 100 ∧ x ∈ ns ∧
  ∀ H' p, Same H H' → H p = none → H' p = some (.lst ((sitting ns (found ++ [x]) x).map V.str)) → Q (.ref p) H'
def spInit (aR : Addr) : Sp := fun vs H Q _ => ∃ (p dx a d : Addr) (ns : List Str) (sl : Str → Int), vs = [.ref p, .ref a, .ref d] ∧ H p = some (.ins aR dx []) ∧ H a = some (.lst (ns.map V.str)) ∧ SlipsAt H d ns sl ∧ GoodNs ns ∧
  ∀ H', (∀ b o, H b = some o → b ≠ p → H' b = some o) → RingAt aR H' p ns sl → Q .non H'
def spCounted (aR : Addr) : Sp := fun vs H Q _ => ∃ (p r : Addr) (ns row : List Str) (sl : Str → Int) (g : Str), vs = [.ref p, .str g, .ref r] ∧ RingAt aR H p ns sl ∧ g ∈ ns ∧ H r = some (.lst (row.map V.str)) ∧ row ≠ [] ∧ row.length ≤ 100 ∧
  Q (.str (row.getD (sl g % (row.length : Int)).toNat Str.empty)) H
def spROrder (aR : Addr) : Sp := fun vs H Q _ => ∃ (p : Addr) (ns : List Str) (sl : Str → Int) (b : Str), vs = [.ref p, .str b] ∧ RingAt aR H p ns sl ∧ b ∈ ns ∧ ∀ H' t, Same H H' → H t = none → H' t = some (.tup ((orderOf ns sl b).map V.str)) → Q (.ref t) H'
def spWith (aR : Addr) : Sp := fun vs H Q _ => ∃ (p : Addr) (ns : List Str) (sl : Str → Int) (n : Str) (z : Int), vs = [.ref p, .str n, .int z] ∧ RingAt aR H p ns sl ∧ n ∈ ns ∧ ∀ H' q, Same H H' → H q = none → RingAt aR H' q ns (setSl sl n z) → Q (.ref q) H'
theorem rot_len {ns : List Str} {x : Str} : (rot ns x).length = ns.length := by
  unfold rot
  rw [List.length_append, List.length_drop, List.length_take]
  omega
theorem sitting_len {ns goers : List Str} {x : Str} : (sitting ns goers x).length ≤ ns.length := by
  unfold sitting
  exact Nat.le_trans (List.length_filter_le _ _) (Nat.le_of_eq rot_len)
theorem all_true {α : Type} (f : α → Bool) : ∀ xs : List α, (∀ x ∈ xs, f x = true) → (xs.map f).all id = true
  | [], _ => rfl
  | x :: r, h => by
    rw [List.map_cons, List.all_cons, h x List.mem_cons_self, all_true f r fun y hy => h y (List.mem_cons_of_mem _ hy)]
    rfl
theorem all_rep (n : Nat) : (List.replicate n true).all id = true := by
  rw [List.all_eq_true]
  intro x hx
  exact List.eq_of_mem_replicate hx
theorem nexts_mem {sl : Str → Int} : ∀ (n : Nat) (g : Str) (row : List Str), row.length = n → ∀ y ∈ nexts sl n g row, y ∈ row
  | 0, _, _, _, y, h => nomatch h
  | n + 1, g, row, hl, y, h => by
    have hne : row ≠ [] := fun e => by rw [e] at hl; cases hl
    obtain ⟨j, ej, hj, hjn, hget⟩ := spot (sl g) hne
    rw [nexts_step hjn] at h
    rcases List.mem_cons.mp h with rfl | h
    · exact List.mem_of_getElem? hget
    · have := nexts_mem n _ _ (by rw [cut_len hj]; omega) y h
      rcases List.mem_append.mp this with h | h
      · exact List.mem_of_mem_drop h
      · exact List.mem_of_mem_take h
theorem order_mem {ns : List Str} {sl : Str → Int} {b : Str} (hb : b ∈ ns) : ∀ y ∈ orderOf ns sl b, y ∈ ns := fun y hy => by
  rcases List.mem_cons.mp hy with rfl | hy
  · exact hb
  · have := nexts_mem _ b (behind ns b) (behind_len hb) y hy
    unfold behind at this
    rcases List.mem_append.mp this with h | h
    · exact List.mem_of_mem_drop h
    · exact List.mem_of_mem_take h
theorem GoodNs.ostr {ns : List Str} (g : GoodNs ns) {sl : Str → Int} {b : Str} (hb : b ∈ ns) : ∀ y ∈ orderOf ns sl b, PyData.strOk y = true := fun y hy => g.str y (order_mem hb y hy)
theorem RingAt.noM {aR p : Addr} {H : Hp} {ns : List Str} {sl : Str → Int} (h : RingAt aR H p ns sl) {m : Str} (h1 : ¬ m = "_names") (h2 : ¬ m = "_slips") : ∃ dx fs, H p = some (.ins aR dx fs) ∧ fs.lookup m = none := by
  obtain ⟨⟨dx, nl, sd, e, _⟩, _⟩ := h
  exact ⟨dx, _, e, rflds_no nl sd h1 h2⟩
end GL
/-! Who begins next; sorted lists of names. -/
namespace GL
open PySem PySem.Spec PyProof.Rows L2
def leS (a b : Str) : Prop := ltCps b.cps.toList a.cps.toList = false
theorem leS_iff {a b : Str} : leS a b ↔ a.cps.toList ≤ b.cps.toList := by
  unfold leS
  rw [ltCps_eq, decide_eq_false_iff_not, List.not_lt]
theorem str_ext {a b : Str} (h : a.cps.toList = b.cps.toList) : a = b := by
  cases a
  cases b
  exact congrArg Str.mk (Array.ext' h)
theorem rising_pair : ∀ (p : Str) (l : List Str), risingS p l = true → (p :: l).Pairwise leS
  | p, [], _ => List.pairwise_cons.mpr ⟨(fun _ h => nomatch h), List.Pairwise.nil⟩
  | p, x :: r, h => by
    have h' : (!ltCps x.cps.toList p.cps.toList && risingS x r) = true := h
    rw [Bool.and_eq_true, Bool.not_eq_true'] at h'
    have ih := rising_pair x r h'.2
    refine List.pairwise_cons.mpr ⟨fun y hy => ?_, ih⟩
    have px : leS p x := h'.1
    rcases List.mem_cons.mp hy with rfl | hy
    · exact px
    · have xy := (List.pairwise_cons.mp ih).1 y hy
      rw [leS_iff] at *
      exact List.le_trans px xy
theorem sorted_pair {l : List Str} (h : sortedS l = true) : l.Pairwise leS := by
  cases l with
  | nil => exact List.Pairwise.nil
  | cons x r => exact rising_pair x r h
theorem sorted_one {l m : List Str} (h1 : sortedS l = true) (h2 : sortedS m = true) (p : l.Perm m) : l = m :=
  List.Perm.eq_of_pairwise (le := leS) (fun a b _ _ x y => str_ext (List.le_antisymm (leS_iff.mp x) (leS_iff.mp y))) (sorted_pair h1) (sorted_pair h2) p
/-! ### the last one, and who begins next -/
theorem nexts_perm {sl : Str → Int} : ∀ (n : Nat) (g : Str) (row : List Str), row.length = n → (nexts sl n g row).Perm row
  | 0, g, row, h => by rw [List.eq_nil_of_length_eq_zero h]; exact .refl _
  | n + 1, g, row, h => by
    have hne : row ≠ [] := fun e => by rw [e] at h; cases h
    obtain ⟨j, ej, hj, hjn, hget⟩ := spot (sl g) hne
    rw [nexts_step hjn]
    have ih := nexts_perm (sl := sl) n (row.getD j Str.empty) (row.drop (j + 1) ++ row.take j) (by rw [cut_len hj]; omega)
    have e : row = row.take j ++ row.getD j Str.empty :: row.drop (j + 1) := by
      obtain ⟨h1, e1⟩ := List.getElem?_eq_some_iff.mp hget
      rw [← e1, List.getElem_cons_drop, List.take_append_drop]
    refine (ih.cons _).trans ?_
    refine ((List.perm_append_comm.cons _)).trans ?_
    refine List.perm_middle.symm.trans ?_
    rw [← e]
theorem behind_perm {ns : List Str} {b : Str} (hb : b ∈ ns) : (b :: behind ns b).Perm ns := by
  have e : ns = ns.take (ns.idxOf b) ++ b :: ns.drop (ns.idxOf b + 1) := by
    have h1 := idx_lt hb
    have h2 : ns[ns.idxOf b] = b := List.getElem_idxOf h1
    conv => rhs; rw [← h2]
    rw [h2, show b :: ns.drop (ns.idxOf b + 1) = ns.drop (ns.idxOf b) by rw [← List.getElem_cons_drop h1, h2], List.take_append_drop]
  unfold behind
  refine (List.perm_append_comm.cons _).trans ?_
  refine List.perm_middle.symm.trans ?_
  rw [← e]
theorem order_perm {ns : List Str} {sl : Str → Int} {b : Str} (hb : b ∈ ns) : (orderOf ns sl b).Perm ns :=
  ((nexts_perm _ b (behind ns b) (behind_len hb)).cons b).trans (behind_perm hb)
def lastOf (ns : List Str) (sl : Str → Int) (b : Str) : Str := (orderOf ns sl b).getLast (List.cons_ne_nil _ _)
theorem order_split (ns : List Str) (sl : Str → Int) (b : Str) : (orderOf ns sl b).dropLast ++ [lastOf ns sl b] = orderOf ns sl b := List.dropLast_concat_getLast _
theorem order_last (ns : List Str) (sl : Str → Int) (b : Str) : atI ((orderOf ns sl b).map V.str) (-1) = some (.str (lastOf ns sl b)) := by
  rw [← order_split]
  exact last_s _ _
theorem last_mem {ns : List Str} {sl : Str → Int} {b : Str} (hb : b ∈ ns) : lastOf ns sl b ∈ ns := order_mem hb _ (List.getLast_mem _)
def ledOf (ns : List Str) (x : Str) (z : Int) : Str := (rot ns x).getD (z % (ns.length : Int)).toNat Str.empty
def nextOf (ns : List Str) (sl : Str → Int) (b : Str) : Str := ledOf ns (lastOf ns sl b) (sl (lastOf ns sl b))
theorem nexts_off {sl sl' : Str → Int} {x : Str} (hs : ∀ y, y ≠ x → sl' y = sl y) : ∀ (n : Nat) (g : Str) (row : List Str), x ∉ (g :: nexts sl n g row).dropLast → nexts sl' n g row = nexts sl n g row
  | 0, g, row, _ => rfl
  | n + 1, g, row, h => by
    have e : nexts sl (n + 1) g row = row.getD (sl g % (row.length : Int)).toNat Str.empty :: nexts sl n (row.getD (sl g % (row.length : Int)).toNat Str.empty) (row.drop ((sl g % (row.length : Int)).toNat + 1) ++ row.take (sl g % (row.length : Int)).toNat) := rfl
    rw [e, List.dropLast_cons₂, List.mem_cons, not_or] at h
    have hg := hs g (fun z => h.1 z.symm)
    rw [e, nexts_step (sl := sl') (j := (sl g % (row.length : Int)).toNat) (by rw [hg]), nexts_off hs n _ _ h.2]
theorem order_off {ns : List Str} {sl sl' : Str → Int} {b : Str} (hn : ns.Nodup) (hb : b ∈ ns) (hs : ∀ y, y ≠ lastOf ns sl b → sl' y = sl y) : orderOf ns sl' b = orderOf ns sl b := by
  have nd : (orderOf ns sl b).Nodup := (order_perm hb).nodup_iff.mpr hn
  rw [← order_split, List.nodup_append] at nd
  have : lastOf ns sl b ∉ (orderOf ns sl b).dropLast := fun h => nd.2.2 _ h _ (List.mem_singleton.mpr rfl) rfl
  unfold orderOf at this ⊢
  rw [nexts_off hs _ _ _ this]
theorem last_off {ns : List Str} {sl sl' : Str → Int} {b : Str} (hn : ns.Nodup) (hb : b ∈ ns) (hs : ∀ y, y ≠ lastOf ns sl b → sl' y = sl y) : lastOf ns sl' b = lastOf ns sl b := by
  unfold lastOf
  have e := order_off hn hb hs
  simp only [e]
theorem setSl_off {sl : Str → Int} {x : Str} {z : Int} : ∀ y, y ≠ x → setSl sl x z y = sl y := fun y h => if_neg h
theorem setSl_at {sl : Str → Int} {x : Str} {z : Int} : setSl sl x z x = z := if_pos rfl
theorem next_set {ns : List Str} {sl : Str → Int} {b : Str} {z : Int} (hn : ns.Nodup) (hb : b ∈ ns) : nextOf ns (setSl sl (lastOf ns sl b) z) b = ledOf ns (lastOf ns sl b) z := by
  unfold nextOf
  rw [last_off hn hb setSl_off, setSl_at]
theorem rot_at {ns : List Str} {x : Str} {j : Nat} (hx : x ∈ ns) (hj : j < ns.length) : (rot ns x)[j]? = ns[(ns.idxOf x + 1 + j) % ns.length]? := by
  have hi := idx_lt hx
  unfold rot
  by_cases h : j < ns.length - (ns.idxOf x + 1)
  · rw [List.getElem?_append_left (by rw [List.length_drop]; exact h), List.getElem?_drop, Nat.mod_eq_of_lt (by omega)]
  · rw [List.getElem?_append_right (by rw [List.length_drop]; omega), List.length_drop, List.getElem?_take, if_pos (by omega)]
    have : (ns.idxOf x + 1 + j) % ns.length = ns.idxOf x + 1 + j - ns.length := by
      rw [Nat.mod_eq_sub_mod (by omega), Nat.mod_eq_of_lt (by omega)]
    rw [this]
    congr 1
    omega
theorem led_at {ns : List Str} {x : Str} {z : Int} (hx : x ∈ ns) : ∃ k : Nat, z % (ns.length : Int) = (k : Int) ∧ k < ns.length ∧ ns[(ns.idxOf x + 1 + k) % ns.length]? = some (ledOf ns x z) := by
  have hi := idx_lt hx
  have h0 := Int.emod_nonneg z (show (ns.length : Int) ≠ 0 by omega)
  have h1 := Int.emod_lt_of_pos z (show (0 : Int) < (ns.length : Int) by omega)
  obtain ⟨k, hk⟩ := Int.eq_ofNat_of_zero_le h0
  refine ⟨k, hk, by omega, ?_⟩
  unfold ledOf
  rw [← rot_at hx (by omega), hk, Int.toNat_natCast, List.getD_eq_getElem?_getD, List.getElem?_eq_getElem (by rw [rot_len]; omega)]
  rfl
theorem led_range {ns : List Str} {x : Str} (hx : x ∈ ns) : ((List.range ns.length).map fun k => ledOf ns x ((k : Nat) : Int)) = rot ns x := by
  have hi := idx_lt hx
  refine List.ext_getElem? fun i => ?_
  by_cases h : i < ns.length
  · rw [List.getElem?_map, List.getElem?_range h]
    show some (ledOf ns x (i : Int)) = _
    unfold ledOf
    rw [Int.emod_eq_of_lt (by omega) (by omega), Int.toNat_natCast, List.getD_eq_getElem?_getD, List.getElem?_eq_getElem (by rw [rot_len]; exact h)]
    rfl
  · rw [List.getElem?_eq_none (by rw [List.length_map, List.length_range]; omega), List.getElem?_eq_none (by rw [rot_len]; omega)]
theorem rot_perm {ns : List Str} {x : Str} : (rot ns x).Perm ns := by
  unfold rot
  refine List.perm_append_comm.trans ?_
  rw [List.take_append_drop]
theorem rot_last {ns : List Str} {x : Str} (hx : x ∈ ns) : ∃ A, rot ns x = A ++ [x] := by
  refine ⟨ns.drop (ns.idxOf x + 1) ++ ns.take (ns.idxOf x), ?_⟩
  unfold rot
  rw [take_snoc (idx_at hx), List.append_assoc]
theorem led_mem {ns : List Str} {x : Str} {z : Int} (hx : x ∈ ns) : ledOf ns x z ∈ ns := by
  obtain ⟨k, _, _, h⟩ := led_at (z := z) hx
  exact List.mem_of_getElem? h
theorem next_mem {ns : List Str} {sl : Str → Int} {b : Str} (hb : b ∈ ns) : nextOf ns sl b ∈ ns := led_mem (last_mem hb)
/-! ### promises -/
def spNext (aR : Addr) : Sp := fun vs H Q _ => ∃ (p : Addr) (ns : List Str) (sl : Str → Int) (b : Str), vs = [.ref p, .str b] ∧ RingAt aR H p ns sl ∧ b ∈ ns ∧ ∀ H', Same H H' → Q (.str (nextOf ns sl b)) H'
def spSlipOf (aR : Addr) : Sp := fun vs H Q _ => ∃ (p : Addr) (ns : List Str) (sl : Str → Int) (b : Str), vs = [.ref p, .str b] ∧ RingAt aR H p ns sl ∧ b ∈ ns ∧ Q (.int (sl b)) H
def spSlipsOf (aR : Addr) : Sp := fun vs H Q _ => ∃ (p : Addr) (ns : List Str) (sl : Str → Int), vs = [.ref p] ∧ RingAt aR H p ns sl ∧ ∀ H' d, Same H H' → H d = none → SlipsAt H' d ns sl → Q (.ref d) H'
def spLed : Sp := fun vs H Q _ => ∃ (a : Addr) (ns : List Str) (x : Str) (z : Int), vs = [.ref a, .str x, .int z] ∧ H a = some (.lst (ns.map V.str)) ∧ ns.length ≤ 100 ∧ x ∈ ns ∧ Q (.str (ledOf ns x z)) H
end GL
/-! Orders and places: who sits, who goes at which place, the row of places, one to one. -/
namespace GL
open PySem PySem.Spec PyProof.Rows L2
theorem rotP_perm (ns : List Str) (x : Str) : (rot ns x).Perm ns := by
  unfold rot
  refine List.perm_append_comm.trans ?_
  rw [List.take_append_drop]
theorem sit_mem {ns found : List Str} {g y : Str} : y ∈ sitting ns found g ↔ y ∈ ns ∧ y ∉ found := by
  unfold sitting
  rw [List.mem_filter, (rotP_perm ns g).mem_iff]
  simp
theorem sit_nd {ns found : List Str} {g : Str} (hn : ns.Nodup) : (sitting ns found g).Nodup := by
  unfold sitting
  exact ((rotP_perm ns g).nodup_iff.mpr hn).filter _
theorem filt_len {L : List Str} (hn : L.Nodup) : ∀ {found : List Str}, found.Nodup → (∀ y ∈ found, y ∈ L) → (L.filter fun x => !decide (x ∈ found)).length + found.length = L.length
  | [], _, _ => by
    rw [List.filter_eq_self.mpr (fun x _ => by simp)]
    rfl
  | y :: r, hd, hs => by
    rw [List.nodup_cons] at hd
    have ih := filt_len hn hd.2 (fun z hz => hs z (List.mem_cons_of_mem _ hz))
    have e : (L.filter fun x => !decide (x ∈ y :: r)) = (L.filter fun x => !decide (x ∈ r)).erase y := by
      rw [List.Nodup.erase_eq_filter (hn.filter _), List.filter_filter]
      refine List.filter_congr fun x _ => ?_
      by_cases h1 : x = y
      · subst h1; simp
      · simp [h1, List.mem_cons]
    have hm : y ∈ L.filter fun x => !decide (x ∈ r) := List.mem_filter.mpr ⟨hs y List.mem_cons_self, by simp [hd.1]⟩
    have l1 := List.length_erase_of_mem hm
    have l2 := List.length_pos_of_mem hm
    rw [e, l1, List.length_cons]
    omega
theorem sit_len {ns found : List Str} {g : Str} (hn : ns.Nodup) (hf : found.Nodup) (hs : ∀ y ∈ found, y ∈ ns) : (sitting ns found g).length + found.length = ns.length := by
  unfold sitting
  rw [filt_len ((rotP_perm ns g).nodup_iff.mpr hn) hf (fun y hy => (rotP_perm ns g).mem_iff.mpr (hs y hy))]
  exact rot_len
/-- who goes, place by place -/
def goTail (ns : List Str) : List Str → Str → List Nat → List Str
  | _, _, [] => []
  | found, g, p :: r => (sitting ns found g).getD p Str.empty :: goTail ns (found ++ [(sitting ns found g).getD p Str.empty]) ((sitting ns found g).getD p Str.empty) r
/-- the places, goer by goer -/
def told (ns : List Str) : List Str → Str → List Str → List Nat
  | _, _, [] => []
  | found, g, x :: r => (sitting ns found g).idxOf x :: told ns (found ++ [x]) x r
def PlOk : Nat → List Nat → Prop
  | _, [] => True
  | m, p :: r => p < m ∧ PlOk (m - 1) r
def orderBy (ns : List Str) (b : Str) (ps : List Nat) : List Str := b :: goTail ns [b] b ps
theorem getD_mem {L : List Str} {p : Nat} (h : p < L.length) : L.getD p Str.empty ∈ L := by
  rw [List.getD_eq_getElem?_getD, List.getElem?_eq_getElem h]
  exact List.getElem_mem h
theorem getD_at {L : List Str} {p : Nat} (h : p < L.length) : L[p]? = some (L.getD p Str.empty) := by
  rw [List.getD_eq_getElem?_getD, List.getElem?_eq_getElem h]
  rfl
theorem goTail_len {ns : List Str} : ∀ {ps : List Nat} {found : List Str} {g : Str}, (goTail ns found g ps).length = ps.length
  | [], _, _ => rfl
  | p :: r, found, g => congrArg (· + 1) (goTail_len (ns := ns))
theorem told_len {ns : List Str} : ∀ {rest found : List Str} {g : Str}, (told ns found g rest).length = rest.length
  | [], _, _ => rfl
  | p :: r, found, g => congrArg (· + 1) (told_len (ns := ns))
theorem idxOf_mid {x : Str} : ∀ {A B : List Str}, x ∉ A → (A ++ x :: B).idxOf x = A.length := fun {A B} h => idx_mid B h
theorem idxOf_getD {L : List Str} (hn : L.Nodup) {p : Nat} (h : p < L.length) : L.idxOf (L.getD p Str.empty) = p := by
  have hg := getD_at h
  have hsplit : L = L.take p ++ L.getD p Str.empty :: L.drop (p + 1) := by
    obtain ⟨h1, e1⟩ := List.getElem?_eq_some_iff.mp hg
    rw [← e1, List.getElem_cons_drop, List.take_append_drop]
  have hd : (L.take p ++ L.getD p Str.empty :: L.drop (p + 1)).Nodup := hsplit ▸ hn
  have hx := (nd_mid hd).1
  have e := idx_mid (L.drop (p + 1)) hx
  rw [← hsplit, List.length_take, Nat.min_eq_left (Nat.le_of_lt h)] at e
  exact e
theorem snoc_nd {found : List Str} {x : Str} (hf : found.Nodup) (hx : x ∉ found) : (found ++ [x]).Nodup := by
  rw [List.nodup_append]
  refine ⟨hf, List.nodup_cons.mpr ⟨List.not_mem_nil, List.nodup_nil⟩, fun u hu v hv e => ?_⟩
  rw [List.mem_singleton] at hv
  exact hx (by rw [← hv, ← e]; exact hu)
theorem snoc_sub {ns found : List Str} {x : Str} (hs : ∀ y ∈ found, y ∈ ns) (hx : x ∈ ns) : ∀ y ∈ found ++ [x], y ∈ ns := fun y hy => by
  rcases List.mem_append.mp hy with h | h
  · exact hs y h
  · rw [List.mem_singleton.mp h]; exact hx
/-- places of a row of goers lead to it -/
theorem go_told {ns : List Str} (hn : ns.Nodup) : ∀ {rest found : List Str} {g : Str}, (found ++ rest).Nodup → (∀ y ∈ found ++ rest, y ∈ ns) → goTail ns found g (told ns found g rest) = rest ∧ PlOk (ns.length - found.length) (told ns found g rest)
  | [], _, _, _, _ => ⟨rfl, trivial⟩
  | x :: r, found, g, hd, hs => by
    have hx : x ∉ found := (nd_mid hd).1
    have hxn : x ∈ ns := hs x (List.mem_append_right _ List.mem_cons_self)
    have hm : x ∈ sitting ns found g := sit_mem.mpr ⟨hxn, hx⟩
    have hf : found.Nodup := (List.nodup_append.mp hd).1
    have hfs : ∀ y ∈ found, y ∈ ns := fun y hy => hs y (List.mem_append_left _ hy)
    have e : (sitting ns found g).getD ((sitting ns found g).idxOf x) Str.empty = x := by
      have := getD_at (idx_lt hm)
      rw [idx_at hm] at this
      exact (Option.some.inj this).symm
    have e2 : found ++ x :: r = (found ++ [x]) ++ r := by rw [List.append_assoc]; rfl
    rw [e2] at hd hs
    obtain ⟨i1, i2⟩ := go_told hn (g := x) hd hs
    refine ⟨?_, ?_, ?_⟩
    · show (sitting ns found g).getD ((sitting ns found g).idxOf x) Str.empty :: goTail ns (found ++ [(sitting ns found g).getD ((sitting ns found g).idxOf x) Str.empty]) ((sitting ns found g).getD ((sitting ns found g).idxOf x) Str.empty) (told ns (found ++ [x]) x r) = x :: r
      rw [e, i1]
    · have := idx_lt hm
      have := sit_len (g := g) hn hf hfs
      omega
    · rw [List.length_append] at i2
      exact (show ns.length - found.length - 1 = ns.length - (found.length + [x].length) from by simp only [List.length_singleton]; omega) ▸ i2
/-- and the places of whom they lead to are they -/
theorem told_go {ns : List Str} (hn : ns.Nodup) : ∀ {ps : List Nat} {found : List Str} {g : Str}, found.Nodup → (∀ y ∈ found, y ∈ ns) → PlOk (ns.length - found.length) ps →
    told ns found g (goTail ns found g ps) = ps ∧ (found ++ goTail ns found g ps).Nodup ∧ ∀ y ∈ found ++ goTail ns found g ps, y ∈ ns
  | [], found, _, hf, hs, _ => ⟨rfl, by rw [show goTail ns found _ [] = [] from rfl, List.append_nil]; exact hf, fun y hy => by rw [show goTail ns found _ [] = [] from rfl, List.append_nil] at hy; exact hs y hy⟩
  | p :: r, found, g, hf, hs, hp => by
    obtain ⟨hp1, hp2⟩ := hp
    have hl := sit_len (g := g) hn hf hs
    have hlt : p < (sitting ns found g).length := by omega
    generalize hx : (sitting ns found g).getD p Str.empty = x
    have hm : x ∈ sitting ns found g := by rw [← hx]; exact getD_mem hlt
    obtain ⟨hm1, hm2⟩ := sit_mem.mp hm
    have hi : (sitting ns found g).idxOf x = p := by rw [← hx]; exact idxOf_getD (sit_nd hn) hlt
    have hp3 : PlOk (ns.length - (found ++ [x]).length) r := by
      rw [List.length_append, List.length_singleton]
      exact (show ns.length - found.length - 1 = ns.length - (found.length + 1) by omega) ▸ hp2
    obtain ⟨i1, i2, i3⟩ := told_go hn (g := x) (snoc_nd hf hm2) (snoc_sub hs hm1) hp3
    have e : goTail ns found g (p :: r) = x :: goTail ns (found ++ [x]) x r := by
      show (sitting ns found g).getD p Str.empty :: _ = _
      rw [hx]
    have e2 : found ++ x :: goTail ns (found ++ [x]) x r = (found ++ [x]) ++ goTail ns (found ++ [x]) x r := by rw [List.append_assoc]; rfl
    rw [e, e2]
    refine ⟨?_, i2, i3⟩
    show (sitting ns found g).idxOf x :: told ns (found ++ [x]) x _ = p :: r
    rw [hi, i1]
/-- stepping from seat to seat -/
theorem rotP_at {ns : List Str} {g : Str} {k : Nat} (hg : g ∈ ns) (hk : k < ns.length) : (rot ns g)[k]? = ns[(ns.idxOf g + 1 + k) % ns.length]? := by
  have hi := idx_lt hg
  unfold rot
  rw [List.getElem?_append]
  split
  · next h =>
    rw [List.length_drop] at h
    rw [List.getElem?_drop, Nat.mod_eq_of_lt (by omega)]
  · next h =>
    rw [List.length_drop] at h ⊢
    rw [List.getElem?_take, if_pos (by omega), show ns.idxOf g + 1 + k = (k - (ns.length - (ns.idxOf g + 1))) + ns.length by omega, Nat.add_mod_right, Nat.mod_eq_of_lt (by omega)]
/-- how many of the first k sit -/
def cnt (ns fd : List Str) (g : Str) (k : Nat) : Nat := (((rot ns g).take k).filter fun x => !decide (x ∈ fd)).length
theorem cnt_zero {ns fd : List Str} {g : Str} : cnt ns fd g 0 = 0 := rfl
theorem cnt_step {ns fd : List Str} {g y : Str} {k : Nat} (h : (rot ns g)[k]? = some y) : cnt ns fd g (k + 1) = cnt ns fd g k + (if y ∈ fd then 0 else 1) := by
  unfold cnt
  rw [take_snoc h, List.filter_append, List.length_append, List.filter_cons]
  by_cases e : y ∈ fd
  · rw [decide_eq_true e, if_pos e]; rfl
  · rw [decide_eq_false e, if_neg e]; rfl
theorem cnt_split {ns fd : List Str} {g y : Str} {k : Nat} (h : (rot ns g)[k]? = some y) (hy : y ∉ fd) : ∃ A B, sitting ns fd g = A ++ y :: B ∧ A.length = cnt ns fd g k := by
  obtain ⟨h1, e1⟩ := List.getElem?_eq_some_iff.mp h
  have e : rot ns g = (rot ns g).take k ++ y :: (rot ns g).drop (k + 1) := by rw [← e1, List.getElem_cons_drop, List.take_append_drop]
  refine ⟨((rot ns g).take k).filter (fun x => !decide (x ∈ fd)), ((rot ns g).drop (k + 1)).filter (fun x => !decide (x ∈ fd)), ?_, rfl⟩
  unfold sitting
  conv => lhs; rw [e]
  rw [List.filter_append, List.filter_cons, decide_eq_false hy]
  rfl
theorem cnt_hit {ns fd : List Str} {g y : Str} {k p : Nat} (h : (rot ns g)[k]? = some y) (hy : y ∉ fd) (hp : cnt ns fd g k = p) : (sitting ns fd g).getD p Str.empty = y := by
  obtain ⟨A, B, e, l⟩ := cnt_split h hy
  rw [List.getD_eq_getElem?_getD, e, List.getElem?_append_right (by omega), l, hp, Nat.sub_self]
  rfl
theorem cnt_more {ns fd : List Str} {g : Str} {k p : Nat} (h : cnt ns fd g k ≤ p) (hp : p < (sitting ns fd g).length) : k < ns.length := by
  refine Nat.lt_of_not_le fun hk => ?_
  unfold cnt at h
  rw [List.take_of_length_le (by rw [rot_len]; exact hk)] at h
  unfold sitting at hp
  omega
theorem cnt_idx {ns fd : List Str} {g y : Str} {k : Nat} (hn : ns.Nodup) (h : (rot ns g)[k]? = some y) (hy : y ∉ fd) : cnt ns fd g k = (sitting ns fd g).idxOf y := by
  obtain ⟨A, B, e, l⟩ := cnt_split h hy
  have hd : (A ++ y :: B).Nodup := e ▸ sit_nd hn
  rw [e, idx_mid B (nd_mid hd).1, l]
theorem idx_of_at {ns : List Str} {x : Str} {j : Nat} (hn : ns.Nodup) (h : ns[j]? = some x) : ns.idxOf x = j := by
  obtain ⟨h1, e1⟩ := List.getElem?_eq_some_iff.mp h
  have hg : ns.getD j Str.empty = x := by rw [List.getD_eq_getElem?_getD, h]; rfl
  rw [← hg]
  exact idxOf_getD hn h1
theorem seat_next {a n : Nat} : ((a % n : Nat) + 1 : Int) % (n : Int) = (((a + 1) % n : Nat) : Int) := by
  rw [← Nat.mod_add_mod a n 1]
  rfl
/-- one for who sits, nought for who went -/
def sd01 (fd : List Str) : Str → Int := fun y => if y ∈ fd then 0 else 1
theorem SlipsAt.congr {H : Hp} {d : Addr} {ns : List Str} {sl sl' : Str → Int} (h : SlipsAt H d ns sl) (e : ∀ n ∈ ns, sl n = sl' n) : SlipsAt H d ns sl' := by
  obtain ⟨kvs, h1, h2, h3, h4⟩ := h
  exact ⟨kvs, h1, h2, h3, fun n hn => by rw [← e n hn]; exact h4 n hn⟩
theorem sd01_put {fd : List Str} {x : Str} (n : Str) : setSl (sd01 fd) x 0 n = sd01 (fd ++ [x]) n := by
  unfold setSl sd01
  by_cases e : n = x
  · rw [if_pos e, if_pos (by rw [e]; exact List.mem_append_right _ (List.mem_singleton.mpr rfl))]
  · rw [if_neg e]
    by_cases h : n ∈ fd
    · rw [if_pos h, if_pos (List.mem_append_left _ h)]
    · rw [if_neg h, if_neg (fun hm => (List.mem_append.mp hm).elim h fun q => e (List.mem_singleton.mp q))]
/-! ### the rests told -/
def toldAt (ns os : List Str) (i : Nat) : Nat × Nat := ((sitting ns (os.take (i + 1)) (os.getD i Str.empty)).idxOf (os.getD (i + 1) Str.empty), (sitting ns (os.take (i + 1)) (os.getD i Str.empty)).length)
def toldP (ns os : List Str) : List (Nat × Nat) := (List.range (os.length - 1)).map (toldAt ns os)
theorem told_idx {ns : List Str} : ∀ (rest pre : List Str) (g : Str), told ns (pre ++ [g]) g rest = (List.range rest.length).map fun j => (toldAt ns (pre ++ g :: rest) (pre.length + j)).1
  | [], _, _ => rfl
  | x :: r, pre, g => by
    have ih := told_idx (ns := ns) r (pre ++ [g]) x
    have e0 : pre ++ [g] ++ x :: r = pre ++ g :: x :: r := by rw [List.append_assoc]; rfl
    rw [List.length_cons, List.range_succ_eq_map, List.map_cons, List.map_map]
    show (sitting ns (pre ++ [g]) g).idxOf x :: told ns (pre ++ [g] ++ [x]) x r = _
    rw [ih]
    congr 1
    · unfold toldAt
      have t1 : (pre ++ g :: x :: r).take (pre.length + 0 + 1) = pre ++ [g] := by
        rw [← e0, show pre.length + 0 + 1 = (pre ++ [g]).length by rw [List.length_append]; rfl, List.take_left]
      have t2 : (pre ++ g :: x :: r).getD (pre.length + 0) Str.empty = g := by
        rw [List.getD_eq_getElem?_getD, List.getElem?_append_right (by omega), show pre.length + 0 - pre.length = 0 by omega]; rfl
      have t3 : (pre ++ g :: x :: r).getD (pre.length + 0 + 1) Str.empty = x := by
        rw [List.getD_eq_getElem?_getD, List.getElem?_append_right (by omega), show pre.length + 0 + 1 - pre.length = 1 by omega]; rfl
      rw [t1, t2, t3]
    · refine List.map_congr_left fun j _ => ?_
      show (toldAt ns (pre ++ [g] ++ x :: r) ((pre ++ [g]).length + j)).1 = (toldAt ns (pre ++ g :: x :: r) (pre.length + (j + 1))).1
      rw [e0, List.length_append, List.length_singleton, Nat.add_assoc, Nat.add_comm 1 j]
theorem toldP_fst {ns : List Str} {b : Str} {rest : List Str} : (toldP ns (b :: rest)).map (·.1) = told ns [b] b rest := by
  have := told_idx (ns := ns) rest [] b
  rw [List.nil_append] at this
  rw [this]
  unfold toldP
  rw [List.map_map, List.length_cons, Nat.add_sub_cancel]
  refine List.map_congr_left fun j _ => ?_
  show (toldAt ns (b :: rest) j).1 = (toldAt ns (b :: rest) (0 + j)).1
  rw [Nat.zero_add]
theorem toldAt_snd {ns os : List Str} {i : Nat} (hn : ns.Nodup) (hd : os.Nodup) (hs : ∀ y ∈ os, y ∈ ns) (hi : i < os.length) : (toldAt ns os i).2 = ns.length - 1 - i := by
  have := sit_len (ns := ns) (found := os.take (i + 1)) (g := os.getD i Str.empty) hn (hd.sublist (List.take_sublist _ _)) (fun y hy => hs y (List.mem_of_mem_take hy))
  rw [List.length_take, Nat.min_eq_left (by omega)] at this
  show (sitting ns (os.take (i + 1)) (os.getD i Str.empty)).length = _
  omega
def PairL (H : Hp) (rs : List Addr) (xs : List (Nat × Nat)) : Prop := Paired (fun (p : Addr) (x : Nat × Nat) => H p = some (.tup [.int (x.1 : Nat), .int (x.2 : Nat)])) rs xs
theorem PairL.same {H H' : Hp} {rs : List Addr} {xs : List (Nat × Nat)} (h : PairL H rs xs) (s : Same H H') : PairL H' rs xs := Paired.mapF (fun _ _ e => s _ _ e) h
theorem PairL.mod {H H' : Hp} {S C : Addr} {rs : List Addr} {xs : List (Nat × Nat)} (h : PairL H rs xs) (s : Mod S C H H') (st : StOk H S C) : PairL H' rs xs := Paired.mapF (F := fun (p : Addr) (x : Nat × Nat) => H p = some (.tup [.int (x.1 : Nat), .int (x.2 : Nat)])) (fun p x e => s.other st e (fun _ z => nomatch z)) h
def nz (ps : List Nat) : List Int := List.map (fun p : Nat => (p : Int)) ps
def spRestsTold : Sp := fun vs H Q _ => ∃ (c : Bool) (a t : Addr) (ns os : List Str), vs = [.ref a, .ref t] ∧ SqAt c H a (ns.map V.str) ∧ H t = some (.tup (os.map V.str)) ∧ GoodNs ns ∧ os.Nodup ∧ (∀ y ∈ os, y ∈ ns) ∧ os ≠ [] ∧
  ∀ H' l rs, Same H H' → H l = none → H' l = some (.lst (rs.map V.ref)) → PairL H' rs (toldP ns os) → Q (.ref l) H'
def spRestsOf : Sp := fun vs H Q _ => ∃ (c : Bool) (a t : Addr) (ns os : List Str), vs = [.ref a, .ref t] ∧ SqAt c H a (ns.map V.str) ∧ H t = some (.tup (os.map V.str)) ∧ GoodNs ns ∧ os.Perm ns ∧
  ∀ H' l rs, Same H H' → H l = none → H' l = some (.tup (rs.map V.ref)) → PairL H' rs (toldP ns os) → Q (.ref l) H'
def spIsOrder : Sp := fun vs H Q _ => ∃ (c : Bool) (a t : Addr) (ns os : List Str), vs = [.ref a, .ref t] ∧ SqAt c H a (ns.map V.str) ∧ H t = some (.tup (os.map V.str)) ∧ ns.length ≤ 100 ∧ os.Perm ns ∧ ∀ H', Same H H' → Q (.bl true) H'
def spChkOrder : Sp := fun vs H Q _ => ∃ (c : Bool) (a t : Addr) (ns os : List Str), vs = [.ref a, .ref t] ∧ SqAt c H a (ns.map V.str) ∧ H t = some (.tup (os.map V.str)) ∧ ns.length ≤ 100 ∧ os.Perm ns ∧ ∀ H', Same H H' → Q .non H'
def spIsPlaces : Sp := fun vs H Q _ => ∃ (n : Nat) (t : Addr) (ps : List Nat), vs = [.int (n : Nat), .ref t] ∧ H t = some (.tup ((nz ps).map V.int)) ∧ 1 ≤ n ∧ n ≤ 100 ∧ ps.length = n - 1 ∧ PlOk (n - 1) ps ∧ ∀ H', Same H H' → Q (.bl true) H'
def spOrderBy : Sp := fun vs H Q _ => ∃ (c : Bool) (a t : Addr) (ns : List Str) (b : Str) (ps : List Nat), vs = [.ref a, .str b, .ref t] ∧ SqAt c H a (ns.map V.str) ∧ GoodNs ns ∧ b ∈ ns ∧ H t = some (.tup ((nz ps).map V.int)) ∧ ps.length = ns.length - 1 ∧ PlOk (ns.length - 1) ps ∧
  ∀ H' r, Same H H' → H r = none → H' r = some (.tup ((orderBy ns b ps).map V.str)) → Q (.ref r) H'
def spDecoded : Sp := fun vs H Q _ => ∃ (a t : Addr) (ns : List Str) (b : Str) (ps : List Nat), vs = [.ref a, .str b, .ref t] ∧ H a = some (.lst (ns.map V.str)) ∧ GoodNs ns ∧ b ∈ ns ∧ H t = some (.tup ((nz ps).map V.int)) ∧ PlOk (ns.length - 1) ps ∧
  ∀ H' r, Same H H' → H r = none → H' r = some (.tup ((orderBy ns b ps).map V.str)) → Q (.ref r) H'
def spIndexes : Sp := fun vs H Q _ => ∃ (a t : Addr) (ns : List Str) (b : Str) (rest : List Str), vs = [.ref a, .ref t] ∧ H a = some (.lst (ns.map V.str)) ∧ GoodNs ns ∧ H t = some (.tup ((b :: rest).map V.str)) ∧ (b :: rest).Nodup ∧ (∀ y ∈ b :: rest, y ∈ ns) ∧
  ∀ H' r, Same H H' → H r = none → H' r = some (.tup ((nz (told ns [b] b rest)).map V.int)) → Q (.ref r) H'
end GL
namespace GL
open PySem PySem.Spec PyProof.Rows L2
/-- two ways that come together -/
theorem ite2R {β : Type} {c : Bool} {A : Prop} {R : Hp → β → Prop} (Pr : Hp → β → Prop) (H : Hp) (y : β) (h0 : ¬ c = true → Pr H y) (h1 : c = true → (∀ H y, Pr H y → R H y) → A) (k : ∀ H y, Pr H y → R H y) : if c = true then A else R H y := by
  by_cases h : c = true
  · rw [if_pos h]; exact h1 h k
  · rw [if_neg h]; exact k H y (h0 h)
end GL
namespace GL
open PySem PySem.Spec PyProof.Rows L2
theorem PlOk.at : ∀ {ps : List Nat} {m j p : Nat}, PlOk m ps → ps[j]? = some p → p < m - j
  | [], _, _, _, _, h => nomatch h
  | q :: r, m, 0, p, h, e => by
    have e : q = p := Option.some.inj e
    rw [← e]; exact h.1
  | q :: r, m, j + 1, p, h, e => by
    have := PlOk.at h.2 (show r[j]? = some p from e)
    omega
end GL
namespace GL
open PySem PySem.Spec PyProof.Rows L2
theorem nz_snoc (ps : List Nat) (p : Nat) : (nz (ps ++ [p])).map V.int = (nz ps).map V.int ++ [.int (p : Nat)] := by
  unfold nz
  rw [List.map_append, List.map_append]
  rfl
end GL
namespace GL
open PySem PySem.Spec PyProof.Rows L2
/-! ### rows of pairs as data -/
def pairD (x : Nat × Nat) : PyData := .tuple [.int (x.1 : Nat), .int (x.2 : Nat)]
theorem dp_pairs {K : PySem.W.Frag} {H : Hp} : ∀ {rs : List Addr} {xs : List (Nat × Nat)}, PairL H rs xs → DpAll K H (rs.map V.ref) (xs.map pairD)
  | _, _, .nil => .nil
  | _, _, .cons a r => .cons (.tup (SqT.of a) (.cons (.int _) (.cons (.int _) .nil))) (dp_pairs r)
theorem pairD_self (x : Nat × Nat) : PyData.eqv (pairD x) (pairD x) = true := (eqvi_tups [(x.1 : Int), (x.2 : Int)] [(x.1 : Int), (x.2 : Int)]).trans (decide_eq_true rfl)
theorem pairs_self : ∀ rs : List (Nat × Nat), PyData.eqvAll (rs.map pairD) (rs.map pairD) = true
  | [] => by simp [PyData.eqvAll]
  | x :: r => by rw [List.map_cons, PyData.eqvAll, pairD_self, pairs_self r]; rfl
theorem pairs_eqv (rs : List (Nat × Nat)) : PyData.eqv (.tuple (rs.map pairD)) (.tuple (rs.map pairD)) = true := by rw [PyData.eqv, pairs_self]
theorem pairs_can : ∀ rs : List (Nat × Nat), PyData.canLayAll0 (rs.map pairD) = true
  | [] => by simp [PyData.canLayAll0]
  | x :: r => by
    rw [List.map_cons, PyData.canLayAll0, pairs_can r]
    simp [pairD, PyData.canLay0, PyData.canLayAll0]
theorem pairs_depth : ∀ rs : List (Nat × Nat), PyData.depthAll (rs.map pairD) ≤ 3
  | [] => by simp [PyData.depthAll]
  | x :: r => by
    have b := pairs_depth r
    rw [List.map_cons, PyData.depthAll]
    exact Nat.max_le.mpr ⟨by simp [pairD, PyData.depth, PyData.depthAll], b⟩
theorem pairs_shaped (rs : List (Nat × Nat)) : SeqAt.shaped (.tuple (rs.map pairD)) = true := by
  have a := pairs_can rs
  have b := pairs_depth rs
  unfold SeqAt.shaped
  rw [Bool.and_eq_true, decide_eq_true_eq]
  refine ⟨by rw [PyData.canLay0]; exact a, ?_⟩
  rw [PyData.depth]
  omega
theorem iteQ {d e : PyData} {A B : Prop} (h : PyData.eqv d e = true) (b : B) : if (!PyData.eqv d e) = true then A else B := by
  rw [h]
  exact iteF b
theorem PairL.get {H : Hp} {rs : List Addr} {xs : List (Nat × Nat)} (h : PairL H rs xs) {i : Nat} {v : V} (hv : (rs.map V.ref)[i]? = some v) : ∃ p x, v = .ref p ∧ xs[i]? = some x ∧ H p = some (.tup [.int (x.1 : Nat), .int (x.2 : Nat)]) := by
  unfold PairL at h
  induction h generalizing i with
  | nil => cases hv
  | @cons p x rs xs a r ih =>
    cases i with
    | zero => exact ⟨p, x, (Option.some.inj hv).symm, rfl, a⟩
    | succ i => exact ih hv
theorem PairL.len {H : Hp} {rs : List Addr} {xs : List (Nat × Nat)} (h : PairL H rs xs) : rs.length = xs.length := Paired.length h
def wantP (n : Nat) (ps : List Nat) : List (Nat × Nat) := (List.range ps.length).map fun i => (ps.getD i 0, n - 1 - i)
theorem told_want {ns : List Str} {b : Str} {rest : List Str} (hn : ns.Nodup) (hd : (b :: rest).Nodup) (hs : ∀ y ∈ b :: rest, y ∈ ns) : toldP ns (b :: rest) = wantP ns.length (told ns [b] b rest) := by
  have hf := toldP_fst (ns := ns) (b := b) (rest := rest)
  have e1 : toldP ns (b :: rest) = (List.range rest.length).map (toldAt ns (b :: rest)) := by rw [toldP, List.length_cons, Nat.add_sub_cancel]
  unfold wantP
  rw [told_len, e1]
  refine List.map_congr_left fun i hi => ?_
  rw [List.mem_range] at hi
  have e2 : (told ns [b] b rest).getD i 0 = (toldAt ns (b :: rest) i).1 := by
    rw [← hf, e1, List.map_map, List.getD_eq_getElem?_getD, List.getElem?_map, List.getElem?_range hi]
    rfl
  have e3 := toldAt_snd (i := i) hn hd hs (by rw [List.length_cons]; omega)
  rw [e2, ← e3]
theorem PlOk.set : ∀ {ps : List Nat} {m j q : Nat}, PlOk m ps → q < m - j → PlOk m (ps.set j q)
  | [], _, _, _, _, _ => trivial
  | p :: r, m, 0, q, h, e => ⟨by omega, h.2⟩
  | p :: r, m, j + 1, q, h, e => ⟨h.1, PlOk.set h.2 (by omega)⟩
/-- with one place otherwise, the same ones go till then, and another one there -/
theorem goTail_set {ns : List Str} : ∀ {ps : List Nat} {j p q : Nat} {found : List Str} {g : Str}, ps[j]? = some p → ∃ G, (goTail ns found g (ps.set j q)).take j = (goTail ns found g ps).take j ∧
    (goTail ns found g ps)[j]? = some ((sitting ns (found ++ (goTail ns found g ps).take j) G).getD p Str.empty) ∧ (goTail ns found g (ps.set j q))[j]? = some ((sitting ns (found ++ (goTail ns found g ps).take j) G).getD q Str.empty)
  | [], _, _, _, _, _, h => nomatch h
  | p0 :: r, 0, p, q, found, g, h => by
    obtain rfl : p0 = p := Option.some.inj h
    refine ⟨g, rfl, ?_, ?_⟩
    · rw [List.take_zero, List.append_nil]; rfl
    · rw [List.take_zero, List.append_nil]; rfl
  | p0 :: r, j + 1, p, q, found, g, h => by
    generalize hx : (sitting ns found g).getD p0 Str.empty = x
    obtain ⟨G, i1, i2, i3⟩ := goTail_set (ns := ns) (ps := r) (j := j) (p := p) (q := q) (found := found ++ [x]) (g := x) h
    have e1 : goTail ns found g (p0 :: r) = x :: goTail ns (found ++ [x]) x r := by
      show (sitting ns found g).getD p0 Str.empty :: _ = _
      rw [hx]
    have e2 : goTail ns found g ((p0 :: r).set (j + 1) q) = x :: goTail ns (found ++ [x]) x (r.set j q) := by
      show (sitting ns found g).getD p0 Str.empty :: _ = _
      rw [hx]
    rw [e1, e2]
    have e3 : found ++ (x :: goTail ns (found ++ [x]) x r).take (j + 1) = found ++ [x] ++ (goTail ns (found ++ [x]) x r).take j := by
      rw [List.take_succ_cons, List.append_assoc found [x]]
      rfl
    rw [e3]
    exact ⟨G, by rw [List.take_succ_cons, List.take_succ_cons, i1], i2, i3⟩
theorem perm_of {ns os : List Str} (hn : ns.Nodup) (hd : os.Nodup) (hs : ∀ y ∈ os, y ∈ ns) (hl : os.length = ns.length) : os.Perm ns := by
  refine (List.perm_ext_iff_of_nodup hd hn).mpr fun y => ⟨hs y, fun hy => Classical.byContradiction fun hn2 => ?_⟩
  have := List.Nodup.length_le_of_subset (List.nodup_cons.mpr ⟨hn2, hd⟩) (fun z hz => (List.mem_cons.mp hz).elim (fun e => e ▸ hy) (hs z) : ∀ z ∈ y :: os, z ∈ ns)
  rw [List.length_cons] at this
  omega
theorem order_of {ns : List Str} {b : Str} {ps : List Nat} (g : GoodNs ns) (hb : b ∈ ns) (hl : ps.length = ns.length - 1) (hp : PlOk (ns.length - 1) ps) :
    told ns [b] b (goTail ns [b] b ps) = ps ∧ (orderBy ns b ps).Nodup ∧ (∀ y ∈ orderBy ns b ps, y ∈ ns) ∧ (orderBy ns b ps).Perm ns := by
  obtain ⟨h1, h2, h3⟩ := told_go (ns := ns) (ps := ps) (found := [b]) (g := b) g.nd (List.nodup_cons.mpr ⟨List.not_mem_nil, List.nodup_nil⟩) (fun y hy => by rw [List.mem_singleton.mp hy]; exact hb) hp
  refine ⟨h1, h2, h3, perm_of g.nd h2 h3 ?_⟩
  have := g.two
  show (goTail ns [b] b ps).length + 1 = ns.length
  rw [goTail_len]
  omega
theorem orderBy_set {ns : List Str} {b : Str} {ps : List Nat} {j p q : Nat} (g : GoodNs ns) (hb : b ∈ ns) (hl : ps.length = ns.length - 1) (hp : PlOk (ns.length - 1) ps) (hj : ps[j]? = some p) (hq : q < ns.length - 1 - j) (hpq : p ≠ q) :
    (orderBy ns b (ps.set j q)).take (j + 1) = (orderBy ns b ps).take (j + 1) ∧ ∃ x y, (orderBy ns b (ps.set j q))[j + 1]? = some x ∧ (orderBy ns b ps)[j + 1]? = some y ∧ x ≠ y := by
  obtain ⟨G, i1, i2, i3⟩ := goTail_set (ns := ns) (q := q) (found := [b]) (g := b) hj
  obtain ⟨_, hd, hs, _⟩ := order_of g hb hl hp
  refine ⟨?_, _, _, i3, i2, fun e => hpq ?_⟩
  · show (b :: goTail ns [b] b (ps.set j q)).take (j + 1) = (b :: goTail ns [b] b ps).take (j + 1)
    rw [List.take_succ_cons, List.take_succ_cons, i1]
  · have hjl := (List.getElem?_eq_some_iff.mp hj).1
    have e0 : [b] ++ (goTail ns [b] b ps).take j = (orderBy ns b ps).take (j + 1) := by
      show _ = (b :: goTail ns [b] b ps).take (j + 1)
      rw [List.take_succ_cons]
      rfl
    rw [e0] at e
    have hsl := sit_len (ns := ns) (found := (orderBy ns b ps).take (j + 1)) (g := G) g.nd (hd.sublist (List.take_sublist _ _)) (fun y hy => hs y (List.mem_of_mem_take hy))
    have hol : (orderBy ns b ps).length = ps.length + 1 := by
      show (goTail ns [b] b ps).length + 1 = _
      rw [goTail_len]
    rw [List.length_take, hol, Nat.min_eq_left (by omega)] at hsl
    have hpl := hp.at hj
    have hnd := sit_nd (ns := ns) (found := (orderBy ns b ps).take (j + 1)) (g := G) g.nd
    have a1 := idxOf_getD hnd (p := p) (by omega)
    have a2 := idxOf_getD hnd (p := q) (by omega)
    rw [← a1, ← a2, e]
def spExactP : Sp := fun vs H Q _ => ∃ (l w : Addr) (rs qs : List Addr) (xs : List (Nat × Nat)), vs = [.ref l, .ref w] ∧ H l = some (.tup (rs.map V.ref)) ∧ PairL H rs xs ∧ H w = some (.tup (qs.map V.ref)) ∧ PairL H qs xs ∧ ∀ H', Same H H' → Q (.bl true) H'
def spOther : Sp := fun vs H Q _ => ∃ (S C a t : Addr) (ns : List Str) (b : Str) (ps : List Nat), vs = [.ref S, .ref a, .str b, .ref t] ∧ StOk H S C ∧ H a = some (.lst (ns.map V.str)) ∧ GoodNs ns ∧ b ∈ ns ∧ H t = some (.tup ((nz ps).map V.int)) ∧ ps.length = ns.length - 1 ∧ PlOk (ns.length - 1) ps ∧
  ∀ H', Mod S C H H' → StOk H' S C → Q (.bl true) H'
end GL
namespace GL
open PySem PySem.Spec PyProof.Rows L2
theorem PlOk.snoc : ∀ {ps : List Nat} {m d : Nat}, PlOk m ps → d < m - ps.length → PlOk m (ps ++ [d])
  | [], m, d, _, h => ⟨h, trivial⟩
  | p :: r, m, d, h, e => ⟨h.1, PlOk.snoc h.2 (by rw [List.length_cons] at e; omega)⟩
end GL
/-! own data layer: what a def does to data, without the heap -/
namespace GD
open PySem PySem.Spec PyProof.Rows L2

/-! ### data -/
inductive D where
  | non | bl (b : Bool) | int (i : Int) | str (s : Str) | ty (n : String)
  | lst (xs : List D) | tup (xs : List D) | tuw (xs : List D) | dic (kvs : List (Key × D)) | dtk (kvs : List (List Key × D))
  | ins (C : Addr) (fs : List (Str × D)) | scr (ns : List Int)
  deriving Inhabited
/-- what a name holds: data that never change, or what is the def's own -/
inductive X where
  | fz (d : D) | ol (ds : List D) | od (kvs : List (Key × D)) | odt (kvs : List (List Key × D))
  | st (cs : List Int) (k m : Int) | oi (C : Addr) (fs : List (Str × X))
  deriving Inhabited
mutual
def frz : X → D
  | .fz d => d
  | .ol ds => .lst ds
  | .od kvs => .dic kvs
  | .odt kvs => .dtk kvs
  | .st cs k m => .lst [.lst (cs.map D.int), .int k, .int m]
  | .oi C fs => .ins C (frzF fs)
def frzF : List (Str × X) → List (Str × D)
  | [] => []
  | p :: r => (p.1, frz p.2) :: frzF r
end

/-! ### frozen data in a heap -/
mutual
inductive Fz (K : PySem.W.Frag) (F : Hp) : V → D → Prop
  | non : Fz K F .non .non
  | bl (b : Bool) : Fz K F (.bl b) (.bl b)
  | int (i : Int) : Fz K F (.int i) (.int i)
  | str (x : Str) : Fz K F (.str x) (.str x)
  | ty (n : String) : Fz K F (.ty n) (.ty n)
  | lst {a : Addr} {vs : List V} {ds : List D} : F a = some (.lst vs) → FzL K F vs ds → Fz K F (.ref a) (.lst ds)
  | scr {a : Addr} {ns : List Int} : SqL K F a (ns.map V.int) → Fz K F (.ref a) (.scr ns)
  | tup {a : Addr} {vs : List V} {ds : List D} : TupF F a vs → FzL K F vs ds → Fz K F (.ref a) (.tup ds)
  | tuw {a : Addr} {vs : List V} {ds : List D} : SqT K F a vs → FzL K F vs ds → Fz K F (.ref a) (.tuw ds)
  | dic {a : Addr} {kvs : List (Key × V)} {kds : List (Key × D)} : Rd F a (.dK kvs) → kvs.map (·.1) = kds.map (·.1) → FzL K F (kvs.map (·.2)) (kds.map (·.2)) → Fz K F (.ref a) (.dic kds)
  | dtk {a : Addr} {kvs : List (List Key × V)} {kds : List (List Key × D)} : Rd F a (.dT kvs) → kvs.map (·.1) = kds.map (·.1) → FzL K F (kvs.map (·.2)) (kds.map (·.2)) → Fz K F (.ref a) (.dtk kds)
  | ins {a dx C : Addr} {fs : List (Str × V)} {fds : List (Str × D)} : F a = some (.ins C dx fs) → fs.map (·.1) = fds.map (·.1) → FzL K F (fs.map (·.2)) (fds.map (·.2)) → Fz K F (.ref a) (.ins C fds)
inductive FzL (K : PySem.W.Frag) (F : Hp) : List V → List D → Prop
  | nil : FzL K F [] []
  | cons {v : V} {vs : List V} {d : D} {ds : List D} : Fz K F v d → FzL K F vs ds → FzL K F (v :: vs) (d :: ds)
end
/-- all that is read in F is read in F' -/
structure Rx (F F' : Hp) : Prop where
  rd : ∀ a u, Rd F a u → Rd F' a u
  ins : ∀ a C dx fs, F a = some (.ins C dx fs) → F' a = some (.ins C dx fs)
  lst : ∀ a vs, F a = some (.lst vs) → F' a = some (.lst vs)
  tpf : ∀ a vs, TupF F a vs → TupF F' a vs
theorem Rx.of {F F' : Hp} (s : L2.Same F F') : Rx F F' := ⟨fun a u h => h.elim (fun h => .inl (s _ _ h)) fun ⟨o, h⟩ => .inr ⟨o, s _ _ h⟩, fun _ _ _ _ h => s _ _ h, fun _ _ h => s _ _ h, fun _ _ ⟨o, a, b⟩ => ⟨o, a, s _ _ b⟩⟩
theorem Rx.sqL {K : PySem.W.Frag} {F F' : Hp} (r : Rx F F') {a : Addr} {xs : List V} (h : SqL K F a xs) : SqL K F' a xs := h.elim (fun h => .inl (r.rd _ _ h)) .inr
theorem Rx.sqT {K : PySem.W.Frag} {F F' : Hp} (r : Rx F F') {a : Addr} {xs : List V} (h : SqT K F a xs) : SqT K F' a xs := h.elim (fun h => .inl (r.rd _ _ h)) .inr
section
variable {K : PySem.W.Frag} {F F' : Hp}
mutual
theorem Fz.rx (r : Rx F F') : ∀ {v : V} {d : D}, Fz K F v d → Fz K F' v d
  | _, _, .non => .non
  | _, _, .bl b => .bl b
  | _, _, .int i => .int i
  | _, _, .str x => .str x
  | _, _, .ty n => .ty n
  | _, _, .lst h t => .lst (r.lst _ _ h) (FzL.rx r t)
  | _, _, .scr h => .scr (r.sqL h)
  | _, _, .tup h t => .tup (r.tpf _ _ h) (FzL.rx r t)
  | _, _, .tuw h t => .tuw (r.sqT h) (FzL.rx r t)
  | _, _, .dic h e t => .dic (r.rd _ _ h) e (FzL.rx r t)
  | _, _, .dtk h e t => .dtk (r.rd _ _ h) e (FzL.rx r t)
  | _, _, .ins h e t => .ins (r.ins _ _ _ _ h) e (FzL.rx r t)
theorem FzL.rx (r : Rx F F') : ∀ {vs : List V} {ds : List D}, FzL K F vs ds → FzL K F' vs ds
  | _, _, .nil => .nil
  | _, _, .cons h t => .cons (Fz.rx r h) (FzL.rx r t)
end
theorem Fz.mono (s : L2.Same F F') {v : V} {d : D} (h : Fz K F v d) : Fz K F' v d := h.rx (.of s)
theorem FzL.mono (s : L2.Same F F') {vs : List V} {ds : List D} (h : FzL K F vs ds) : FzL K F' vs ds := h.rx (.of s)
theorem FzL.length {vs : List V} {ds : List D} : FzL K F vs ds → vs.length = ds.length
  | .nil => rfl
  | .cons _ t => congrArg (· + 1) t.length
theorem FzL.app {us vs : List V} {cs ds : List D} : FzL K F us cs → FzL K F vs ds → FzL K F (us ++ vs) (cs ++ ds)
  | .nil, h => h
  | .cons a t, h => .cons a (t.app h)
theorem FzL.get {vs : List V} {ds : List D} {i : Nat} {d : D} : FzL K F vs ds → ds[i]? = some d → ∃ v, vs[i]? = some v ∧ Fz K F v d
  | .nil, h => by simp at h
  | .cons (v := v) a t, h => by
    cases i with
    | zero => simp at h; subst h; exact ⟨v, rfl, a⟩
    | succ i =>
      obtain ⟨w, e, f⟩ := t.get (i := i) (by simpa using h)
      exact ⟨w, by simpa using e, f⟩
theorem FzL.getV {vs : List V} {ds : List D} {i : Nat} {v : V} : FzL K F vs ds → vs[i]? = some v → ∃ d, ds[i]? = some d ∧ Fz K F v d
  | .nil, h => by simp at h
  | .cons (d := d) a t, h => by
    cases i with
    | zero => simp at h; subst h; exact ⟨d, rfl, a⟩
    | succ i =>
      obtain ⟨w, e, f⟩ := t.getV (i := i) (by simpa using h)
      exact ⟨w, by simpa using e, f⟩
theorem FzL.take {vs : List V} {ds : List D} (n : Nat) : FzL K F vs ds → FzL K F (vs.take n) (ds.take n)
  | .nil => by simp; exact .nil
  | .cons a t => by
    cases n with
    | zero => exact .nil
    | succ n => exact .cons a (t.take n)
theorem FzL.drop {vs : List V} {ds : List D} (n : Nat) : FzL K F vs ds → FzL K F (vs.drop n) (ds.drop n)
  | .nil => by simp; exact .nil
  | .cons a t => by
    cases n with
    | zero => exact .cons a t
    | succ n => exact t.drop n
theorem FzL.set {vs : List V} {ds : List D} {v : V} {d : D} (n : Nat) (h : Fz K F v d) : FzL K F vs ds → FzL K F (vs.set n v) (ds.set n d)
  | .nil => .nil
  | .cons a t => by
    cases n with
    | zero => exact .cons h t
    | succ n => exact .cons a (t.set n h)
theorem FzL.erase {vs : List V} {ds : List D} (n : Nat) : FzL K F vs ds → FzL K F (vs.eraseIdx n) (ds.eraseIdx n)
  | .nil => .nil
  | .cons a t => by
    cases n with
    | zero => exact t
    | succ n => exact .cons a (t.erase n)
theorem FzL.ints (ns : List Int) : FzL K F (ns.map V.int) (ns.map D.int) := by
  induction ns with
  | nil => exact .nil
  | cons n r ih => exact .cons (.int n) ih
theorem FzL.strs (ns : List Str) : FzL K F (ns.map V.str) (ns.map D.str) := by
  induction ns with
  | nil => exact .nil
  | cons n r ih => exact .cons (.str n) ih
/-- what stands there, told by the data -/
theorem Fz.toInt {v : V} {i : Int} (h : Fz K F v (.int i)) : v = .int i := by cases h; rfl
theorem Fz.toBl {v : V} {b : Bool} (h : Fz K F v (.bl b)) : v = .bl b := by cases h; rfl
theorem Fz.toStr {v : V} {x : Str} (h : Fz K F v (.str x)) : v = .str x := by cases h; rfl
theorem Fz.toNon {v : V} (h : Fz K F v .non) : v = .non := by cases h; rfl
theorem FzL.toInts : ∀ {vs : List V} {ns : List Int}, FzL K F vs (ns.map D.int) → vs = ns.map V.int
  | _, [], h => by cases h; rfl
  | _, n :: r, h => by
    cases h with
    | cons a t => rw [a.toInt, t.toInts]; rfl
theorem FzL.toStrs : ∀ {vs : List V} {ns : List Str}, FzL K F vs (ns.map D.str) → vs = ns.map V.str
  | _, [], h => by cases h; rfl
  | _, n :: r, h => by
    cases h with
    | cons a t => rw [a.toStr, t.toStrs]; rfl
end

/-! ### what is a def's own: cells -/
abbrev Cells := List (Addr × HO)
def plus : Cells → Hp → Hp
  | [], F => F
  | p :: r, F => upd (plus r F) p.1 p.2
theorem plus_not {F : Hp} {b : Addr} : ∀ {fp : Cells}, b ∉ fp.map (·.1) → plus fp F b = F b
  | [], _ => rfl
  | p :: r, h => by
    have h1 : b ≠ p.1 := fun e => h (by rw [e]; exact List.mem_cons_self)
    have h2 : b ∉ r.map (·.1) := fun e => h (List.mem_cons_of_mem _ e)
    show upd (plus r F) p.1 p.2 b = F b
    rw [upd_ne h1, plus_not h2]
theorem plus_mem {F : Hp} {p : Addr × HO} : ∀ {fp : Cells}, (fp.map (·.1)).Nodup → p ∈ fp → plus fp F p.1 = some p.2
  | [], _, h => nomatch h
  | q :: r, nd, h => by
    have nd1 := List.nodup_cons.mp nd
    show upd (plus r F) q.1 q.2 p.1 = some p.2
    rcases List.mem_cons.mp h with e | h
    · rw [e, upd_same]
    · have : p.1 ≠ q.1 := fun e => nd1.1 (by show q.1 ∈ _; rw [← e]; exact List.mem_map_of_mem h)
      rw [upd_ne this, plus_mem nd1.2 h]
theorem plus_app {F : Hp} : ∀ {a b : Cells}, plus (a ++ b) F = plus a (plus b F)
  | [], _ => rfl
  | p :: r, b => by
    show upd (plus (r ++ b) F) p.1 p.2 = upd (plus r (plus b F)) p.1 p.2
    rw [plus_app]
/-- the cells are none of F's, and unlike -/
structure Fr (F : Hp) (fp : Cells) : Prop where
  n : ∀ p ∈ fp, F p.1 = none
  d : (fp.map (·.1)).Nodup
theorem Fr.same {F : Hp} {fp : Cells} (f : Fr F fp) : L2.Same F (plus fp F) := fun b o h => by
  have : b ∉ fp.map (·.1) := fun m => by
    obtain ⟨p, hp, e⟩ := List.mem_map.mp m
    rw [← e, f.n p hp] at h
    cases h
  rw [plus_not this]
  exact h
theorem Fr.sub {F : Hp} {fp fq : Cells} (f : Fr F fq) (hs : ∀ p ∈ fp, p ∈ fq) (nd : (fp.map (·.1)).Nodup) : L2.Same (plus fp F) (plus fq F) := fun b o h => by
  by_cases hb : b ∈ fp.map (·.1)
  · obtain ⟨p, hp, e⟩ := List.mem_map.mp hb
    subst e
    rw [plus_mem nd hp] at h
    rw [plus_mem f.d (hs p hp)]
    exact h
  · rw [plus_not hb] at h
    exact f.same _ _ h
theorem Fr.left {F : Hp} {a b : Cells} (f : Fr F (a ++ b)) : Fr F a := ⟨fun p h => f.n p (List.mem_append_left _ h), by have := f.d; rw [List.map_append] at this; exact (List.nodup_append.mp this).1⟩
theorem Fr.right {F : Hp} {a b : Cells} (f : Fr F (a ++ b)) : Fr F b := ⟨fun p h => f.n p (List.mem_append_right _ h), by have := f.d; rw [List.map_append] at this; exact (List.nodup_append.mp this).2.1⟩

mutual
inductive XR (K : PySem.W.Frag) (F : Hp) : V → X → Cells → Prop
  | fz {v : V} {d : D} : Fz K F v d → XR K F v (.fz d) []
  | ol {p : Addr} {vs : List V} {ds : List D} : FzL K F vs ds → XR K F (.ref p) (.ol ds) [(p, .lst vs)]
  | od {p : Addr} {kvs : List (Key × V)} {kds : List (Key × D)} : kvs.map (·.1) = kds.map (·.1) → FzL K F (kvs.map (·.2)) (kds.map (·.2)) → XR K F (.ref p) (.od kds) [(p, .dK kvs)]
  | odt {p : Addr} {kvs : List (List Key × V)} {kds : List (List Key × D)} : kvs.map (·.1) = kds.map (·.1) → FzL K F (kvs.map (·.2)) (kds.map (·.2)) → XR K F (.ref p) (.odt kds) [(p, .dT kvs)]
  | st (S C : Addr) (cs : List Int) (k m : Int) : XR K F (.ref S) (.st cs k m) [(S, .lst [.ref C, .int k, .int m]), (C, .lst (cs.map V.int))]
  | oi {x dx C : Addr} {fs : List (Str × V)} {fxs : List (Str × X)} {fp : Cells} : fs.map (·.1) = fxs.map (·.1) → XRL K F (fs.map (·.2)) (fxs.map (·.2)) fp → XR K F (.ref x) (.oi C fxs) ((x, .ins C dx fs) :: (dx, .own x) :: fp)
inductive XRL (K : PySem.W.Frag) (F : Hp) : List V → List X → Cells → Prop
  | nil : XRL K F [] [] []
  | cons {v : V} {vs : List V} {x : X} {xs : List X} {a b : Cells} : XR K F v x a → XRL K F vs xs b → XRL K F (v :: vs) (x :: xs) (a ++ b)
end
section
variable {K : PySem.W.Frag} {F F' : Hp}
mutual
theorem XR.rx (r : Rx F F') : ∀ {v : V} {x : X} {fp : Cells}, XR K F v x fp → XR K F' v x fp
  | _, _, _, .fz h => .fz (h.rx r)
  | _, _, _, .ol h => .ol (h.rx r)
  | _, _, _, .od e h => .od e (h.rx r)
  | _, _, _, .odt e h => .odt e (h.rx r)
  | _, _, _, .st S C cs k m => .st S C cs k m
  | _, _, _, .oi e h => .oi e (XRL.rx r h)
theorem XRL.rx (r : Rx F F') : ∀ {vs : List V} {xs : List X} {fp : Cells}, XRL K F vs xs fp → XRL K F' vs xs fp
  | _, _, _, .nil => .nil
  | _, _, _, .cons h t => .cons (XR.rx r h) (XRL.rx r t)
end
theorem frzF_keys : ∀ fs : List (Str × X), (frzF fs).map (·.1) = fs.map (·.1)
  | [] => rfl
  | p :: r => by
    show p.1 :: (frzF r).map (·.1) = _
    rw [frzF_keys r]
    rfl
theorem frzF_vals : ∀ fs : List (Str × X), (frzF fs).map (·.2) = (fs.map (·.2)).map frz
  | [] => rfl
  | p :: r => by
    show frz p.2 :: (frzF r).map (·.2) = _
    rw [frzF_vals r]
    rfl
mutual
/-- what is one's own may be frozen -/
theorem XR.freeze : ∀ {v : V} {x : X} {fp : Cells}, XR K F v x fp → Fr F fp → Fz K (plus fp F) v (frz x)
  | _, _, _, .fz h, _ => h
  | _, _, _, .ol (p := p) (vs := vs) h, f => .lst upd_same (h.mono f.same)
  | _, _, _, .od e h, f => .dic (.of upd_same) e (h.mono f.same)
  | _, _, _, .odt e h, f => .dtk (.of upd_same) e (h.mono f.same)
  | _, _, _, .st S C cs k m, f => by
    have hS : plus [(S, .lst [.ref C, .int k, .int m]), (C, .lst (cs.map V.int))] F S = some (.lst [.ref C, .int k, .int m]) := plus_mem f.d (p := (S, .lst [.ref C, .int k, .int m])) List.mem_cons_self
    have hC : plus [(S, .lst [.ref C, .int k, .int m]), (C, .lst (cs.map V.int))] F C = some (.lst (cs.map V.int)) := plus_mem f.d (p := (C, .lst (cs.map V.int))) (List.mem_cons_of_mem _ List.mem_cons_self)
    exact .lst hS (.cons (.lst hC (.ints cs)) (.cons (.int k) (.cons (.int m) .nil)))
  | _, _, _, .oi (x := x) (dx := dx) (C := C) (fs := fs) (fxs := fxs) (fp := fp) e h, f => by
    have f2 : Fr F fp := Fr.right (a := [(x, .ins C dx fs), (dx, .own x)]) f
    have s2 : L2.Same (plus fp F) (plus ((x, .ins C dx fs) :: (dx, .own x) :: fp) F) := f.sub (fun p hp => List.mem_cons_of_mem _ (List.mem_cons_of_mem _ hp)) f2.d
    refine .ins (dx := dx) (fs := fs) upd_same ?_ ?_
    · rw [frzF_keys]; exact e
    · rw [frzF_vals]; exact (XRL.freeze h f2).mono s2
theorem XRL.freeze : ∀ {vs : List V} {xs : List X} {fp : Cells}, XRL K F vs xs fp → Fr F fp → FzL K (plus fp F) vs (xs.map frz)
  | _, _, _, .nil, _ => .nil
  | _, _, _, .cons h t, f => .cons ((XR.freeze h f.left).mono (f.sub (fun p hp => List.mem_append_left _ hp) f.left.d)) ((XRL.freeze t f.right).mono (f.sub (fun p hp => List.mem_append_right _ hp) f.right.d))
end
end

/-! ### the names' state and the heap -/
abbrev En := List (Option X)
inductive SR (K : PySem.W.Frag) (F : Hp) : L2.St → En → Cells → Prop
  | nil : SR K F [] [] []
  | no {o : Option V} {σ : L2.St} {e : En} {fp : Cells} : SR K F σ e fp → SR K F (o :: σ) (none :: e) fp
  | so {v : V} {x : X} {σ : L2.St} {e : En} {a b : Cells} : XR K F v x a → SR K F σ e b → SR K F (some v :: σ) (some x :: e) (a ++ b)
/-- F stands in H; the dicts at L may be locked there (a loop walks them) -/
def Sub (L : List Addr) (F H : Hp) : Prop := ∀ b o, F b = some o → H b = some o ∨ (b ∈ L ∧ (∃ kvs, o = .dK kvs) ∧ ∃ od, H b = some (.frz od o))
theorem Sub.rx {L : List Addr} {F H : Hp} (s : Sub L F H) : Rx F H where
  rd := fun a u h => by
    rcases h with h | ⟨o, h⟩
    · rcases s _ _ h with e | ⟨_, _, od, e⟩
      · exact .inl e
      · exact .inr ⟨od, e⟩
    · rcases s _ _ h with e | ⟨_, ⟨kvs, z⟩, _⟩
      · exact .inr ⟨o, e⟩
      · cases z
  ins := fun a C dx fs h => by
    rcases s _ _ h with e | ⟨_, ⟨kvs, z⟩, _⟩
    · exact e
    · cases z
  lst := fun a vs h => by
    rcases s _ _ h with e | ⟨_, ⟨kvs, z⟩, _⟩
    · exact e
    · cases z
  tpf := fun a vs ⟨o, d, h⟩ => by
    rcases s _ _ h with e | ⟨_, ⟨kvs, z⟩, _⟩
    · exact ⟨o, d, e⟩
    · cases z
theorem Sub.some {L : List Addr} {F H : Hp} (s : Sub L F H) {b : Addr} {o : HO} (h : F b = some o) : ∃ u, H b = some u := by
  rcases s _ _ h with e | ⟨_, _, od, e⟩
  · exact ⟨_, e⟩
  · exact ⟨_, e⟩
theorem Sub.noneF {L : List Addr} {F H : Hp} (s : Sub L F H) {p : Addr} (n : H p = none) : F p = none := by
  cases q : F p with
  | none => rfl
  | some u =>
    obtain ⟨z, e⟩ := s.some q
    rw [e] at n
    cases n
/-- F: what never changes; R: what others hold; fp: what is one's own -/
structure Hs (L : List Addr) (F R : Hp) (fp : Cells) (H : Hp) : Prop where
  f : Sub L F H
  r : L2.Same R H
  d : ∀ b o, R b = some o → F b = none
  c : ∀ p ∈ fp, H p.1 = some p.2 ∧ F p.1 = none ∧ R p.1 = none
  n : (fp.map (·.1)).Nodup
def ER (K : PySem.W.Frag) (L : List Addr) (R F H : Hp) (ex : Cells) (σ : L2.St) (e : En) : Prop := ∃ fp, SR K F σ e fp ∧ Hs L F R (ex ++ fp) H
section
variable {K : PySem.W.Frag} {L : List Addr} {F F' R H H' : Hp} {fp fq ex : Cells} {σ : L2.St} {e : En}
theorem SR.rx (r : Rx F F') : ∀ {σ : L2.St} {e : En} {fp : Cells}, SR K F σ e fp → SR K F' σ e fp
  | _, _, _, .nil => .nil
  | _, _, _, .no t => .no (SR.rx r t)
  | _, _, _, .so h t => .so (h.rx r) (SR.rx r t)
theorem SR.length : ∀ {σ : L2.St} {e : En} {fp : Cells}, SR K F σ e fp → σ.length = e.length
  | _, _, _, .nil => rfl
  | _, _, _, .no t => congrArg (· + 1) t.length
  | _, _, _, .so _ t => congrArg (· + 1) t.length
theorem Hs.fr (h : Hs L F R fp H) : Fr F fp := ⟨fun p m => (h.c p m).2.1, h.n⟩
theorem Hs.perm (h : Hs L F R fp H) (p : fp.Perm fq) : Hs L F R fq H := ⟨h.f, h.r, h.d, fun q m => h.c q (p.mem_iff.mpr m), (p.map _).nodup_iff.mp h.n⟩
/-- own cells are frozen -/
theorem Hs.freeze (h : Hs L F R (fp ++ fq) H) : Hs L (plus fp F) R fq H := by
  have hc := h.c
  have nd := h.n
  rw [List.map_append] at nd
  obtain ⟨n1, n2, n3⟩ := List.nodup_append.mp nd
  have nin : ∀ p ∈ fq, p.1 ∉ fp.map (·.1) := fun p m z => n3 _ z _ (List.mem_map_of_mem m) rfl
  refine ⟨fun b o e => ?_, h.r, fun b o e => ?_, fun p m => ?_, n2⟩
  · by_cases hb : b ∈ fp.map (·.1)
    · obtain ⟨p, hp, rfl⟩ := List.mem_map.mp hb
      rw [plus_mem n1 hp] at e
      refine .inl ?_
      rw [(hc p (List.mem_append_left _ hp)).1]
      exact e
    · rw [plus_not hb] at e
      exact h.f _ _ e
  · have hb : b ∉ fp.map (·.1) := fun z => by
      obtain ⟨p, hp, rfl⟩ := List.mem_map.mp z
      rw [(hc p (List.mem_append_left _ hp)).2.2] at e
      cases e
    rw [plus_not hb]
    exact h.d _ _ e
  · obtain ⟨a, b, c⟩ := hc p (List.mem_append_right _ m)
    exact ⟨a, by rw [plus_not (nin p m)]; exact b, c⟩
/-- a new own cell -/
theorem Hs.new {p : Addr} {o : HO} (h : Hs L F R fp H) (n : H p = none) : Hs L F R ((p, o) :: fp) (upd H p o) := by
  have nF : F p = none := h.f.noneF n
  have nR : R p = none := by
    cases q : R p with
    | none => rfl
    | some u => rw [h.r _ _ q] at n; cases n
  refine ⟨fun b u e => ?_, fun b u e => ?_, h.d, fun q m => ?_, List.nodup_cons.mpr ⟨fun z => ?_, h.n⟩⟩
  · rw [upd_ne (fun z => by rw [z, nF] at e; cases e)]
    exact h.f _ _ e
  · rw [upd_ne (fun z => by rw [z, nR] at e; cases e)]; exact h.r _ _ e
  · rcases List.mem_cons.mp m with rfl | m
    · exact ⟨upd_same, nF, nR⟩
    · obtain ⟨a, b, c⟩ := h.c q m
      exact ⟨by rw [upd_ne (fun z => by rw [z, n] at a; cases a)]; exact a, b, c⟩
  · obtain ⟨q, hq, e⟩ := List.mem_map.mp z
    have := (h.c q hq).1
    rw [e, n] at this
    cases this
/-- a new frozen thing -/
theorem Hs.newF {p : Addr} {o : HO} (h : Hs L F R fp H) (n : H p = none) : Hs L (upd F p o) R fp (upd H p o) ∧ L2.Same F (upd F p o) := by
  have h1 := h.new (o := o) n
  exact ⟨Hs.freeze (fp := [(p, o)]) h1, Fr.same (fp := [(p, o)]) ⟨fun q m => by rw [List.mem_singleton.mp m]; exact (h1.c _ List.mem_cons_self).2.1, by simp⟩⟩
/-- an own cell is written -/
theorem Hs.write {p : Addr} {o o' : HO} (h : Hs L F R ((p, o) :: fp) H) : Hs L F R ((p, o') :: fp) (upd H p o') := by
  obtain ⟨hp, nF, nR⟩ := h.c (p, o) List.mem_cons_self
  have nd := List.nodup_cons.mp h.n
  refine ⟨fun b u e => ?_, fun b u e => ?_, h.d, fun q m => ?_, h.n⟩
  · rw [upd_ne (fun z => by rw [z, nF] at e; cases e)]
    exact h.f _ _ e
  · rw [upd_ne (fun z => by rw [z, nR] at e; cases e)]; exact h.r _ _ e
  · rcases List.mem_cons.mp m with rfl | m
    · exact ⟨upd_same, nF, nR⟩
    · obtain ⟨a, b, c⟩ := h.c q (List.mem_cons_of_mem _ m)
      have : q.1 ≠ p := fun z => nd.1 (by show p ∈ _; rw [← z]; exact List.mem_map_of_mem m)
      exact ⟨by rw [upd_ne this]; exact a, b, c⟩
/-- own cells are laid among what others hold, and taken back -/
theorem Hs.give (h : Hs L F R (fp ++ fq) H) : Hs L F (plus fp R) fq H := by
  have hc := h.c
  have nd := h.n
  rw [List.map_append] at nd
  obtain ⟨n1, n2, n3⟩ := List.nodup_append.mp nd
  have nin : ∀ p ∈ fq, p.1 ∉ fp.map (·.1) := fun p m z => n3 _ z _ (List.mem_map_of_mem m) rfl
  refine ⟨h.f, fun b o e => ?_, fun b o e => ?_, fun p m => ?_, n2⟩
  · by_cases hb : b ∈ fp.map (·.1)
    · obtain ⟨p, hp, rfl⟩ := List.mem_map.mp hb
      rw [plus_mem n1 hp] at e
      rw [(hc p (List.mem_append_left _ hp)).1]
      exact e
    · rw [plus_not hb] at e
      exact h.r _ _ e
  · by_cases hb : b ∈ fp.map (·.1)
    · obtain ⟨p, hp, rfl⟩ := List.mem_map.mp hb
      exact (hc p (List.mem_append_left _ hp)).2.1
    · rw [plus_not hb] at e
      exact h.d _ _ e
  · obtain ⟨a, b, c⟩ := hc p (List.mem_append_right _ m)
    exact ⟨a, b, by rw [plus_not (nin p m)]; exact c⟩
theorem Hs.take (n1 : (fp.map (·.1)).Nodup) (nR : ∀ p ∈ fp, R p.1 = none) (h : Hs L F (plus fp R) fq H) : Hs L F R (fp ++ fq) H := by
  have frR : Fr R fp := ⟨nR, n1⟩
  refine ⟨h.f, frR.same.trans h.r, fun b o e => h.d b o (frR.same _ _ e), fun p m => ?_, ?_⟩
  · rcases List.mem_append.mp m with m | m
    · have e := plus_mem (F := R) n1 m
      exact ⟨h.r _ _ e, h.d _ _ e, nR p m⟩
    · obtain ⟨a, b, c⟩ := h.c p m
      refine ⟨a, b, ?_⟩
      cases q : R p.1 with
      | none => rfl
      | some u => rw [frR.same _ _ q] at c; cases c
  · rw [List.map_append]
    refine List.nodup_append.mpr ⟨n1, h.n, fun a ha b hb e => ?_⟩
    obtain ⟨p, hp, rfl⟩ := List.mem_map.mp ha
    obtain ⟨q, hq, rfl⟩ := List.mem_map.mp hb
    have c := (h.c q hq).2.2
    rw [← e, plus_mem n1 hp] at c
    cases c
end
end GD
/-! own data layer: judgements, names, operators -/
namespace GD
open PySem PySem.Spec PyProof.Rows L2

/-- an error: its class, its fields (none: it has no dict) -/
structure Ex where
  cls : Addr
  fs : Option (List (Str × D))
inductive Rs (α : Type) where
  | ok (a : α) (e : En) | ex (x : Ex) (e : En)
abbrev OM (α : Type) := En → Option (Rs α)
def bnd {α β : Type} (m : Option (Rs α)) (f : α → En → Option (Rs β)) : Option (Rs β) :=
  match m with
  | some (.ok a e) => f a e
  | some (.ex x e) => some (.ex x e)
  | none => none
theorem bnd_congr {α β : Type} {m m' : Option (Rs α)} {f : α → En → Option (Rs β)} (h : m = m') : bnd m f = bnd m' f := by rw [h]
theorem bnd_ok {α β : Type} {a : α} {e : En} {f : α → En → Option (Rs β)} : bnd (some (.ok a e)) f = f a e := rfl
theorem bnd_ex {α β : Type} {x : Ex} {e : En} {f : α → En → Option (Rs β)} : bnd (some (.ex x e)) f = some (.ex x e) := rfl
def un? {α β : Type} (g : α → Option β) (a : α) (e : En) : Option (Rs β) := match g a with | some b => some (.ok b e) | none => none
def XcR (K : PySem.W.Frag) (F : Hp) (cls : Value) (d : Option Addr) (x : Ex) : Prop :=
  cls = .ref x.cls ∧ match x.fs with
    | none => d = none
    | some fs => ∃ dd fv, d = some dd ∧ F dd = some (.xd fv) ∧ fv.map (·.1) = fs.map (·.1) ∧ FzL K F (fv.map (·.2)) (fs.map (·.2))
theorem XcR.mono {K : PySem.W.Frag} {F F' : Hp} {cls : Value} {d : Option Addr} {x : Ex} (s : L2.Same F F') (h : XcR K F cls d x) : XcR K F' cls d x := by
  obtain ⟨h1, h2⟩ := h
  refine ⟨h1, ?_⟩
  cases hx : x.fs with
  | none => rw [hx] at h2; exact h2
  | some fs =>
    rw [hx] at h2
    obtain ⟨dd, fv, a, b, c, e⟩ := h2
    exact ⟨dd, fv, a, s _ _ b, c, e.mono s⟩

section
variable {α β : Type}
def Post (K : PySem.W.Frag) (W : WX) (L : List Addr) (R F : Hp) (σ : L2.St) (rel : Hp → β → α → Cells → Prop) : Rs α → (β → Hp → Prop) → Prop
  | .ok a e', Q => ∀ b H' F' ex, L2.Same F F' → rel F' b a ex → ER K L R F' H' ex σ e' → Q b H'
  | .ex x e', _ => ∀ cls d H' F', L2.Same F F' → XcR K F' cls d x → ER K L R F' H' [] σ e' → W cls d σ H'
def OkG (K : PySem.W.Frag) (W : WX) (Lk : List Addr → Prop) (rel : Hp → β → α → Cells → Prop) (t : L2.St → Hp → (β → Hp → Prop) → Prop) (m : OM α) : Prop :=
  ∀ (L : List Addr) (R F H : Hp) (σ : L2.St) (ê : En) (r : Rs α) (Q : β → Hp → Prop), Lk L → ER K L R F H [] σ ê → m ê = some r → Post K W L R F σ rel r Q → t σ H Q
theorem Post.mono {K : PySem.W.Frag} {W : WX} {L : List Addr} {R F F1 : Hp} {σ : L2.St} {rel : Hp → β → α → Cells → Prop} {r : Rs α} {Q : β → Hp → Prop} (s : L2.Same F F1) (h : Post K W L R F σ rel r Q) : Post K W L R F1 σ rel r Q := by
  cases r with
  | ok a e => exact fun b H' F' ex s' => h b H' F' ex (s.trans s')
  | ex x e => exact fun cls d H' F' s' => h cls d H' F' (s.trans s')
end
def relD (K : PySem.W.Frag) : Hp → V → D → Cells → Prop := fun F v d ex => Fz K F v d ∧ ex = []
def relX (K : PySem.W.Frag) : Hp → V → X → Cells → Prop := fun F v x ex => XR K F v x ex
def relB : Hp → Bool → Bool → Cells → Prop := fun _ b c ex => b = c ∧ ex = []
def relA (K : PySem.W.Frag) : Hp → List V → List D → Cells → Prop := fun F vs ds ex => FzL K F vs ds ∧ ex = []
def relO : Hp → Option Int → Option Int → Cells → Prop := fun _ b c ex => b = c ∧ ex = []
section
variable (K : PySem.W.Frag) (W : WX) (Lk : List Addr → Prop)
abbrev OkD (t : TE) (m : OM D) : Prop := OkG K W Lk (relD K) t m
abbrev OkX (t : TE) (m : OM X) : Prop := OkG K W Lk (relX K) t m
abbrev OkT (t : TT) (m : OM Bool) : Prop := OkG K W Lk relB t m
abbrev OkA (t : TA) (m : OM (List D)) : Prop := OkG K W Lk (relA K) t m
abbrev OkO (t : TO) (m : OM (Option Int)) : Prop := OkG K W Lk relO t m
end
section
variable {K : PySem.W.Frag} {W : WX} {Lk : List Addr → Prop} {L : List Addr} {α β γ δ : Type} {rel : Hp → δ → γ → Cells → Prop}
/-- one behind the other -/
theorem OkG.run {α1 β1 : Type} {rel1 : Hp → β1 → α1 → Cells → Prop} {t : L2.St → Hp → (β1 → Hp → Prop) → Prop} {m : OM α1} {f : α1 → En → Option (Rs γ)} {k : β1 → Hp → Prop} {R F H : Hp} {σ : L2.St} {ê : En} {r : Rs γ} {Q : δ → Hp → Prop}
    (h : OkG K W Lk rel1 t m) (hL : Lk L) (hE : ER K L R F H [] σ ê) (hm : bnd (m ê) f = some r) (hP : Post K W L R F σ rel r Q)
    (hk : ∀ b a ex F' H' e', L2.Same F F' → rel1 F' b a ex → ER K L R F' H' ex σ e' → f a e' = some r → Post K W L R F' σ rel r Q → k b H') : t σ H k := by
  cases h1 : m ê with
  | none => simp only [h1, bnd] at hm; cases hm
  | some r1 =>
    cases r1 with
    | ex x e =>
      simp only [h1, bnd] at hm
      obtain rfl := Option.some.inj hm
      exact h L R F H σ ê _ _ hL hE h1 hP
    | ok a e =>
      simp only [h1, bnd] at hm
      exact h L R F H σ ê _ _ hL hE h1 fun v H1 F1 ex s1 hr hE1 => hk v a ex F1 H1 e s1 hr hE1 hm (hP.mono s1)
theorem un_some {α β : Type} {g : α → Option β} {a : α} {e : En} {r : Rs β} (h : un? g a e = some r) : ∃ b, g a = some b ∧ r = .ok b e := by
  unfold un? at h
  split at h
  · rename_i b hb
    exact ⟨b, hb, (Option.some.inj h).symm⟩
  · cases h
/-- frozen from one's own -/
def m_fr (m : OM X) : OM D := fun ê => bnd (m ê) fun x e => some (.ok (frz x) e)
theorem fr_ok {ê : En} {m : OM X} {x : X} {e : En} (h : m ê = some (.ok x e)) : m_fr m ê = some (.ok (frz x) e) := by unfold m_fr; rw [h]; rfl
theorem ER.freeze {K : PySem.W.Frag} {L : List Addr} {R F H : Hp} {ex : Cells} {σ : L2.St} {e : En} {v : V} {x : X} (hx : XR K F v x ex) (h : ER K L R F H ex σ e) : ∃ F', L2.Same F F' ∧ Fz K F' v (frz x) ∧ ER K L R F' H [] σ e := by
  obtain ⟨fp, hs, hh⟩ := h
  have f1 := hh.fr.left
  exact ⟨plus ex F, f1.same, hx.freeze f1, fp, hs.rx (.of f1.same), hh.freeze⟩
theorem fr_X {t : TE} {m : OM X} (h : OkX K W Lk t m) : OkD K W Lk t (m_fr m) := by
  intro L R F H σ ê r Q hL hE hm hP
  refine h.run hL hE hm hP fun v x ex F1 H1 e1 s1 hx hE hm hP => ?_
  obtain rfl := Option.some.inj hm
  obtain ⟨F', s, z, e⟩ := hE.freeze hx
  exact hP v H1 F' [] s ⟨z, rfl⟩ e
def m_up (m : OM D) : OM X := fun ê => bnd (m ê) fun d e => some (.ok (.fz d) e)
theorem up_D {t : TE} {m : OM D} (h : OkD K W Lk t m) : OkX K W Lk t (m_up m) := by
  intro L R F H σ ê r Q hL hE hm hP
  refine h.run hL hE hm hP fun v x ex F1 H1 e1 s1 hx hE hm hP => ?_
  obtain rfl := Option.some.inj hm
  obtain ⟨hx, rfl⟩ := hx
  exact hP v H1 F1 [] (.refl _) (.fz hx) hE
end

/-! ### names -/
def gt : En → Nat → Option X
  | [], _ => none
  | o :: _, 0 => o
  | _ :: r, i + 1 => gt r i
def st' : En → Nat → Option X → En
  | [], _, _ => []
  | _ :: r, 0, x => x :: r
  | o :: r, i + 1, x => o :: st' r i x
section
variable {K : PySem.W.Frag} {W : WX} {Lk : List Addr → Prop} {L : List Addr} {R F H : Hp} {σ : L2.St} {e : En} {fp ex : Cells} {i : Nat} {v : V} {x : X}
/-- the i-th slot apart -/
theorem SR.at : ∀ {σ : L2.St} {e : En} {fp : Cells} {i : Nat} {x : X}, SR K F σ e fp → gt e i = some x → ∃ v a b, σ[i]? = some (some v) ∧ XR K F v x a ∧ SR K F σ (st' e i none) b ∧ fp.Perm (a ++ b)
  | _, _, _, i, x, .nil, h => by cases h
  | _, _, _, 0, x, .no t, h => by cases h
  | _, _, _, 0, x, .so (v := v) (a := a) (b := b) r t, h => by
    obtain rfl := Option.some.inj h
    exact ⟨v, a, b, rfl, r, .no t, .refl _⟩
  | _, _, _, i + 1, x, .no t, h => by
    obtain ⟨v, a, b, h1, h2, h3, h4⟩ := SR.at t h
    exact ⟨v, a, b, h1, h2, .no h3, h4⟩
  | _, _, _, i + 1, x, .so (a := a0) (b := b0) r t, h => by
    obtain ⟨v, a, b, h1, h2, h3, h4⟩ := SR.at t h
    refine ⟨v, a, a0 ++ b, h1, h2, .so r h3, ?_⟩
    exact ((List.Perm.refl a0).append h4).trans (by
      rw [← List.append_assoc, ← List.append_assoc]
      exact List.perm_append_comm.append_right b)
/-- a value into an empty (or forgotten) slot -/
theorem SR.put : ∀ {σ : L2.St} {e : En} {fp : Cells} {i : Nat} {v : V} {x : X} {a : Cells}, SR K F σ e fp → i < σ.length → XR K F v x a → ∃ b c, SR K F (σ.set i (some v)) (st' e i (some x)) b ∧ b.Perm (a ++ c) ∧ c.Sublist fp
  | _, _, _, i, v, x, a, .nil, h, r => by simp at h
  | _, _, _, 0, v, x, a, .no (fp := fp) t, h, r => ⟨a ++ fp, fp, .so r t, .refl _, List.Sublist.refl _⟩
  | _, _, _, 0, v, x, a, .so (a := a0) (b := b0) r0 t, h, r => ⟨a ++ b0, b0, .so r t, .refl _, List.sublist_append_right _ _⟩
  | _, _, _, i + 1, v, x, a, .no t, h, r => by
    obtain ⟨b, c, h1, h2, h3⟩ := SR.put t (Nat.lt_of_succ_lt_succ h) r
    exact ⟨b, c, .no h1, h2, h3⟩
  | _, _, _, i + 1, v, x, a, .so (a := a0) (b := b0) r0 t, h, r => by
    obtain ⟨b, c, h1, h2, h3⟩ := SR.put t (Nat.lt_of_succ_lt_succ h) r
    refine ⟨a0 ++ b, a0 ++ c, .so r0 h1, ?_, (List.Sublist.refl a0).append h3⟩
    exact ((List.Perm.refl a0).append h2).trans (by
      rw [← List.append_assoc, ← List.append_assoc]
      exact List.perm_append_comm.append_right c)
/-- a value back into its own slot: the names stay -/
theorem SR.back {v : V} {x : X} {a : Cells} (r : XR K F v x a) : ∀ (e : En) (σ : L2.St) (fp : Cells) (i : Nat), SR K F σ (st' e i none) fp → σ[i]? = some (some v) → ∃ b, SR K F σ (st' e i (some x)) b ∧ b.Perm (a ++ fp) := by
  intro e
  induction e with
  | nil =>
    intro σ fp i h hi
    cases h
    simp at hi
  | cons o e ih =>
    intro σ fp i h hi
    cases i with
    | zero =>
      have h : SR K F σ (none :: e) fp := h
      cases h with
      | no t =>
        simp at hi
        subst hi
        exact ⟨_, .so r t, .refl _⟩
    | succ i =>
      have h : SR K F σ (o :: st' e i none) fp := h
      cases h with
      | no t =>
        obtain ⟨b, h1, h2⟩ := ih _ _ i t (by simpa using hi)
        exact ⟨b, .no h1, h2⟩
      | so r0 t =>
        obtain ⟨b, h1, h2⟩ := ih _ _ i t (by simpa using hi)
        refine ⟨_, .so r0 h1, ?_⟩
        exact ((List.Perm.refl _).append h2).trans (by
          rw [← List.append_assoc, ← List.append_assoc]
          exact List.perm_append_comm.append_right _)
theorem Hs.sub {L : List Addr} {F R H : Hp} {fp fq : Cells} (h : Hs L F R fp H) (s : fq.Sublist fp) : Hs L F R fq H := ⟨h.f, h.r, h.d, fun p m => h.c p (s.subset m), (s.map _).nodup h.n⟩
/-- a name read as data: what was its own is frozen -/
def m_var (i : Nat) : OM D := fun ê => match gt ê i with | some x => some (.ok (frz x) (st' ê i (some (.fz (frz x))))) | none => none
theorem var_D {i : Nat} : OkD K W Lk (tVar i) (m_var i) := by
  intro L R F H σ ê r Q hL hE hm hP
  unfold m_var at hm
  split at hm
  · rename_i x hx
    obtain rfl := Option.some.inj hm
    obtain ⟨fp, hs, hh⟩ := hE
    obtain ⟨v, a, b, h1, h2, h3, h4⟩ := hs.at hx
    have hh1 : Hs L F R (a ++ b) H := hh.perm h4
    have f1 := hh1.fr.left
    obtain ⟨c, k1, k2⟩ := SR.back (.fz (h2.freeze f1)) _ _ _ _ (h3.rx (.of f1.same)) h1
    exact ⟨v, h1, hP v H (plus a F) [] f1.same ⟨h2.freeze f1, rfl⟩ ⟨c, k1, hh1.freeze.perm (by simpa using k2.symm)⟩⟩
  · cases hm
/-- a name's own thing is moved out -/
def m_mv (i : Nat) : OM X := fun ê => match gt ê i with | some (.fz d) => some (.ok (.fz d) ê) | some x => some (.ok x (st' ê i none)) | none => none
theorem mv_X {i : Nat} : OkX K W Lk (tVar i) (m_mv i) := by
  intro L R F H σ ê r Q hL hE hm hP
  unfold m_mv at hm
  split at hm
  · rename_i d hx
    obtain rfl := Option.some.inj hm
    obtain ⟨fp, hs, hh⟩ := hE
    obtain ⟨v, a, b, h1, h2, h3, h4⟩ := hs.at hx
    have e : a = [] := by cases h2; rfl
    subst e
    exact ⟨v, h1, hP v H F [] (.refl _) h2 ⟨fp, hs, hh⟩⟩
  · rename_i x hx hx2
    obtain rfl := Option.some.inj hm
    obtain ⟨fp, hs, hh⟩ := hE
    obtain ⟨v, a, b, h1, h2, h3, h4⟩ := hs.at hx2
    exact ⟨v, h1, hP v H F a (.refl _) h2 ⟨b, h3, hh.perm h4⟩⟩
  · cases hm
def m_c (d : D) : OM D := fun ê => some (.ok d ê)
def toV : D → V
  | .bl b => .bl b
  | .int i => .int i
  | .str s => .str s
  | .ty n => .ty n
  | _ => .non
def flatD : D → Bool
  | .non => true | .bl _ => true | .int _ => true | .str _ => true | .ty _ => true
  | _ => false
theorem c_D {v : V} {d : D} (h : Fz K (fun _ => none) v d) : OkD K W Lk (tC v) (m_c d) := by
  intro L R F H σ ê r Q hL hE hm hP
  obtain rfl := Option.some.inj hm
  exact hP v H F [] (.refl _) ⟨h.mono (fun _ _ z => by cases z), rfl⟩ hE
end

/-! ### operators -/
def k2 {γ : Type} (g : D → D → Option γ) (mb : OM D) (a : D) (e : En) : Option (Rs γ) := bnd (mb e) (un? (g a))
def m2 {γ : Type} (g : D → D → Option γ) (ma mb : OM D) : OM γ := fun ê => bnd (ma ê) (k2 g mb)
def m1 {γ : Type} (g : D → Option γ) (ma : OM D) : OM γ := fun ê => bnd (ma ê) (un? g)
section
variable {K : PySem.W.Frag} {W : WX} {Lk : List Addr → Prop} {L : List Addr} {γ δ : Type} {rel : Hp → δ → γ → Cells → Prop} {ta tb : TE} {ma mb : OM D}
/-- what a plain operation must show: g tells the answer, the heap may grow -/
def Op2 (K : PySem.W.Frag) (rel : Hp → δ → γ → Cells → Prop) (rr : V → V → Hp → (δ → Hp → Prop) → Prop) (g : D → D → Option γ) : Prop :=
  ∀ x y dx dy (z : γ) (L : List Addr) (F R H : Hp) (fp : Cells) (Q : δ → Hp → Prop), Fz K F x dx → Fz K F y dy → Hs L F R fp H → g dx dy = some z →
    (∀ b H' F' ex, L2.Same F F' → rel F' b z ex → Hs L F' R (ex ++ fp) H' → Q b H') → rr x y H Q
def Op1 (K : PySem.W.Frag) (rel : Hp → δ → γ → Cells → Prop) (rr : V → Hp → (δ → Hp → Prop) → Prop) (g : D → Option γ) : Prop :=
  ∀ x dx (z : γ) (L : List Addr) (F R H : Hp) (fp : Cells) (Q : δ → Hp → Prop), Fz K F x dx → Hs L F R fp H → g dx = some z →
    (∀ b H' F' ex, L2.Same F F' → rel F' b z ex → Hs L F' R (ex ++ fp) H' → Q b H') → rr x H Q
def OpA (K : PySem.W.Frag) (rel : Hp → δ → γ → Cells → Prop) (rr : List V → Hp → (δ → Hp → Prop) → Prop) (g : List D → Option γ) : Prop :=
  ∀ x dx (z : γ) (L : List Addr) (F R H : Hp) (fp : Cells) (Q : δ → Hp → Prop), FzL K F x dx → Hs L F R fp H → g dx = some z →
    (∀ b H' F' ex, L2.Same F F' → rel F' b z ex → Hs L F' R (ex ++ fp) H' → Q b H') → rr x H Q
theorem op1_G {rr : V → Hp → (δ → Hp → Prop) → Prop} {g : D → Option γ} (o : Op1 K rel rr g) (ha : OkD K W Lk ta ma) : OkG K W Lk rel (fun σ H Q => ta σ H fun x H1 => rr x H1 Q) (m1 g ma) := by
  intro L R F H σ ê r Q hL hE hm hP
  refine ha.run hL hE hm hP fun v d ex F1 H1 e1 s1 hz hE hm hP => ?_
  obtain ⟨hz, rfl⟩ := hz
  obtain ⟨b, hb, rfl⟩ := un_some hm
  obtain ⟨fp, hs, hh⟩ := hE
  exact o v d b L F1 R H1 fp Q hz hh hb fun c H' F' ex s hr hh' => hP c H' F' ex s hr ⟨fp, hs.rx (.of s), hh'⟩
theorem op2_G {rr : V → V → Hp → (δ → Hp → Prop) → Prop} {g : D → D → Option γ} (o : Op2 K rel rr g) (ha : OkD K W Lk ta ma) (hb : OkD K W Lk tb mb) : OkG K W Lk rel (fun σ H Q => ta σ H fun x H1 => tb σ H1 fun y H2 => rr x y H2 Q) (m2 g ma mb) := by
  intro L R F H σ ê r Q hL hE hm hP
  refine ha.run hL hE hm hP fun v d ex F1 H1 e1 s1 hz hE hm hP => ?_
  obtain ⟨hz, rfl⟩ := hz
  refine hb.run hL hE hm hP fun v2 d2 ex2 F2 H2 e2 s2 hz2 hE hm hP => ?_
  obtain ⟨hz2, rfl⟩ := hz2
  obtain ⟨b, hb, rfl⟩ := un_some hm
  obtain ⟨fp, hs, hh⟩ := hE
  exact o v v2 d d2 b L F2 R H2 fp Q (hz.mono s2) hz2 hh hb fun c H' F' ex s hr hh' => hP c H' F' ex s hr ⟨fp, hs.rx (.of s), hh'⟩
theorem opA_G {t : TA} {m : OM (List D)} {rr : List V → Hp → (δ → Hp → Prop) → Prop} {g : List D → Option γ} (o : OpA K rel rr g) (ha : OkA K W Lk t m) : OkG K W Lk rel (fun σ H Q => t σ H fun x H1 => rr x H1 Q) (fun ê => bnd (m ê) (un? g)) := by
  intro L R F H σ ê r Q hL hE hm hP
  refine ha.run hL hE hm hP fun v d ex F1 H1 e1 s1 hz hE hm hP => ?_
  obtain ⟨hz, rfl⟩ := hz
  obtain ⟨b, hb, rfl⟩ := un_some hm
  obtain ⟨fp, hs, hh⟩ := hE
  exact o v d b L F1 R H1 fp Q hz hh hb fun c H' F' ex s hr hh' => hP c H' F' ex s hr ⟨fp, hs.rx (.of s), hh'⟩
end
end GD
/-! own data layer: operators and built-ins upon data -/
namespace GD
open PySem PySem.Spec PyProof.Rows L2

/-! ### ints -/
def intOp (f : Int → Int → Option D) : D → D → Option D
  | .int i, .int j => f i j
  | _, _ => none
theorem intOp_some {f : Int → Int → Option D} {a b z : D} (h : intOp f a b = some z) : ∃ i j, a = .int i ∧ b = .int j ∧ f i j = some z := by
  unfold intOp at h
  split at h
  · exact ⟨_, _, rfl, rfl, h⟩
  · cases h
/-- bounds that are never looked into -/
def B4 : Nat := 2 ^ 4000
theorem lt_B4 {n : Nat} (h : n < 10 ^ 1000) : n < B4 := Nat.lt_of_lt_of_le h (by unfold B4; decide +kernel)
def addI := intOp fun i j => some (.int (i + j))
def subI := intOp fun i j => some (.int (i - j))
def mulI := intOp fun i j => if i.natAbs < B4 ∧ j.natAbs < B4 then some (.int (i * j)) else none
def divI := intOp fun i j => if 0 < j ∧ j.natAbs < B4 then some (.int (i / j)) else none
def modI := intOp fun i j => if 0 < j then some (.int (i % j)) else none
def powI := intOp fun i j => if 0 ≤ j ∧ j ≤ 1000000 ∧ i.natAbs < 2 ^ 64 then some (.int (i ^ j.toNat)) else none
def ltI := intOp fun i j => some (.bl (decide (i < j)))
def leI := intOp fun i j => some (.bl (decide (i ≤ j)))
def gtI := intOp fun i j => some (.bl (decide (j < i)))
def geI := intOp fun i j => some (.bl (decide (j ≤ i)))
def negI : D → Option D
  | .int i => some (.int (-i))
  | _ => none
section
variable {K : PySem.W.Frag}
theorem o_rI0 {f : Int → Int → V} {g : Int → Int → D} (h : ∀ F i j, Fz K F (f i j) (g i j)) : Op2 K (relD K) (rI0 f) (intOp fun i j => some (g i j)) := by
  intro x y dx dy z L F R H fp Q hx hy hh hg q
  obtain ⟨i, j, rfl, rfl, e⟩ := intOp_some hg
  obtain rfl := Option.some.inj e
  exact ⟨i, j, hx.toInt, hy.toInt, q _ H F [] (.refl _) ⟨h F i j, rfl⟩ hh⟩
theorem o_rI {C : Int → Int → Prop} {c : Int → Int → Prop} [∀ i j, Decidable (c i j)] {f : Int → Int → V} {g : Int → Int → D} (h : ∀ F i j, Fz K F (f i j) (g i j)) (hc : ∀ i j, c i j → C i j) : Op2 K (relD K) (rI C f) (intOp fun i j => if c i j then some (g i j) else none) := by
  intro x y dx dy z L F R H fp Q hx hy hh hg q
  obtain ⟨i, j, rfl, rfl, e⟩ := intOp_some hg
  split at e
  · rename_i hc0
    obtain rfl := Option.some.inj e
    exact ⟨i, j, hx.toInt, hy.toInt, hc i j hc0, q _ H F [] (.refl _) ⟨h F i j, rfl⟩ hh⟩
  · cases e
theorem o_add : Op2 K (relD K) (rI0 fun i j => .int (i + j)) addI := o_rI0 fun _ _ _ => .int _
theorem o_sub : Op2 K (relD K) (rI0 fun i j => .int (i - j)) subI := o_rI0 fun _ _ _ => .int _
theorem o_mulW : Op2 K (relD K) (rI CMulW fun i j => .int (i * j)) mulI := o_rI (fun _ _ _ => .int _) fun i j h => wide_mul (a := 4000) (b := 4000) h.1 h.2 (by decide) (by decide) (by decide)
theorem o_divW : Op2 K (relD K) (rI CDivW fun i j => .int (i / j)) divI := o_rI (fun _ _ _ => .int _) fun i j h => wide_div (b := 4000) h.1 h.2 (by decide) (by decide)
theorem o_mod : Op2 K (relD K) (rI (fun _ j => 0 < j) fun i j => .int (i % j)) modI := o_rI (fun _ _ _ => .int _) fun i j h => h
theorem o_pow : Op2 K (relD K) (rI CPow fun i j => .int (i ^ j.toNat)) powI := o_rI (fun _ _ _ => .int _) fun i j h => h
theorem o_lt : Op2 K (relD K) (rI0 fun i j => .bl (decide (i < j))) ltI := o_rI0 fun _ _ _ => .bl _
theorem o_le : Op2 K (relD K) (rI0 fun i j => .bl (decide (i ≤ j))) leI := o_rI0 fun _ _ _ => .bl _
theorem o_gt : Op2 K (relD K) (rI0 fun i j => .bl (decide (j < i))) gtI := o_rI0 fun _ _ _ => .bl _
theorem o_ge : Op2 K (relD K) (rI0 fun i j => .bl (decide (j ≤ i))) geI := o_rI0 fun _ _ _ => .bl _
theorem o_neg : Op1 K (relD K) (rU fun i => .int (-i)) negI := by
  intro x dx z L F R H fp Q hx hh hg q
  unfold negI at hg
  split at hg
  · obtain rfl := Option.some.inj hg
    exact ⟨_, hx.toInt, q _ H F [] (.refl _) ⟨.int _, rfl⟩ hh⟩
  · cases hg
end

/-! ### is, ==, in -/
def isNon : D → Bool
  | .non => true
  | _ => false
def isN : D → D → Option D
  | d, .non => some (.bl (isNon d))
  | _, _ => none
def notN : D → D → Option D
  | d, .non => some (.bl (!isNon d))
  | _, _ => none
def isB (neg : Bool) : D → D → Option D
  | .bl a, .bl b => some (.bl (xor neg (decide (a = b))))
  | _, _ => none
mutual
def toP : D → Option PyData
  | .non => some .none
  | .bl b => some (.bool b)
  | .int i => some (.int i)
  | .str s => some (.str s)
  | .lst xs => (toPs xs).map .list
  | .tup xs => (toPs xs).map .tuple
  | .tuw xs => (toPs xs).map .tuple
  | _ => none
def toPs : List D → Option (List PyData)
  | [] => some []
  | d :: r => match toP d, toPs r with
    | some p, some ps => some (p :: ps)
    | _, _ => none
end
def eqD (neg : Bool) (a b : D) : Option D :=
  match toP a, toP b with
  | some p, some q => if SeqAt.shaped p = true ∧ SeqAt.shaped q = true then some (.bl (xor neg (PyData.eqv p q))) else none
  | _, _ => none
def flatF : D → Bool
  | .non => true | .bl _ => true | .int _ => true | .str _ => true
  | _ => false
def inF (neg : Bool) (x xs : D) : Option D :=
  match xs with
  | .lst ds => if flatF x = true ∧ ds.all flatF = true then some (.bl (xor neg (ds.any fun y => eqV (toV y) (toV x)))) else none
  | .tup ds => if flatF x = true ∧ ds.all flatF = true then some (.bl (xor neg (ds.any fun y => eqV (toV y) (toV x)))) else none
  | .tuw ds => if flatF x = true ∧ ds.all flatF = true then some (.bl (xor neg (ds.any fun y => eqV (toV y) (toV x)))) else none
  | _ => none
def inSign (neg : Bool) (x s : D) : Option D :=
  match x, s with
  | .str c, .str z => match c.cps.toList with
    | [a] => some (.bl (xor neg (decide (a ∈ z.cps.toList))))
    | _ => none
  | _, _ => none
section
variable {K : PySem.W.Frag} {F H : Hp}
theorem Fz.isNon {v : V} {d : D} (h : Fz K F v d) : decide (v = .non) = isNon d := by cases h <;> rfl
theorem o_isN : Op2 K (relD K) (fun x y H Q => y = .non ∧ Q (.bl (decide (x = .non))) H) isN := by
  intro x y dx dy z L F R H fp Q hx hy hh hg q
  unfold isN at hg
  split at hg
  · obtain rfl := Option.some.inj hg
    exact ⟨hy.toNon, q _ H F [] (.refl _) ⟨hx.isNon ▸ .bl _, rfl⟩ hh⟩
  · cases hg
theorem o_notN : Op2 K (relD K) (fun x y H Q => y = .non ∧ Q (.bl (!decide (x = .non))) H) notN := by
  intro x y dx dy z L F R H fp Q hx hy hh hg q
  unfold notN at hg
  split at hg
  · obtain rfl := Option.some.inj hg
    exact ⟨hy.toNon, q _ H F [] (.refl _) ⟨hx.isNon ▸ .bl _, rfl⟩ hh⟩
  · cases hg
theorem o_isB : Op2 K (relD K) rIsB (isB false) := by
  intro x y dx dy z L F R H fp Q hx hy hh hg q
  unfold isB at hg
  split at hg
  · obtain rfl := Option.some.inj hg
    rename_i a b
    exact ⟨a, b, hx.toBl, hy.toBl, q _ H F [] (.refl _) ⟨by rw [Bool.false_xor]; exact .bl _, rfl⟩ hh⟩
  · cases hg
theorem o_notB : Op2 K (relD K) rNotB (isB true) := by
  intro x y dx dy z L F R H fp Q hx hy hh hg q
  unfold isB at hg
  split at hg
  · obtain rfl := Option.some.inj hg
    rename_i a b
    exact ⟨a, b, hx.toBl, hy.toBl, q _ H F [] (.refl _) ⟨by rw [Bool.true_xor]; exact .bl _, rfl⟩ hh⟩
  · cases hg
theorem toP_lst {ds : List D} : toP (.lst ds) = (toPs ds).map .list := by rw [toP]
theorem toP_tup {ds : List D} : toP (.tup ds) = (toPs ds).map .tuple := by rw [toP]
theorem toP_tuw {ds : List D} : toP (.tuw ds) = (toPs ds).map .tuple := by rw [toP]
theorem toP_non : toP .non = some .none := by rw [toP]
theorem toP_bl {b : Bool} : toP (.bl b) = some (.bool b) := by rw [toP]
theorem toP_int {i : Int} : toP (.int i) = some (.int i) := by rw [toP]
theorem toP_str {x : Str} : toP (.str x) = some (.str x) := by rw [toP]
theorem toP_ty {n : String} : toP (.ty n) = none := by simp [toP]
theorem toP_dic {n : List (Key × D)} : toP (.dic n) = none := by simp [toP]
theorem toP_dtk {n : List (List Key × D)} : toP (.dtk n) = none := by simp [toP]
theorem toP_ins {C : Addr} {n : List (Str × D)} : toP (.ins C n) = none := by simp [toP]
theorem toP_scr {n : List Int} : toP (.scr n) = none := by simp [toP]
theorem toPs_nil : toPs [] = some [] := by rw [toPs]
theorem toPs_cons {d : D} {ds : List D} : toPs (d :: ds) = match toP d, toPs ds with | some p, some ps => some (p :: ps) | _, _ => none := by rw [toPs]
mutual
theorem Fz.dp (s : Rx F H) {v : V} {d : D} {p : PyData} (h : Fz K F v d) (e : toP d = some p) : Dp K H v p := by
  cases h with
  | non => rw [toP_non] at e; cases e; exact .non
  | bl b => rw [toP_bl] at e; cases e; exact .bl b
  | int i => rw [toP_int] at e; cases e; exact .int i
  | str x => rw [toP_str] at e; cases e; exact .str x
  | lst h t =>
    rw [toP_lst] at e
    obtain ⟨ps, e1, rfl⟩ := Option.map_eq_some_iff.mp e
    exact   .lst (.of (s.lst _ _ h)) (FzL.dp s t e1)
  | tup h t =>
    rw [toP_tup] at e
    obtain ⟨ps, e1, rfl⟩ := Option.map_eq_some_iff.mp e
    exact .tup (s.tpf _ _ h).sq (FzL.dp s t e1)
  | tuw h t =>
    rw [toP_tuw] at e
    obtain ⟨ps, e1, rfl⟩ := Option.map_eq_some_iff.mp e
    exact .tup (s.sqT h) (FzL.dp s t e1)
  | ty n => rw [toP_ty] at e; cases e
  | scr h => rw [toP_scr] at e; cases e
  | dic h _ _ => rw [toP_dic] at e; cases e
  | dtk h _ _ => rw [toP_dtk] at e; cases e
  | ins h _ _ => rw [toP_ins] at e; cases e
theorem FzL.dp (s : Rx F H) {vs : List V} {ds : List D} {ps : List PyData} (h : FzL K F vs ds) (e : toPs ds = some ps) : DpAll K H vs ps := by
  cases h with
  | nil => rw [toPs_nil] at e; cases e; exact .nil
  | cons h t =>
    rw [toPs_cons] at e
    split at e
    · rename_i p ps e1 e2
      obtain rfl := Option.some.inj e
      exact .cons (Fz.dp s h e1) (FzL.dp s t e2)
    · cases e
end
theorem o_eqD : Op2 K (relD K) (rEqD K) (eqD false) := by
  intro x y dx dy z L F R H fp Q hx hy hh hg q
  unfold eqD at hg
  split at hg
  · rename_i a b ea eb
    split at hg
    · rename_i hs
      obtain rfl := Option.some.inj hg
      exact ⟨a, b, hx.dp hh.f.rx ea, hy.dp hh.f.rx eb, hs.1, hs.2, q _ H F [] (.refl _) ⟨by rw [Bool.false_xor]; exact .bl _, rfl⟩ hh⟩
    · cases hg
  · cases hg
theorem o_neD : Op2 K (relD K) (rNeD K) (eqD true) := by
  intro x y dx dy z L F R H fp Q hx hy hh hg q
  unfold eqD at hg
  split at hg
  · rename_i a b ea eb
    split at hg
    · rename_i hs
      obtain rfl := Option.some.inj hg
      exact ⟨a, b, hx.dp hh.f.rx ea, hy.dp hh.f.rx eb, hs.1, hs.2, q _ H F [] (.refl _) ⟨by rw [Bool.true_xor]; exact .bl _, rfl⟩ hh⟩
    · cases hg
  · cases hg
theorem Fz.flat {v : V} {d : D} (h : Fz K F v d) (f : flatF d = true) : v = toV d ∧ flatV v = true := by
  cases h <;> first | exact ⟨rfl, rfl⟩ | cases f
theorem FzL.flat : ∀ {vs : List V} {ds : List D}, FzL K F vs ds → ds.all flatF = true → vs = ds.map toV ∧ vs.all flatV = true
  | _, _, .nil, _ => ⟨rfl, rfl⟩
  | _, _, .cons h t, f => by
    rw [List.all_cons, Bool.and_eq_true] at f
    obtain ⟨e1, f1⟩ := h.flat f.1
    obtain ⟨e2, f2⟩ := t.flat f.2
    refine ⟨by rw [e1, e2]; rfl, ?_⟩
    rw [List.all_cons, f1, f2]
    rfl
theorem inV_map (x : D) (ds : List D) : inV (toV x) (ds.map toV) = ds.any fun y => eqV (toV y) (toV x) := by
  unfold inV
  rw [List.any_map]
  rfl
theorem o_in (neg : Bool) : Op2 K (relD K) (rIn K neg) (inF neg) := by
  intro x y dx dy z L F R H fp Q hx hy hh hg q
  have fin : ∀ (vs : List V) (ds : List D), FzL K F vs ds → flatF dx = true → ds.all flatF = true → flatV x = true ∧ vs.all flatV = true ∧ (if neg then !inV x vs else inV x vs) = xor neg (ds.any fun y => eqV (toV y) (toV dx)) := fun vs ds t f1 f2 => by
    obtain ⟨e1, k1⟩ := hx.flat f1
    obtain ⟨e2, k2⟩ := t.flat f2
    refine ⟨k1, k2, ?_⟩
    rw [e1, e2, inV_map]
    cases neg <;> simp
  unfold inF at hg
  split at hg
  · split at hg
    · rename_i ds hs
      obtain rfl := Option.some.inj hg
      cases hy with
      | lst h t =>
        obtain ⟨a, b, c⟩ := fin _ _ t hs.1 hs.2
        exact ⟨_, _, rfl, .inl (.of (hh.f.rx.lst _ _ h)), a, b, q _ H F [] (.refl _) ⟨by rw [c]; exact .bl _, rfl⟩ hh⟩
    · cases hg
  · split at hg
    · rename_i ds hs
      obtain rfl := Option.some.inj hg
      cases hy with
      | tup h t =>
        obtain ⟨a, b, c⟩ := fin _ _ t hs.1 hs.2
        exact ⟨_, _, rfl, .inr ((hh.f.rx.tpf _ _ h).sq), a, b, q _ H F [] (.refl _) ⟨by rw [c]; exact .bl _, rfl⟩ hh⟩
    · cases hg
  · split at hg
    · rename_i ds hs
      obtain rfl := Option.some.inj hg
      cases hy with
      | tuw h t =>
        obtain ⟨a, b, c⟩ := fin _ _ t hs.1 hs.2
        exact ⟨_, _, rfl, .inr (hh.f.rx.sqT h), a, b, q _ H F [] (.refl _) ⟨by rw [c]; exact .bl _, rfl⟩ hh⟩
    · cases hg
  · cases hg
theorem str_of {c : Str} {a : Nat} (h : c.cps.toList = [a]) : c = ⟨#[a]⟩ := by
  obtain ⟨⟨l⟩⟩ := c
  have h : l = [a] := h
  rw [h]
theorem o_inSign : Op2 K (relD K) (fun x y H Q => ∃ (c : Nat) (z : Str), x = .str ⟨#[c]⟩ ∧ y = .str z ∧ Q (.bl (decide (c ∈ z.cps.toList))) H) (inSign false) := by
  intro x y dx dy z L F R H fp Q hx hy hh hg q
  unfold inSign at hg
  split at hg
  · split at hg
    · rename_i a e
      obtain rfl := Option.some.inj hg
      exact ⟨a, _, by rw [hx.toStr, str_of e], hy.toStr, q _ H F [] (.refl _) ⟨by rw [Bool.false_xor]; exact .bl _, rfl⟩ hh⟩
    · cases hg
  · cases hg
theorem o_notInSign : Op2 K (relD K) (fun x y H Q => ∃ (c : Nat) (z : Str), x = .str ⟨#[c]⟩ ∧ y = .str z ∧ Q (.bl (!decide (c ∈ z.cps.toList))) H) (inSign true) := by
  intro x y dx dy z L F R H fp Q hx hy hh hg q
  unfold inSign at hg
  split at hg
  · split at hg
    · rename_i a e
      obtain rfl := Option.some.inj hg
      exact ⟨a, _, by rw [hx.toStr, str_of e], hy.toStr, q _ H F [] (.refl _) ⟨by rw [Bool.true_xor]; exact .bl _, rfl⟩ hh⟩
    · cases hg
  · cases hg
end

/-! ### lists, tuples, texts: displays, places, parts, + -/
def ixL : D → D → Option D
  | .lst ds, .int i => atI ds i
  | _, _ => none
def ixT : D → D → Option D
  | .tup ds, .int i => atI ds i
  | .tuw ds, .int i => atI ds i
  | _, _ => none
def ixS : D → D → Option D
  | .str z, .int i => if z.length ≤ sizeLine then (atI z.cps.toList i).map fun c => .str ⟨#[c]⟩ else none
  | _, _ => none
def cutG {α : Type} (xs : List α) (lo hi : Option Int) : List α := (xs.drop (HT.sIx xs.length 0 lo)).take (HT.sIx xs.length xs.length hi - HT.sIx xs.length 0 lo)
def catL : D → D → Option X
  | .lst a, .lst b => if a.length + b.length ≤ sizeLine then some (.ol (a ++ b)) else none
  | _, _ => none
def catT : D → D → Option D
  | .tup a, .tup b => if a.length + b.length ≤ sizeLine then some (.tup (a ++ b)) else none
  | _, _ => none
def catS : D → D → Option D
  | .str a, .str b => if a.length + b.length ≤ sizeLine then some (.str (a ++ b)) else none
  | _, _ => none
def repL : D → D → Option X
  | .lst a, .int k => if -(2 ^ 63) ≤ k ∧ k < 2 ^ 63 ∧ a.length * k.toNat ≤ sizeLine then some (.ol (List.replicate k.toNat a).flatten) else none
  | _, _ => none
section
variable {K : PySem.W.Frag} {W : WX} {Lk : List Addr → Prop} {L : List Addr} {F H : Hp}
theorem FzL.atI {vs : List V} {ds : List D} {i : Int} {d : D} (h : FzL K F vs ds) (e : atI ds i = some d) : ∃ v, L2.atI vs i = some v ∧ Fz K F v d := by
  unfold L2.atI at e ⊢
  obtain ⟨j, h1, h2⟩ := Option.bind_eq_some_iff.mp e
  obtain ⟨v, h3, h4⟩ := h.get h2
  rw [h.length, h1]
  exact ⟨v, h3, h4⟩
theorem FzL.cut {vs : List V} {ds : List D} {lo hi : Option Int} (h : FzL K F vs ds) : FzL K F (cutV vs lo hi) (cutG ds lo hi) := by
  unfold cutV cutG
  rw [h.length]
  exact (h.drop _).take _
theorem o_ixL : Op2 K (relD K) (rIxL K) ixL := by
  intro x y dx dy z L F R H fp Q hx hy hh hg q
  unfold ixL at hg
  split at hg
  · cases hx with
    | lst h t =>
      obtain ⟨v, e, f⟩ := t.atI hg
      exact ⟨_, _, _, v, rfl, hy.toInt, .of (hh.f.rx.lst _ _ h), e, q _ H F [] (.refl _) ⟨f, rfl⟩ hh⟩
  · cases hg
theorem o_ixT : Op2 K (relD K) (rIxT K) ixT := by
  intro x y dx dy z L F R H fp Q hx hy hh hg q
  unfold ixT at hg
  split at hg
  · cases hx with
    | tup h t =>
      obtain ⟨v, e, f⟩ := t.atI hg
      exact ⟨_, _, _, v, rfl, hy.toInt, (hh.f.rx.tpf _ _ h).sq, e, q _ H F [] (.refl _) ⟨f, rfl⟩ hh⟩
  · cases hx with
    | tuw h t =>
      obtain ⟨v, e, f⟩ := t.atI hg
      exact ⟨_, _, _, v, rfl, hy.toInt, hh.f.rx.sqT h, e, q _ H F [] (.refl _) ⟨f, rfl⟩ hh⟩
  · cases hg
theorem o_ixS : Op2 K (relD K) rIxS ixS := by
  intro x y dx dy z L F R H fp Q hx hy hh hg q
  unfold ixS at hg
  split at hg
  · split at hg
    · rename_i hz
      obtain ⟨c, e, rfl⟩ := Option.map_eq_some_iff.mp hg
      exact ⟨_, _, c, hx.toStr, hy.toInt, hz, e, q _ H F [] (.refl _) ⟨.str _, rfl⟩ hh⟩
    · cases hg
  · cases hg
def ixA (a b : D) : Option D := match a with | .lst _ => ixL a b | .tup _ => ixT a b | .tuw _ => ixT a b | .str _ => ixS a b | _ => none
theorem o_ix : Op2 K (relD K) (rIx K) ixA := by
  intro x y dx dy z L F R H fp Q hx hy hh hg q
  unfold ixA at hg
  split at hg
  · exact .inl (o_ixL x y _ dy z L F R H fp Q hx hy hh hg q)
  · exact .inr (.inl (o_ixT x y _ dy z L F R H fp Q hx hy hh hg q))
  · exact .inr (.inl (o_ixT x y _ dy z L F R H fp Q hx hy hh hg q))
  · exact .inr (.inr (o_ixS x y _ dy z L F R H fp Q hx hy hh hg q))
  · cases hg
theorem o_catL : Op2 K (relX K) rCat catL := by
  intro x y dx dy z L F R H fp Q hx hy hh hg q
  unfold catL at hg
  split at hg
  · split at hg
    · rename_i hz
      obtain rfl := Option.some.inj hg
      cases hx with
      | lst h t =>
        cases hy with
        | lst h2 t2 => exact ⟨_, _, _, _, rfl, rfl, hh.f.rx.lst _ _ h, hh.f.rx.lst _ _ h2, by rw [t.length, t2.length]; exact hz, fun p np => q _ _ F _ (.refl _) (.ol (t.app t2)) (hh.new np)⟩
    · cases hg
  · cases hg
theorem FzL.nil_iff {vs : List V} {ds : List D} (h : FzL K F vs ds) : vs = [] ↔ ds = [] := by
  constructor <;> (rintro rfl; cases h; rfl)
theorem o_catT : Op2 K (relD K) (rCatF K) catT := by
  intro x y dx dy z L F R H fp Q hx hy hh hg q
  unfold catT at hg
  split at hg
  · split at hg
    · rename_i hz
      obtain rfl := Option.some.inj hg
      cases hx with
      | tup h t =>
        cases hy with
        | tup h2 t2 =>
          refine ⟨_, _, _, _, rfl, rfl, (hh.f.rx.tpf _ _ h).sq, (hh.f.rx.tpf _ _ h2).sq, by rw [t.length, t2.length]; exact hz, fun e => ?_, fun _ e => ?_, fun _ _ p o np hd => ?_⟩
          · refine q _ H F [] (.refl _) ⟨?_, rfl⟩ hh
            rw [t.nil_iff.mp e]
            exact .tup h2 t2
          · refine q _ H F [] (.refl _) ⟨?_, rfl⟩ hh
            rw [t2.nil_iff.mp e, List.append_nil]
            exact .tup h t
          · obtain ⟨hn, s⟩ := hh.newF np
            exact q _ _ _ [] s ⟨.tup ⟨o, hd, upd_same⟩ ((t.app t2).mono s), rfl⟩ hn
    · cases hg
  · cases hg
theorem o_catS : Op2 K (relD K) (fun x y H Q => ∃ i j, x = .str i ∧ y = .str j ∧ i.length + j.length ≤ sizeLine ∧ Q (.str (i ++ j)) H) catS := by
  intro x y dx dy z L F R H fp Q hx hy hh hg q
  unfold catS at hg
  split at hg
  · split at hg
    · rename_i hz
      obtain rfl := Option.some.inj hg
      exact ⟨_, _, hx.toStr, hy.toStr, hz, q _ H F [] (.refl _) ⟨.str _, rfl⟩ hh⟩
    · cases hg
  · cases hg
/-- displays -/
def tupA (ds : List D) : Option D := if ds.length ≤ sizeLine then some (.tup ds) else none
def lstA (ds : List D) : Option X := if ds.length ≤ sizeLine then some (.ol ds) else none
def mA {γ : Type} (g : List D → Option γ) (m : OM (List D)) : OM γ := fun ê => bnd (m ê) (un? g)
def tTupF (t : TA) : TE := fun σ H Q => t σ H fun xs H1 => xs.length ≤ sizeLine ∧ ∀ p o, H1 p = none → o.dict = none → Q (.ref p) (upd H1 p (.frz o (.tup xs)))
theorem pe_tupF {X : Cx} {es : List Expr} {t : TA} {x1 : Nat} {pos : Pos} (h : PA X es t) : PE X (.Tuple es x1 pos) (tTupF t) := by
  refine ⟨fun pins s σ H Q I hq => ?_⟩
  refine wpAny_Tuple_spliced (thn (h.run pos pins s σ H _ I hq) fun us s1 ⟨xs, H1, I1, r, z, q⟩ => ⟨by rw [← r.length]; exact z, ?_⟩)
  refine ⟨.ref s1.heap.objs.size, _, I1.laid (t' := s1.toks) (o := .frz { cls := .type "tuple", data := .seq us.toArray } (.tup xs)) (fun b u e => Heap.get?_push_of_some _ e) (Nat.le_refl _) ?_, rfl, q _ _ (I1.hok.fresh (Nat.le_refl _)) rfl⟩
  exact ⟨Heap.get?_push_size _ rfl, z, us, r, IsTup.new _ _⟩
theorem a_tup {t : TA} {m : OM (List D)} (h : OkA K W Lk t m) : OkD K W Lk (tTupF t) (mA tupA m) := by
  refine opA_G (rel := relD K) (rr := fun xs H1 Q => xs.length ≤ sizeLine ∧ ∀ p o, H1 p = none → o.dict = none → Q (.ref p) (upd H1 p (.frz o (.tup xs)))) (fun x dx z L F R H fp Q hx hh hg q => ?_) h
  unfold tupA at hg
  split at hg
  · rename_i hz
    obtain rfl := Option.some.inj hg
    refine ⟨by rw [hx.length]; exact hz, fun p o np hd => ?_⟩
    obtain ⟨hn, s⟩ := hh.newF np
    exact q _ _ _ [] s ⟨.tup ⟨o, hd, upd_same⟩ (hx.mono s), rfl⟩ hn
  · cases hg
theorem a_lst {t : TA} {m : OM (List D)} (h : OkA K W Lk t m) : OkX K W Lk (tLst t) (mA lstA m) := by
  refine opA_G (rel := relX K) (rr := fun xs H1 Q => xs.length ≤ sizeLine ∧ ∀ p, H1 p = none → Q (.ref p) (upd H1 p (.lst xs))) (fun x dx z L F R H fp Q hx hh hg q => ?_) h
  unfold lstA at hg
  split at hg
  · rename_i hz
    obtain rfl := Option.some.inj hg
    exact ⟨by rw [hx.length]; exact hz, fun p np => q _ _ F _ (.refl _) (.ol hx) (hh.new np)⟩
  · cases hg
/-- argument lists -/
def m_nil : OM (List D) := fun ê => some (.ok [] ê)
def kc2 (d : D) (ds : List D) (e : En) : Option (Rs (List D)) := some (.ok (d :: ds) e)
def kc (mr : OM (List D)) (d : D) (e : En) : Option (Rs (List D)) := bnd (mr e) (kc2 d)
def m_cons (ma : OM D) (mr : OM (List D)) : OM (List D) := fun ê => bnd (ma ê) (kc mr)
theorem nil_A : OkA K W Lk tNil m_nil := by
  intro L R F H σ ê r Q hL hE hm hP
  obtain rfl := Option.some.inj hm
  exact hP [] H F [] (.refl _) ⟨.nil, rfl⟩ hE
theorem cons_A {ta : TE} {tr : TA} {ma : OM D} {mr : OM (List D)} (ha : OkD K W Lk ta ma) (hr : OkA K W Lk tr mr) : OkA K W Lk (tCons ta tr) (m_cons ma mr) := by
  intro L R F H σ ê r Q hL hE hm hP
  refine ha.run hL hE hm hP fun v d ex F1 H1 e1 s1 hz hE hm hP => ?_
  obtain ⟨hz, rfl⟩ := hz
  refine hr.run hL hE hm hP fun vs ds ex2 F2 H2 e2 s2 hzs hE hm hP => ?_
  obtain ⟨hzs, rfl⟩ := hzs
  obtain rfl := Option.some.inj hm
  exact hP _ H2 F2 [] (.refl _) ⟨.cons (hz.mono s2) hzs, rfl⟩ hE
/-- parts -/
def m_noPart : OM (Option Int) := fun ê => some (.ok none ê)
def kpart : D → Option (Option Int)
  | .int i => some (some i)
  | _ => none
theorem none_O : OkO K W Lk tNoPart m_noPart := by
  intro L R F H σ ê r Q hL hE hm hP
  obtain rfl := Option.some.inj hm
  exact hP none H F [] (.refl _) ⟨rfl, rfl⟩ hE
theorem some_O {t : TE} {m : OM D} (h : OkD K W Lk t m) : OkO K W Lk (tPart t) (m1 kpart m) := by
  refine op1_G (rel := relO) (rr := fun x H1 Q => ∃ i, x = .int i ∧ Q (some i) H1) (fun x dx z L F R H fp Q hx hh hg q => ?_) h
  unfold kpart at hg
  split at hg
  · obtain rfl := Option.some.inj hg
    exact ⟨_, hx.toInt, q _ H F [] (.refl _) ⟨rfl, rfl⟩ hh⟩
  · cases hg
def ks2 {γ : Type} (g : D → Option Int → Option Int → Option γ) (d : D) (lo : Option Int) (hi : Option Int) (e : En) : Option (Rs γ) := un? (g d lo) hi e
def ks1 {γ : Type} (g : D → Option Int → Option Int → Option γ) (mh : OM (Option Int)) (d : D) (lo : Option Int) (e : En) : Option (Rs γ) := bnd (mh e) (ks2 g d lo)
def ks0 {γ : Type} (g : D → Option Int → Option Int → Option γ) (ml mh : OM (Option Int)) (d : D) (e : En) : Option (Rs γ) := bnd (ml e) (ks1 g mh d)
def m_sl {γ : Type} (g : D → Option Int → Option Int → Option γ) (me : OM D) (ml mh : OM (Option Int)) : OM γ := fun ê => bnd (me ê) (ks0 g ml mh)
def OpS (K : PySem.W.Frag) {γ : Type} (rel : Hp → V → γ → Cells → Prop) (rr : V → Option Int → Option Int → Hp → VK → Prop) (g : D → Option Int → Option Int → Option γ) : Prop :=
  ∀ x lo hi dx (z : γ) (L : List Addr) (F R H : Hp) (fp : Cells) (Q : VK), Fz K F x dx → Hs L F R fp H → g dx lo hi = some z →
    (∀ b H' F' ex, L2.Same F F' → rel F' b z ex → Hs L F' R (ex ++ fp) H' → Q b H') → rr x lo hi H Q
theorem sl_G {γ : Type} {rel : Hp → V → γ → Cells → Prop} {rr : V → Option Int → Option Int → Hp → VK → Prop} {g : D → Option Int → Option Int → Option γ} {te : TE} {tl th : TO} {me : OM D} {ml mh : OM (Option Int)} (o : OpS K rel rr g) (he : OkD K W Lk te me) (hl : OkO K W Lk tl ml) (hh : OkO K W Lk th mh) :
    OkG K W Lk rel (tSl rr te tl th) (m_sl g me ml mh) := by
  intro L R F H σ ê r Q hL hE hm hP
  refine he.run hL hE hm hP fun v d ex F1 H1 e1 s1 hz hE hm hP => ?_
  obtain ⟨hz, rfl⟩ := hz
  refine hl.run hL hE hm hP fun lo lo' ex2 F2 H2 e2 s2 h2 hE hm hP => ?_
  obtain ⟨rfl, rfl⟩ := h2
  refine hh.run hL hE hm hP fun hi hi' ex3 F3 H3 e3 s3 h3 hE hm hP => ?_
  obtain ⟨rfl, rfl⟩ := h3
  obtain ⟨b, hb, rfl⟩ := un_some hm
  obtain ⟨fp, hs, hh⟩ := hE
  exact o v _ _ d b L F3 R H3 fp Q ((hz.mono s2).mono s3) hh hb fun c H' F' ex s hr hh' => hP c H' F' ex s hr ⟨fp, hs.rx (.of s), hh'⟩
def slL : D → Option Int → Option Int → Option X
  | .lst ds, lo, hi => some (.ol (cutG ds lo hi))
  | .scr ns, lo, hi => some (.ol (cutG (ns.map D.int) lo hi))
  | _, _, _ => none
def slT : D → Option Int → Option Int → Option D
  | .tup ds, lo, hi => some (.tup (cutG ds lo hi))
  | _, _, _ => none
def slS : D → Option Int → Option Int → Option D
  | .str z, lo, hi => if z.length ≤ sizeLine then some (.str (cutS z lo hi)) else none
  | _, _, _ => none
theorem o_slL : OpS K (relX K) (rSlL K) slL := by
  intro x lo hi dx z L F R H fp Q hx hh hg q
  unfold slL at hg
  split at hg
  · obtain rfl := Option.some.inj hg
    cases hx with
    | lst h t => exact ⟨_, _, rfl, .of (hh.f.rx.lst _ _ h), fun p np => q _ _ F _ (.refl _) (.ol t.cut) (hh.new np)⟩
  · obtain rfl := Option.some.inj hg
    cases hx with
    | scr h => exact ⟨_, _, rfl, hh.f.rx.sqL h, fun p np => q _ _ F _ (.refl _) (.ol (FzL.ints _).cut) (hh.new np)⟩
  · cases hg
theorem cutG_all {α : Type} {xs : List α} {lo hi : Option Int} (h : HT.sIx xs.length 0 lo = 0 ∧ HT.sIx xs.length xs.length hi = xs.length) : cutG xs lo hi = xs := by
  unfold cutG
  rw [h.1, h.2]
  simp
theorem o_slT : OpS K (relD K) (rSlF K) slT := by
  intro x lo hi dx z L F R H fp Q hx hh hg q
  unfold slT at hg
  split at hg
  · obtain rfl := Option.some.inj hg
    cases hx with
    | tup h t =>
      refine ⟨_, _, rfl, (hh.f.rx.tpf _ _ h).sq, fun e => ?_, fun e p o np hd => ?_⟩
      · rw [t.length] at e
        refine q _ H F [] (.refl _) ⟨?_, rfl⟩ hh
        rw [cutG_all e]
        exact .tup h t
      · obtain ⟨hn, s⟩ := hh.newF np
        exact q _ _ _ [] s ⟨.tup ⟨o, hd, upd_same⟩ (t.cut.mono s), rfl⟩ hn
  · cases hg
theorem o_slS : OpS K (relD K) rSlS slS := by
  intro x lo hi dx z L F R H fp Q hx hh hg q
  unfold slS at hg
  split at hg
  · split at hg
    · rename_i hz
      obtain rfl := Option.some.inj hg
      exact ⟨_, hx.toStr, hz, q _ H F [] (.refl _) ⟨.str _, rfl⟩ hh⟩
    · cases hg
  · cases hg
end
end GD
/-! own data layer: tests, statements, loops, comprehensions -/
namespace GD
open PySem PySem.Spec PyProof.Rows L2

/-! ### tests -/
def kbool : D → Option Bool
  | .bl b => some b
  | _ => none
def kif {α : Type} (ma mb : OM α) (c : Bool) (e : En) : Option (Rs α) := match c with | true => ma e | false => mb e
def m_ite {α : Type} (mc : OM Bool) (ma mb : OM α) : OM α := fun ê => bnd (mc ê) (kif ma mb)
def m_k {α : Type} (a : α) : OM α := fun ê => some (.ok a ê)
def kB (b : Bool) : D := .bl b
section
variable {K : PySem.W.Frag} {W : WX} {Lk : List Addr → Prop} {L : List Addr}
theorem val_T {t : TE} {m : OM D} (h : OkD K W Lk t m) : OkT K W Lk (tB t) (m1 kbool m) := by
  refine op1_G (rel := relB) (rr := fun x H1 Q => ∃ c, x = .bl c ∧ Q c H1) (fun x dx z L F R H fp Q hx hh hg q => ?_) h
  unfold kbool at hg
  split at hg
  · obtain rfl := Option.some.inj hg
    exact ⟨_, hx.toBl, q _ H F [] (.refl _) ⟨rfl, rfl⟩ hh⟩
  · cases hg
theorem test_T {t : TE} {m : OM D} (h : OkD K W Lk t m) : OkT K W Lk (tTest t) (m1 kbool m) := val_T h
theorem k_T {b : Bool} : OkT K W Lk (fun _ H Q => Q b H) (m_k b) := by
  intro L R F H σ ê r Q hL hE hm hP
  obtain rfl := Option.some.inj hm
  exact hP b H F [] (.refl _) ⟨rfl, rfl⟩ hE
theorem yes_T : OkT K W Lk tYes (m_k true) := k_T
theorem and_T {t u : TT} {ma mb : OM Bool} (ha : OkT K W Lk t ma) (hb : OkT K W Lk u mb) : OkT K W Lk (tAnd t u) (m_ite ma mb (m_k false)) := by
  intro L R F H σ ê r Q hL hE hm hP
  refine ha.run hL hE hm hP fun v d ex F1 H1 e1 s1 hz hE hm hP => ?_
  obtain ⟨rfl, rfl⟩ := hz
  cases v with
  | true => exact hb L R F1 H1 σ e1 r Q hL hE hm hP
  | false =>
    obtain rfl := Option.some.inj hm
    exact hP false H1 F1 [] (.refl _) ⟨rfl, rfl⟩ hE
theorem or_T {t u : TT} {ma mb : OM Bool} (ha : OkT K W Lk t ma) (hb : OkT K W Lk u mb) : OkT K W Lk (tOr t u) (m_ite ma (m_k true) mb) := by
  intro L R F H σ ê r Q hL hE hm hP
  refine ha.run hL hE hm hP fun v d ex F1 H1 e1 s1 hz hE hm hP => ?_
  obtain ⟨rfl, rfl⟩ := hz
  cases v with
  | false => exact hb L R F1 H1 σ e1 r Q hL hE hm hP
  | true =>
    obtain rfl := Option.some.inj hm
    exact hP true H1 F1 [] (.refl _) ⟨rfl, rfl⟩ hE
def knot (b : Bool) (e : En) : Option (Rs Bool) := some (.ok (!b) e)
def m_not (m : OM Bool) : OM Bool := fun ê => bnd (m ê) knot
theorem not_T {t : TT} {m : OM Bool} (h : OkT K W Lk t m) : OkT K W Lk (tNot t) (m_not m) := by
  intro L R F H σ ê r Q hL hE hm hP
  refine h.run hL hE hm hP fun v d ex F1 H1 e1 s1 hz hE hm hP => ?_
  obtain ⟨rfl, rfl⟩ := hz
  obtain rfl := Option.some.inj hm
  exact hP _ H1 F1 [] (.refl _) ⟨rfl, rfl⟩ hE
def knotD : D → Option D
  | .bl b => some (.bl (!b))
  | _ => none
theorem not_D {t : TE} {m : OM D} (h : OkD K W Lk t m) : OkD K W Lk (tNotV t) (m1 knotD m) := by
  refine op1_G (rel := relD K) (rr := fun x H1 Q => ∃ c, x = .bl c ∧ Q (.bl (!c)) H1) (fun x dx z L F R H fp Q hx hh hg q => ?_) h
  unfold knotD at hg
  split at hg
  · obtain rfl := Option.some.inj hg
    exact ⟨_, hx.toBl, q _ H F [] (.refl _) ⟨.bl _, rfl⟩ hh⟩
  · cases hg
/-- a and b, a or b as values -/
theorem and_D {t u : TE} {ma mb : OM D} (ha : OkD K W Lk t ma) (hb : OkD K W Lk u mb) : OkD K W Lk (tAndV t u) (m_ite (m1 kbool ma) mb (m_k (.bl false))) := by
  intro L R F H σ ê r Q hL hE hm hP
  refine (val_T ha).run hL hE hm hP (k := fun c H1 => if c = true then u σ H1 Q else Q (.bl false) H1) fun v d ex F1 H1 e1 s1 hz hE hm hP => ?_
  obtain ⟨rfl, rfl⟩ := hz
  cases v with
  | true => exact iteT (hb L R F1 H1 σ e1 r Q hL hE hm hP)
  | false =>
    obtain rfl := Option.some.inj hm
    exact iteF (hP _ H1 F1 [] (.refl _) ⟨.bl false, rfl⟩ hE)
theorem or_D {t u : TE} {ma mb : OM D} (ha : OkD K W Lk t ma) (hb : OkD K W Lk u mb) : OkD K W Lk (tOrV t u) (m_ite (m1 kbool ma) (m_k (.bl true)) mb) := by
  intro L R F H σ ê r Q hL hE hm hP
  refine (val_T ha).run hL hE hm hP (k := fun c H1 => if c = true then Q (.bl true) H1 else u σ H1 Q) fun v d ex F1 H1 e1 s1 hz hE hm hP => ?_
  obtain ⟨rfl, rfl⟩ := hz
  cases v with
  | false => exact iteF (hb L R F1 H1 σ e1 r Q hL hE hm hP)
  | true =>
    obtain rfl := Option.some.inj hm
    exact iteT (hP _ H1 F1 [] (.refl _) ⟨.bl true, rfl⟩ hE)
theorem if_G {α : Type} {rel : Hp → V → α → Cells → Prop} {c : TT} {t u : TE} {mc : OM Bool} {ma mb : OM α} (hc : OkT K W Lk c mc) (ha : OkG K W Lk rel t ma) (hb : OkG K W Lk rel u mb) : OkG K W Lk rel (tIf c t u) (m_ite mc ma mb) := by
  intro L R F H σ ê r Q hL hE hm hP
  refine hc.run hL hE hm hP fun v d ex F1 H1 e1 s1 hz hE hm hP => ?_
  obtain ⟨rfl, rfl⟩ := hz
  cases v with
  | true => exact iteT (ha L R F1 H1 σ e1 r Q hL hE hm hP)
  | false => exact iteF (hb L R F1 H1 σ e1 r Q hL hE hm hP)
end

/-! ### statements -/
inductive Ot where
  | nx (e : En) | rt (x : X) (e : En) | bk (e : En) | ct (e : En) | ex (x : Ex) (e : En)
abbrev SM := En → Option Ot
def Kp (io : List Nat) (σ σ' : L2.St) : Prop := ∀ i ∈ io, σ'[i]? = σ[i]?
theorem Kp.refl (io : List Nat) (σ : L2.St) : Kp io σ σ := fun _ _ => rfl
theorem Kp.trans {io : List Nat} {σ σ1 σ2 : L2.St} (a : Kp io σ σ1) (b : Kp io σ1 σ2) : Kp io σ σ2 := fun i h => (b i h).trans (a i h)
def PoS (K : PySem.W.Frag) (W : WX) (L : List Addr) (R F : Hp) (io : List Nat) (σ : L2.St) : Ot → Ends → Prop
  | .nx e', D => ∀ σ' H' F', L2.Same F F' → ER K L R F' H' [] σ' e' → Kp io σ σ' → D.nx σ' H'
  | .bk e', D => ∀ σ' H' F', L2.Same F F' → ER K L R F' H' [] σ' e' → Kp io σ σ' → D.bk σ' H'
  | .ct e', D => ∀ σ' H' F', L2.Same F F' → ER K L R F' H' [] σ' e' → Kp io σ σ' → D.ct σ' H'
  | .rt x e', D => ∀ v σ' H' F' ex, L2.Same F F' → XR K F' v x ex → ER K L R F' H' ex σ' e' → Kp io σ σ' → D.rt v H'
  | .ex x e', _ => ∀ cls d σ' H' F', L2.Same F F' → XcR K F' cls d x → ER K L R F' H' [] σ' e' → Kp io σ σ' → W cls d σ' H'
theorem PoS.mono {K : PySem.W.Frag} {W : WX} {L : List Addr} {R F F1 : Hp} {io : List Nat} {σ σ1 : L2.St} {o : Ot} {D : Ends} (s : L2.Same F F1) (k : Kp io σ σ1) (h : PoS K W L R F io σ o D) : PoS K W L R F1 io σ1 o D := by
  cases o with
  | nx e => exact fun a b c d e f => h a b c (s.trans d) e (k.trans f)
  | bk e => exact fun a b c d e f => h a b c (s.trans d) e (k.trans f)
  | ct e => exact fun a b c d e f => h a b c (s.trans d) e (k.trans f)
  | rt x e => exact fun v a b c ex d e f g => h v a b c ex (s.trans d) e f (k.trans g)
  | ex x e => exact fun cls q a b c d e f g => h cls q a b c (s.trans d) e f (k.trans g)
def OkS (K : PySem.W.Frag) (W : WX) (Lk : List Addr → Prop) (io : List Nat) (t : TS) (m : SM) : Prop :=
  ∀ (L : List Addr) (R F H : Hp) (σ : L2.St) (ê : En) (o : Ot) (D : Ends), Lk L → ER K L R F H [] σ ê → m ê = some o → PoS K W L R F io σ o D → t D σ H
def bndS {α : Type} (m : Option (Rs α)) (f : α → En → Option Ot) : Option Ot :=
  match m with
  | some (.ok a e) => f a e
  | some (.ex x e) => some (.ex x e)
  | none => none
theorem bndS_congr {α : Type} {m m' : Option (Rs α)} {f : α → En → Option Ot} (h : m = m') : bndS m f = bndS m' f := by rw [h]
theorem bndS_ok {α : Type} {a : α} {e : En} {f : α → En → Option Ot} : bndS (some (.ok a e)) f = f a e := rfl
theorem bndS_ex {α : Type} {x : Ex} {e : En} {f : α → En → Option Ot} : bndS (some (.ex x e)) f = some (.ex x e) := rfl
def seqS (m : Option Ot) (f : SM) : Option Ot :=
  match m with
  | some (.nx e) => f e
  | o => o
theorem seqS_congr {m m' : Option Ot} {f : SM} (h : m = m') : seqS m f = seqS m' f := by rw [h]
theorem seqS_nx {e : En} {f : SM} : seqS (some (.nx e)) f = f e := rfl
theorem seqS_rt {x : X} {e : En} {f : SM} : seqS (some (.rt x e)) f = some (.rt x e) := rfl
theorem seqS_bk {e : En} {f : SM} : seqS (some (.bk e)) f = some (.bk e) := rfl
theorem seqS_ct {e : En} {f : SM} : seqS (some (.ct e)) f = some (.ct e) := rfl
theorem seqS_ex {x : Ex} {e : En} {f : SM} : seqS (some (.ex x e)) f = some (.ex x e) := rfl
def loopS (m : Option Ot) (f : SM) : Option Ot :=
  match m with
  | some (.nx e) => f e
  | some (.ct e) => f e
  | some (.bk e) => some (.nx e)
  | o => o
theorem loopS_congr {m m' : Option Ot} {f : SM} (h : m = m') : loopS m f = loopS m' f := by rw [h]
theorem loopS_nx {e : En} {f : SM} : loopS (some (.nx e)) f = f e := rfl
theorem loopS_ct {e : En} {f : SM} : loopS (some (.ct e)) f = f e := rfl
theorem loopS_bk {e : En} {f : SM} : loopS (some (.bk e)) f = some (.nx e) := rfl
theorem loopS_rt {x : X} {e : En} {f : SM} : loopS (some (.rt x e)) f = some (.rt x e) := rfl
section
variable {K : PySem.W.Frag} {W : WX} {Lk : List Addr → Prop} {L : List Addr} {io : List Nat}
theorem OkG.runS {α1 β1 : Type} {rel1 : Hp → β1 → α1 → Cells → Prop} {t : L2.St → Hp → (β1 → Hp → Prop) → Prop} {m : OM α1} {f : α1 → En → Option Ot} {k : β1 → Hp → Prop} {R F H : Hp} {σ : L2.St} {ê : En} {o : Ot} {D : Ends}
    (h : OkG K W Lk rel1 t m) (hL : Lk L) (hE : ER K L R F H [] σ ê) (hm : bndS (m ê) f = some o) (hP : PoS K W L R F io σ o D)
    (hk : ∀ b a ex F' H' e', L2.Same F F' → rel1 F' b a ex → ER K L R F' H' ex σ e' → f a e' = some o → PoS K W L R F' io σ o D → k b H') : t σ H k := by
  cases h1 : m ê with
  | none => simp only [h1, bndS] at hm; cases hm
  | some r1 =>
    cases r1 with
    | ex x e =>
      simp only [h1, bndS] at hm
      obtain rfl := Option.some.inj hm
      exact h L R F H σ ê _ _ hL hE h1 fun cls d H' F' s hx hE' => hP cls d σ H' F' s hx hE' (.refl _ _)
    | ok a e =>
      simp only [h1, bndS] at hm
      exact h L R F H σ ê _ _ hL hE h1 fun v H1 F1 ex s1 hr hE1 => hk v a ex F1 H1 e s1 hr hE1 hm (hP.mono s1 (.refl _ _))
def m_next : SM := fun ê => some (.nx ê)
def m_brk : SM := fun ê => some (.bk ê)
def m_cnt : SM := fun ê => some (.ct ê)
def m_never : SM := fun _ => none
def m_seq (a b : SM) : SM := fun ê => seqS (a ê) b
theorem next_S : OkS K W Lk io tNext m_next := fun L R F H σ ê o D hL hE hm hP => by
  obtain rfl := Option.some.inj hm
  exact hP σ H F (.refl _) hE (.refl _ _)
theorem brk_S : OkS K W Lk io tBreak m_brk := fun L R F H σ ê o D hL hE hm hP => by
  obtain rfl := Option.some.inj hm
  exact hP σ H F (.refl _) hE (.refl _ _)
theorem cnt_S : OkS K W Lk io tCont m_cnt := fun L R F H σ ê o D hL hE hm hP => by
  obtain rfl := Option.some.inj hm
  exact hP σ H F (.refl _) hE (.refl _ _)
theorem never_S : OkS K W Lk io tNever m_never := fun L R F H σ ê o D hL hE hm hP => by cases hm
theorem seq_S {t u : TS} {a b : SM} (ha : OkS K W Lk io t a) (hb : OkS K W Lk io u b) : OkS K W Lk io (tSeq t u) (m_seq a b) := by
  intro L R F H σ ê o D hL hE hm hP
  unfold m_seq at hm
  cases h1 : a ê with
  | none => rw [h1] at hm; cases hm
  | some o1 =>
    rw [h1] at hm
    cases o1 with
    | nx e => exact ha L R F H σ ê _ _ hL hE h1 fun σ' H' F' s hE' k => hb L R F' H' σ' e o D hL hE' hm (hP.mono s k)
    | rt x e => obtain rfl := Option.some.inj hm; exact ha L R F H σ ê _ _ hL hE h1 hP
    | bk e => obtain rfl := Option.some.inj hm; exact ha L R F H σ ê _ _ hL hE h1 hP
    | ct e => obtain rfl := Option.some.inj hm; exact ha L R F H σ ê _ _ hL hE h1 hP
    | ex x e => obtain rfl := Option.some.inj hm; exact ha L R F H σ ê _ _ hL hE h1 hP
def kret (x : X) (e : En) : Option Ot := some (.rt x e)
def m_ret (m : OM X) : SM := fun ê => bndS (m ê) kret
theorem ret_S {t : TE} {m : OM X} (h : OkX K W Lk t m) : OkS K W Lk io (tRet t) (m_ret m) := by
  intro L R F H σ ê o D hL hE hm hP
  refine h.runS hL hE hm hP fun v x ex F1 H1 e1 s1 hx hE hm hP => ?_
  obtain rfl := Option.some.inj hm
  exact hP v σ H1 F1 ex (.refl _) hx hE (.refl _ _)
def m_retN : SM := fun ê => some (.rt (.fz .non) ê)
theorem retN_S : OkS K W Lk io tRetN m_retN := by
  intro L R F H σ ê o D hL hE hm hP
  obtain rfl := Option.some.inj hm
  exact hP .non σ H F [] (.refl _) (.fz .non) hE (.refl _ _)
def kdrop {α : Type} (x : α) (e : En) : Option Ot := some (.nx e)
def m_drop (m : OM X) : SM := fun ê => bndS (m ê) kdrop
theorem ER.drop {R F H : Hp} {ex : Cells} {σ : L2.St} {e : En} (h : ER K L R F H ex σ e) : ER K L R F H [] σ e := by
  obtain ⟨fp, a, b⟩ := h
  exact ⟨fp, a, b.sub (List.sublist_append_right _ _)⟩
theorem drop_S {t : TE} {m : OM X} (h : OkX K W Lk t m) : OkS K W Lk io (tDrop t) (m_drop m) := by
  intro L R F H σ ê o D hL hE hm hP
  refine h.runS hL hE hm hP fun v x ex F1 H1 e1 s1 hx hE hm hP => ?_
  obtain rfl := Option.some.inj hm
  exact hP σ H1 F1 (.refl _) hE.drop (.refl _ _)
def kifS (a b : SM) (c : Bool) (e : En) : Option Ot := match c with | true => a e | false => b e
def m_if (mc : OM Bool) (a b : SM) : SM := fun ê => bndS (mc ê) (kifS a b)
theorem if_S {c : TT} {t u : TS} {mc : OM Bool} {a b : SM} (hc : OkT K W Lk c mc) (ha : OkS K W Lk io t a) (hb : OkS K W Lk io u b) : OkS K W Lk io (tIfS c t u) (m_if mc a b) := by
  intro L R F H σ ê o D hL hE hm hP
  refine hc.runS hL hE hm hP fun v x ex F1 H1 e1 s1 hx hE hm hP => ?_
  obtain ⟨rfl, rfl⟩ := hx
  cases v with
  | true => exact iteT (ha L R F1 H1 σ e1 o D hL hE hm hP)
  | false => exact iteF (hb L R F1 H1 σ e1 o D hL hE hm hP)

/-! ### targets -/
/-- but for the names at ts all is as it was -/
structure Ch (ts : List Nat) (σ σ' : L2.St) : Prop where
  len : σ'.length = σ.length
  same : ∀ j, j ∉ ts → σ'[j]? = σ[j]?
theorem Ch.refl (ts : List Nat) (σ : L2.St) : Ch ts σ σ := ⟨rfl, fun _ _ => rfl⟩
theorem Ch.trans {ts us : List Nat} {σ σ1 σ2 : L2.St} (a : Ch ts σ σ1) (b : Ch us σ1 σ2) : Ch (ts ++ us) σ σ2 :=
  ⟨b.len.trans a.len, fun j h => (b.same j fun z => h (List.mem_append_right _ z)).trans (a.same j fun z => h (List.mem_append_left _ z))⟩
theorem Ch.kp {ts io : List Nat} {σ σ' : L2.St} (c : Ch ts σ σ') (h : ∀ j ∈ io, j ∉ ts) : Kp io σ σ' := fun i hi => c.same i (h i hi)
def OkTg (K : PySem.W.Frag) (ts : List Nat) (g : TG) (mg : X → En → Option En) : Prop :=
  ∀ (L : List Addr) (R F H : Hp) (σ : L2.St) (ê e' : En) (v : V) (x : X) (ex : Cells) (Q : L2.St → Hp → Prop), XR K F v x ex → ER K L R F H ex σ ê → mg x ê = some e' →
    (∀ σ' F', L2.Same F F' → ER K L R F' H [] σ' e' → Ch ts σ σ' → Q σ' H) → g v σ H Q
def OkTgs (K : PySem.W.Frag) (ts : List Nat) (g : TGs) (mg : List D → En → Option En) : Prop :=
  ∀ (L : List Addr) (R F H : Hp) (σ : L2.St) (ê e' : En) (vs : List V) (ds : List D) (Q : L2.St → Hp → Prop), FzL K F vs ds → ER K L R F H [] σ ê → mg ds ê = some e' →
    (∀ σ' F', L2.Same F F' → ER K L R F' H [] σ' e' → Ch ts σ σ' → Q σ' H) → g vs σ H Q
def g_nm (i : Nat) (x : X) (e : En) : Option En := some (st' e i (some x))
theorem st'_len : ∀ (e : En) (i : Nat) (x : Option X), (st' e i x).length = e.length
  | [], _, _ => rfl
  | _ :: _, 0, _ => rfl
  | _ :: r, i + 1, x => congrArg (· + 1) (st'_len r i x)
theorem st'_big : ∀ (e : En) (i : Nat) (x : Option X), e.length ≤ i → st' e i x = e
  | [], _, _, _ => rfl
  | _ :: _, 0, _, h => by simp at h
  | o :: r, i + 1, x, h => congrArg (o :: ·) (st'_big r i x (Nat.le_of_succ_le_succ h))
theorem ER.put {R F H : Hp} {ex : Cells} {σ : L2.St} {e : En} {i : Nat} {v : V} {x : X} (hx : XR K F v x ex) (h : ER K L R F H ex σ e) : ER K L R F H [] (σ.set i (some v)) (st' e i (some x)) := by
  obtain ⟨fp, a, b⟩ := h
  by_cases hi : i < σ.length
  · obtain ⟨c, d, h1, h2, h3⟩ := a.put hi hx
    exact ⟨c, h1, (b.sub ((List.Sublist.refl ex).append h3)).perm h2.symm⟩
  · rw [List.set_eq_of_length_le (Nat.le_of_not_lt hi), st'_big _ _ _ (by rw [← a.length]; exact Nat.le_of_not_lt hi)]
    exact ⟨fp, a, b.sub (List.sublist_append_right _ _)⟩
theorem nm_G {i : Nat} : OkTg K [i] (gName i) (g_nm i) := by
  intro L R F H σ ê e' v x ex Q hx hE hm q
  obtain rfl := Option.some.inj hm
  refine q _ F (.refl _) (hE.put hx) ⟨List.length_set, fun j hj => ?_⟩
  rw [List.getElem?_set_ne (fun z => hj (by rw [← z]; exact List.mem_singleton.mpr rfl))]
def g_nil (ds : List D) (e : En) : Option En := match ds with | [] => some e | _ => none
def g_cons (a : X → En → Option En) (b : List D → En → Option En) (ds : List D) (e : En) : Option En := match ds with
  | d :: r => match a (.fz d) e with
    | some e1 => b r e1
    | none => none
  | [] => none
def g_tup (n : Nat) (b : List D → En → Option En) (x : X) (e : En) : Option En := match x with
  | .fz (.tup ds) => if ds.length = n then b ds e else none
  | .fz (.tuw ds) => if ds.length = n then b ds e else none
  | _ => none
theorem nil_Gs : OkTgs K [] gNil g_nil := by
  intro L R F H σ ê e' vs ds Q hz hE hm q
  cases hz with
  | nil =>
    obtain rfl := Option.some.inj hm
    exact ⟨rfl, q σ F (.refl _) hE (.refl _ _)⟩
  | cons _ _ => cases hm
theorem cons_Gs {ts us : List Nat} {t : TG} {u : TGs} {a : X → En → Option En} {b : List D → En → Option En} (ha : OkTg K ts t a) (hb : OkTgs K us u b) : OkTgs K (ts ++ us) (gCons t u) (g_cons a b) := by
  intro L R F H σ ê e' vs ds Q hz hE hm q
  cases hz with
  | nil => cases hm
  | cons h t =>
    unfold g_cons at hm
    split at hm
    · rename_i d r heq
      obtain ⟨rfl, rfl⟩ := List.cons.inj heq
      split at hm
      · rename_i e1 h1
        exact ⟨_, _, rfl, ha L R F H σ ê e1 _ _ [] _ (.fz h) hE h1 fun σ' F' s hE' c => hb L R F' H σ' e1 e' _ _ Q (t.mono s) hE' hm fun σ2 F2 s2 hE2 c2 => q σ2 F2 (s.trans s2) hE2 (c.trans c2)⟩
      · cases hm
    · cases hm
theorem tup_G {n : Nat} {ts : List Nat} {t : TGs} {b : List D → En → Option En} (h : OkTgs K ts t b) : OkTg K ts (gTup K n t) (g_tup n b) := by
  intro L R F H σ ê e' v x ex Q hx hE hm q
  unfold g_tup at hm
  split at hm
  · split at hm
    · rename_i hn
      cases hx with
      | fz hx =>
        cases hx with
        | tup hs hl =>
          obtain ⟨fp, a, b⟩ := hE
          exact ⟨_, _, rfl, (b.f.rx.tpf _ _ hs).sq, hl.length.trans hn, h L R F H σ ê e' _ _ Q hl ⟨fp, a, b⟩ hm q⟩
    · cases hm
  · split at hm
    · rename_i hn
      cases hx with
      | fz hx =>
        cases hx with
        | tuw hs hl =>
          obtain ⟨fp, a, b⟩ := hE
          exact ⟨_, _, rfl, b.f.rx.sqT hs, hl.length.trans hn, h L R F H σ ê e' _ _ Q hl ⟨fp, a, b⟩ hm q⟩
    · cases hm
  · cases hm
def kset (mg : X → En → Option En) (x : X) (e : En) : Option Ot := match mg x e with | some e1 => some (.nx e1) | none => none
def m_set (m : OM X) (mg : X → En → Option En) : SM := fun ê => bndS (m ê) (kset mg)
theorem set_S {ts : List Nat} {t : TE} {g : TG} {m : OM X} {mg : X → En → Option En} (h : OkX K W Lk t m) (hg : OkTg K ts g mg) (hio : ∀ j ∈ io, j ∉ ts) : OkS K W Lk io (tAsg t g) (m_set m mg) := by
  intro L R F H σ ê o D hL hE hm hP
  refine h.runS hL hE hm hP fun v x ex F1 H1 e1 s1 hx hE hm hP => ?_
  unfold kset at hm
  split at hm
  · rename_i e2 h2
    obtain rfl := Option.some.inj hm
    exact hg L R F1 H1 σ e1 e2 v x ex _ hx hE h2 fun σ' F' s hE' c => hP σ' H1 F' s hE' (c.kp hio)
  · cases hm

/-! ### what is walked -/
structure WalkD (K : PySem.W.Frag) (F : Hp) (J : It) (ds : List D) : Prop where
  w : Walk J ds.length (fun H => ∃ L, Sub L F H) (fun i H x H' => ∃ d, ds[i]? = some d ∧ ∀ (L : List Addr) (F1 R : Hp) (fp : Cells), L2.Same F F1 → Hs L F1 R fp H → ∃ F2, L2.Same F1 F2 ∧ Hs L F2 R fp H' ∧ Fz K F2 x d)
def relI (K : PySem.W.Frag) : Hp → It → List D → Cells → Prop := fun F J ds ex => WalkD K F J ds ∧ ex = []
abbrev OkI (K : PySem.W.Frag) (W : WX) (Lk : List Addr → Prop) (t : TI) (m : OM (List D)) : Prop := OkG K W Lk (relI K) t m
theorem Sub.sameL {F F1 H : Hp} (s : L2.Same F F1) (h : Sub L F1 H) : Sub L F H := fun b o e => h b o (s _ _ e)
def forL (mg : X → En → Option En) (mb : SM) : List D → SM
  | [], e => some (.nx e)
  | d :: r, e => match mg (.fz d) e with
    | some e1 => loopS (mb e1) (forL mg mb r)
    | none => none
def m_for (mi : OM (List D)) (mg : X → En → Option En) (mb : SM) : SM := fun ê => bndS (mi ê) (forL mg mb)
theorem Hs.er {R F H : Hp} {σ : L2.St} {e : En} {fp : Cells} (s : SR K F σ e fp) (h : Hs L F R fp H) : ER K L R F H [] σ e := ⟨fp, s, h⟩
theorem for_S {ts : List Nat} {wi : TI} {g : TG} {tb : TS} {mi : OM (List D)} {mg : X → En → Option En} {mb : SM} (hi : OkI K W Lk wi mi) (hg : OkTg K ts g mg) (hb : OkS K W Lk io tb mb) (hio : ∀ j ∈ io, j ∉ ts) : OkS K W Lk io (tFor wi g tb) (m_for mi mg mb) := by
  intro L R F H σ ê o D hL hE hm hP
  refine hi.runS hL hE hm hP fun J ds ex F1 H1 e1 s1 hx hE hm hP => ?_
  obtain ⟨⟨w⟩, rfl⟩ := hx
  refine for_it w (fun i σ' H' => ∃ F' e', L2.Same F1 F' ∧ ER K L R F' H' [] σ' e' ∧ Kp io σ σ' ∧ forL mg mb (ds.drop i) e' = some o) ⟨F1, e1, .refl _, hE, .refl _ _, hm⟩ (fun i σ' H' _ h => ?_) (fun i x σ' H' H2 hlt h hy => ?_) (fun σ' H' h => ?_)
  · obtain ⟨F', e', s, ⟨fp, a, b⟩, _⟩ := h
    exact ⟨L, b.f.sameL s⟩
  · obtain ⟨F', e', s, ⟨fp, a, b⟩, k, hm⟩ := h
    obtain ⟨d, hd, hy⟩ := hy
    obtain ⟨F2, s2, h2, hz⟩ := hy L F' R fp s b
    have hdr : ds.drop i = d :: ds.drop (i + 1) := by
      obtain ⟨h1, h2⟩ := List.getElem?_eq_some_iff.mp hd
      rw [← h2, List.getElem_cons_drop]
    rw [hdr] at hm
    unfold forL at hm
    split at hm
    · rename_i e2 he2
      refine hg L R F2 H2 σ' e' e2 x _ [] _ (.fz hz) ⟨fp, a.rx (.of s2), h2⟩ he2 fun σ2 F3 s3 hE3 c3 => ?_
      have k3 : Kp io σ σ2 := k.trans (c3.kp hio)
      have s13 := (s.trans s2).trans s3
      cases h1 : mb e2 with
      | none => rw [h1] at hm; cases hm
      | some o1 =>
        rw [h1] at hm
        cases o1 with
        | nx e => exact hb L R F3 H2 σ2 e2 _ _ hL hE3 h1 fun σ4 H4 F4 s4 hE4 k4 => ⟨F4, e, s13.trans s4, hE4, k3.trans k4, hm⟩
        | ct e => exact hb L R F3 H2 σ2 e2 _ _ hL hE3 h1 fun σ4 H4 F4 s4 hE4 k4 => ⟨F4, e, s13.trans s4, hE4, k3.trans k4, hm⟩
        | bk e =>
          obtain rfl := Option.some.inj hm
          exact hb L R F3 H2 σ2 e2 _ _ hL hE3 h1 fun σ4 H4 F4 s4 hE4 k4 => hP σ4 H4 F4 (s13.trans s4) hE4 (k3.trans k4)
        | rt x e =>
          obtain rfl := Option.some.inj hm
          exact hb L R F3 H2 σ2 e2 _ _ hL hE3 h1 fun v σ4 H4 F4 ex s4 hx4 hE4 k4 => hP v σ4 H4 F4 ex (s13.trans s4) hx4 hE4 (k3.trans k4)
        | ex x e =>
          obtain rfl := Option.some.inj hm
          exact hb L R F3 H2 σ2 e2 _ _ hL hE3 h1 fun v d σ4 H4 F4 s4 hx4 hE4 k4 => hP v d σ4 H4 F4 (s13.trans s4) hx4 hE4 (k3.trans k4)
    · cases hm
  · obtain ⟨F', e', s, hE', k, hm⟩ := h
    rw [List.drop_length] at hm
    obtain rfl := Option.some.inj hm
    exact hP σ' H' F' s hE' k
/-- while -/
def whL (mc : OM Bool) (mb : SM) : Nat → SM
  | 0, _ => none
  | n + 1, e => bndS (mc e) (kifS (fun e1 => loopS (mb e1) (whL mc mb n)) m_next)
def m_while (n : Nat) (mc : OM Bool) (mb : SM) : SM := whL mc mb n
theorem while_S {n : Nat} {tc : TT} {tb : TS} {mc : OM Bool} {mb : SM} (hc : OkT K W Lk tc mc) (hb : OkS K W Lk io tb mb) : OkS K W Lk io (tWhile tc tb) (m_while n mc mb) := by
  intro L R F H σ ê o D hL hE hm hP
  refine ⟨fun m σ' H' => ∃ F' e', L2.Same F F' ∧ ER K L R F' H' [] σ' e' ∧ Kp io σ σ' ∧ whL mc mb m e' = some o, ⟨n, F, ê, .refl _, hE, .refl _ _, hm⟩, fun m σ' H' h => ?_⟩
  obtain ⟨F', e', s, hE', k, hm⟩ := h
  cases m with
  | zero => cases hm
  | succ m =>
    unfold whL at hm
    refine hc.runS hL hE' hm (hP.mono s k) fun v d ex F1 H1 e1 s1 hz hE1 hm hP1 => ?_
    obtain ⟨rfl, rfl⟩ := hz
    cases v with
    | false =>
      refine iteF ?_
      obtain rfl := Option.some.inj hm
      exact hP1 σ' H1 F1 (.refl _) hE1 (.refl _ _)
    | true =>
      refine iteT ⟨fun σ4 H4 => ∃ F4 e4, L2.Same F F4 ∧ ER K L R F4 H4 [] σ4 e4 ∧ Kp io σ σ4 ∧ whL mc mb m e4 = some o, fun σ4 H4 h4 => ⟨m, Nat.lt_succ_self m, h4⟩, ?_⟩
      have hm : loopS (mb e1) (whL mc mb m) = some o := hm
      have s13 := s.trans s1
      cases h1 : mb e1 with
      | none => rw [h1] at hm; cases hm
      | some o1 =>
        rw [h1] at hm
        cases o1 with
        | nx e => exact hb L R F1 H1 σ' e1 _ _ hL hE1 h1 fun σ4 H4 F4 s4 hE4 k4 => ⟨F4, e, s13.trans s4, hE4, k.trans k4, hm⟩
        | ct e => exact hb L R F1 H1 σ' e1 _ _ hL hE1 h1 fun σ4 H4 F4 s4 hE4 k4 => ⟨F4, e, s13.trans s4, hE4, k.trans k4, hm⟩
        | bk e =>
          obtain rfl := Option.some.inj hm
          exact hb L R F1 H1 σ' e1 _ _ hL hE1 h1 fun σ4 H4 F4 s4 hE4 k4 => hP σ4 H4 F4 (s13.trans s4) hE4 (k.trans k4)
        | rt x e =>
          obtain rfl := Option.some.inj hm
          exact hb L R F1 H1 σ' e1 _ _ hL hE1 h1 fun v σ4 H4 F4 ex s4 hx4 hE4 k4 => hP v σ4 H4 F4 ex (s13.trans s4) hx4 hE4 (k.trans k4)
        | ex x e =>
          obtain rfl := Option.some.inj hm
          exact hb L R F1 H1 σ' e1 _ _ hL hE1 h1 fun v d σ4 H4 F4 s4 hx4 hE4 k4 => hP v d σ4 H4 F4 (s13.trans s4) hx4 hE4 (k.trans k4)
end
end GD
/-! own data layer: comprehensions, what is walked, a name's own list -/
namespace GD
open PySem PySem.Spec PyProof.Rows L2

/-! ### comprehensions -/
def wpE (e : En) : List Nat → En
  | [] => e
  | v :: vs => st' (wpE e vs) v none
section
variable {K : PySem.W.Frag} {W : WX} {Lk : List Addr → Prop} {L : List Addr} {F F' R H H' : Hp}
theorem SR.wipe1 : ∀ {σ : L2.St} {e : En} {fp : Cells} (i : Nat), SR K F σ e fp → ∃ fq, SR K F (σ.set i none) (st' e i none) fq ∧ fq.Sublist fp
  | _, _, _, i, .nil => ⟨[], .nil, List.Sublist.refl _⟩
  | _, _, _, 0, .no (fp := fp) t => ⟨fp, .no t, List.Sublist.refl _⟩
  | _, _, _, 0, .so (a := a) (b := b) r t => ⟨b, .no t, List.sublist_append_right _ _⟩
  | _, _, _, i + 1, .no t => by
    obtain ⟨fq, h1, h2⟩ := SR.wipe1 i t
    exact ⟨fq, .no h1, h2⟩
  | _, _, _, i + 1, .so (a := a) r t => by
    obtain ⟨fq, h1, h2⟩ := SR.wipe1 i t
    exact ⟨a ++ fq, .so r h1, (List.Sublist.refl a).append h2⟩
theorem SR.wipe {σ : L2.St} {e : En} {fp : Cells} (h : SR K F σ e fp) : ∀ vs : List Nat, ∃ fq, SR K F (L2.wipe σ vs) (wpE e vs) fq ∧ fq.Sublist fp
  | [] => ⟨fp, h, List.Sublist.refl _⟩
  | v :: vs => by
    obtain ⟨fq, h1, h2⟩ := SR.wipe h vs
    obtain ⟨fr, h3, h4⟩ := SR.wipe1 v h1
    exact ⟨fr, h3, h4.trans h2⟩
theorem SR.unwipe1 : ∀ (σ : L2.St) (e : En) (fp : Cells) (i : Nat), SR K F (σ.set i none) e fp → SR K F σ e fp
  | [], e, fp, i, h => by simpa using h
  | o :: σ, e, fp, 0, h => by
    have h : SR K F (none :: σ) e fp := h
    cases h with
    | no t => exact .no t
  | o :: σ, e, fp, i + 1, h => by
    have h : SR K F (o :: σ.set i none) e fp := h
    cases h with
    | no t => exact .no (SR.unwipe1 _ _ _ i t)
    | so r t => exact .so r (SR.unwipe1 _ _ _ i t)
theorem SR.unwipe {σ : L2.St} {e : En} {fp : Cells} : ∀ vs : List Nat, SR K F (L2.wipe σ vs) e fp → SR K F σ e fp
  | [], h => h
  | v :: vs, h => SR.unwipe vs (SR.unwipe1 _ _ _ v h)
theorem wipe_get (σ : L2.St) (j : Nat) : ∀ vs : List Nat, (L2.wipe σ vs)[j]? = if j ∈ vs ∧ j < σ.length then some none else σ[j]?
  | [] => by simp [L2.wipe]
  | v :: vs => by
    unfold L2.wipe
    rw [List.getElem?_set]
    by_cases hv : v = j
    · subst hv
      rw [if_pos rfl, wipe_length]
      by_cases hl : v < σ.length
      · rw [if_pos hl, if_pos ⟨List.mem_cons_self, hl⟩]
      · rw [if_neg hl, if_neg (fun z => hl z.2), List.getElem?_eq_none (Nat.le_of_not_lt hl)]
    · rw [if_neg hv, wipe_get σ j vs]
      by_cases hj : j ∈ vs ∧ j < σ.length
      · rw [if_pos hj, if_pos ⟨List.mem_cons_of_mem _ hj.1, hj.2⟩]
      · rw [if_neg hj, if_neg]
        rintro ⟨z, hl⟩
        rcases List.mem_cons.mp z with z | z
        · exact hv z.symm
        · exact hj ⟨z, hl⟩
theorem Ch.wipe {ts vs : List Nat} {σ σ2 : L2.St} (c : Ch ts (L2.wipe σ vs) σ2) (h : ∀ j ∈ ts, j ∈ vs) : L2.wipe σ2 vs = L2.wipe σ vs := by
  refine List.ext_getElem? fun j => ?_
  rw [wipe_get, wipe_get]
  have hl : σ2.length = σ.length := c.len.trans (wipe_length σ vs)
  rw [hl]
  by_cases hj : j ∈ vs ∧ j < σ.length
  · rw [if_pos hj, if_pos hj]
  · rw [if_neg hj, if_neg hj]
    by_cases hv : j ∈ vs
    · have : ¬ j < σ.length := fun z => hj ⟨hv, z⟩
      rw [List.getElem?_eq_none (by omega), List.getElem?_eq_none (by omega)]
    · rw [c.same j (fun z => hv (h j z)), wipe_get, if_neg (fun z => hv z.1)]
/-- no exception leaves -/
abbrev W0 : WX := fun _ _ _ _ => False
/-- a turn of a comprehension: none: left out -/
def lcT (mg : X → En → Option En) (mt : OM Bool) (me : OM D) (d : D) (e : En) : Option (Option D × En) :=
  match mg (.fz d) e with
  | none => none
  | some e1 => match mt e1 with
    | some (.ok true e2) => match me e2 with
      | some (.ok y e3) => some (some y, e3)
      | _ => none
    | some (.ok false e2) => some (none, e2)
    | _ => none
def lcL (mg : X → En → Option En) (mt : OM Bool) (me : OM D) (vs : List Nat) : List D → List D → En → Option (Rs X)
  | [], acc, e => some (.ok (.ol acc) e)
  | d :: r, acc, e => match lcT mg mt me d e with
    | some (some y, e1) => if acc.length < sizeLine then lcL mg mt me vs r (acc ++ [y]) (wpE e1 vs) else none
    | some (none, e1) => lcL mg mt me vs r acc (wpE e1 vs)
    | none => none
def m_lc (mi : OM (List D)) (mg : X → En → Option En) (mt : OM Bool) (me : OM D) (vs : List Nat) : OM X := fun ê => bnd (mi ê) fun ds e => lcL mg mt me vs ds [] (wpE e vs)
theorem lc_X {ts vs : List Nat} {wi : TI} {g : TG} {tt : TT} {te : TE} {mi : OM (List D)} {mg : X → En → Option En} {mt : OM Bool} {me : OM D} (hi : OkI K W Lk wi mi) (hg : OkTg K ts g mg) (ht : OkT K W0 Lk tt mt) (he : OkD K W0 Lk te me) (hts : ∀ j ∈ ts, j ∈ vs) :
    OkX K W Lk (tLc wi g tt te vs) (m_lc mi mg mt me vs) := by
  intro L R F H σ ê r Q hL hE hm hP
  refine hi.run hL hE hm hP fun J ds ex F1 H1 e1 s1 hx hE hm hP D nD => ?_
  obtain ⟨⟨w⟩, rfl⟩ := hx
  obtain ⟨fp, hs, hh⟩ := hE
  obtain ⟨fq, hs1, hsub⟩ := hs.wipe vs
  have hh1 := (hh.sub hsub).new (o := .lst []) nD
  refine lc_it w (fun i H' => ∃ F' e' va acc fp', L2.Same F1 F' ∧ FzL K F' va acc ∧ SR K F' (L2.wipe σ vs) e' fp' ∧ Hs L F' R ((D, .lst va) :: fp') H' ∧ lcL mg mt me vs (ds.drop i) acc e' = some r) ⟨F1, _, [], [], fq, .refl _, .nil, hs1, hh1, hm⟩ (fun i H' _ h => ?_) (fun i x H' H2 hlt h hy => ?_) (fun H' h => ?_)
  · obtain ⟨F', e', va, acc, fp', s, _, _, b, _⟩ := h
    exact ⟨L, b.f.sameL s⟩
  · obtain ⟨F', e', va, acc, fp', s, hacc, hsr, b, hm⟩ := h
    obtain ⟨d, hd, hy⟩ := hy
    obtain ⟨F2, s2, h2, hz⟩ := hy L F' R _ s b
    have hdr : ds.drop i = d :: ds.drop (i + 1) := by
      obtain ⟨h1, h2⟩ := List.getElem?_eq_some_iff.mp hd
      rw [← h2, List.getElem_cons_drop]
    rw [hdr] at hm
    unfold lcL at hm
    -- the list that is made is laid among what others hold
    have hR : R D = none := (h2.c (D, .lst va) List.mem_cons_self).2.2
    have h2g : Hs L F2 (plus [(D, .lst va)] R) fp' H2 := Hs.give (fp := [(D, .lst va)]) h2
    have back : ∀ {F3 H3 : Hp} {fq : Cells}, Hs L F3 (plus [(D, .lst va)] R) fq H3 → Hs L F3 R ((D, .lst va) :: fq) H3 := fun h3 => Hs.take (fp := [(D, .lst va)]) (by simp) (fun p hp => by rw [List.mem_singleton.mp hp]; exact hR) h3
    cases hT : lcT mg mt me d e' with
    | none => rw [hT] at hm; cases hm
    | some pr =>
      rw [hT] at hm
      unfold lcT at hT
      split at hT
      · cases hT
      · rename_i ea hea
        refine hg L (plus [(D, .lst va)] R) F2 H2 (L2.wipe σ vs) e' ea x _ [] _ (.fz hz) ⟨fp', hsr.rx (.of s2), h2g⟩ hea fun σ2 F3 s3 hE3 c3 => ?_
        have hw := c3.wipe hts
        refine ⟨hw, ?_⟩
        have fin : ∀ {F4 H4 : Hp} {e4 : En}, L2.Same F3 F4 → ER K L (plus [(D, .lst va)] R) F4 H4 [] σ2 e4 → ∃ fp4, SR K F4 (L2.wipe σ vs) (wpE e4 vs) fp4 ∧ Hs L F4 R ((D, .lst va) :: fp4) H4 := fun s4 hE4 => by
          obtain ⟨fp4, a4, b4⟩ := hE4
          obtain ⟨fq4, c4, d4⟩ := a4.wipe vs
          rw [hw] at c4
          exact ⟨fq4, c4, back (b4.sub d4)⟩
        have s13 := (s.trans s2).trans s3
        split at hT
        · rename_i e2 h2t
          split at hT
          · rename_i y e3 h3t
            obtain rfl := Option.some.inj hT
            simp only at hm
            split at hm
            · rename_i hlen
              refine ht L _ F3 H2 σ2 ea _ _ hL hE3 h2t fun b0 H4 F4 ex4 s4 hb hE4 => ?_
              obtain ⟨rfl, rfl⟩ := hb
              refine iteT (he L _ F4 H4 σ2 e2 _ _ hL hE4 h3t fun v5 H5 F5 ex5 s5 hv hE5 => ?_)
              obtain ⟨hv, rfl⟩ := hv
              obtain ⟨fp5, a5, b5⟩ := fin (s4.trans s5) hE5
              have sall := (s13.trans s4).trans s5
              refine ⟨va, (b5.c (D, .lst va) List.mem_cons_self).1, by rw [hacc.length]; exact hlen, F5, wpE e3 vs, va ++ [v5], acc ++ [y], fp5, sall, (hacc.mono ((s2.trans s3).trans (s4.trans s5))).app (.cons hv .nil), a5, b5.write, hm⟩
            · cases hm
          · cases hT
        · rename_i e2 h2t
          obtain rfl := Option.some.inj hT
          simp only at hm
          refine ht L _ F3 H2 σ2 ea _ _ hL hE3 h2t fun b0 H4 F4 ex4 s4 hb hE4 => ?_
          obtain ⟨rfl, rfl⟩ := hb
          refine iteF ?_
          obtain ⟨fp4, a4, b4⟩ := fin s4 hE4
          exact ⟨F4, wpE e2 vs, va, acc, fp4, s13.trans s4, hacc.mono ((s2.trans s3).trans s4), a4, b4, hm⟩
        · cases hT
  · obtain ⟨F', e', va, acc, fp', s, hacc, hsr, b, hm⟩ := h
    rw [List.drop_length] at hm
    obtain rfl := Option.some.inj hm
    exact hP (.ref D) H' F' [(D, .lst va)] s (.ol hacc) ⟨fp', hsr.unwipe vs, b⟩

/-! ### what is walked -/
theorem wd_same {F : Hp} {J : It} {ds : List D} {G : Hp → Prop} {Y : Nat → Hp → V → Hp → Prop} {n : Nat} (w : Walk J n G Y) (hn : n = ds.length) (hG : ∀ L H, Sub L F H → G H) (hY : ∀ i H x H', i < n → G H → Y i H x H' → H' = H ∧ ∃ d, ds[i]? = some d ∧ ∀ F1 L, L2.Same F F1 → Sub L F1 H → Fz K F1 x d) : WalkD K F J ds := by
  subst hn
  refine ⟨w.mono (fun H ⟨L, h⟩ => hG L H h) fun i H x H' hi ⟨L, h⟩ y => ?_⟩
  obtain ⟨rfl, d, hd, hz⟩ := hY i H x H' hi (hG L H h) y
  exact ⟨d, hd, fun L F1 R fp s hh => ⟨F1, .refl _, hh, hz F1 L s hh.f⟩⟩
theorem wd_seq {F : Hp} {J : It} {vs : List V} {ds : List D} {G : Hp → Prop} (w : Walk J vs.length G (YAt vs)) (hG : ∀ L H, Sub L F H → G H) (h : FzL K F vs ds) : WalkD K F J ds := by
  refine wd_same w h.length hG fun i H x H' hi _ y => ?_
  obtain ⟨rfl, hx⟩ := y
  obtain ⟨d, hd, hz⟩ := h.getV hx
  exact ⟨rfl, d, hd, fun F1 _ s _ => hz.mono s⟩
def klist : D → Option (List D)
  | .lst ds => some ds
  | .scr ns => some (ns.map .int)
  | _ => none
def ktup : D → Option (List D)
  | .tup ds => some ds
  | .tuw ds => some ds
  | _ => none
def kseq : D → Option (List D)
  | .lst ds => some ds
  | .scr ns => some (ns.map .int)
  | .tup ds => some ds
  | .tuw ds => some ds
  | _ => none
def kstr : D → Option (List D)
  | .str z => some (z.cps.toList.map fun c => .str ⟨#[c]⟩)
  | _ => none
theorem list_I {t : TE} {m : OM D} (h : OkD K W Lk t m) : OkI K W Lk (iList K t) (m1 klist m) := by
  refine op1_G (rel := relI K) (rr := fun x H1 R => ∃ a, x = .ref a ∧ (∃ xs, SqL K H1 a xs) ∧ R (Itl K a) H1) (fun x dx z L F R H fp Q hx hh hg q => ?_) h
  unfold klist at hg
  split at hg
  · obtain rfl := Option.some.inj hg
    cases hx with
    | lst h t => exact ⟨_, rfl, ⟨_, .of (hh.f.rx.lst _ _ h)⟩, q _ H F [] (.refl _) ⟨wd_seq walk_list (fun L H s => .of (s.rx.lst _ _ h)) t, rfl⟩ hh⟩
  · obtain rfl := Option.some.inj hg
    cases hx with
    | scr h => exact ⟨_, rfl, ⟨_, hh.f.rx.sqL h⟩, q _ H F [] (.refl _) ⟨wd_seq walk_list (fun L H s => s.rx.sqL h) (.ints _), rfl⟩ hh⟩
  · cases hg
theorem tup_I {t : TE} {m : OM D} (h : OkD K W Lk t m) : OkI K W Lk (iTup K t) (m1 ktup m) := by
  refine op1_G (rel := relI K) (rr := fun x H1 R => ∃ a, x = .ref a ∧ (∃ xs, SqT K H1 a xs) ∧ R (Itt K a) H1) (fun x dx z L F R H fp Q hx hh hg q => ?_) h
  unfold ktup at hg
  split at hg
  · obtain rfl := Option.some.inj hg
    cases hx with
    | tup h t => exact ⟨_, rfl, ⟨_, (hh.f.rx.tpf _ _ h).sq⟩, q _ H F [] (.refl _) ⟨wd_seq walk_tup (fun L H s => (s.rx.tpf _ _ h).sq) t, rfl⟩ hh⟩
  · obtain rfl := Option.some.inj hg
    cases hx with
    | tuw h t => exact ⟨_, rfl, ⟨_, hh.f.rx.sqT h⟩, q _ H F [] (.refl _) ⟨wd_seq walk_tup (fun L H s => s.rx.sqT h) t, rfl⟩ hh⟩
  · cases hg
theorem either_I {t : TE} {m : OM D} (h : OkD K W Lk t m) : OkI K W Lk (fun σ H R => iList K t σ H R ∨ iTup K t σ H R) (m1 kseq m) := by
  intro L R F H σ ê r Q hL hE hm hP
  unfold m1 at hm
  cases h1 : m ê with
  | none => simp only [h1, bnd] at hm; cases hm
  | some r1 =>
    cases r1 with
    | ex x e =>
      simp only [h1, bnd] at hm
      obtain rfl := Option.some.inj hm
      exact .inl (list_I h L R F H σ ê (.ex x e) Q hL hE (by unfold m1; rw [h1]; rfl) hP)
    | ok a e =>
      rw [h1] at hm
      have hm : un? kseq a e = some r := hm
      obtain ⟨ds, e1, rfl⟩ := un_some hm
      cases a with
      | lst ys => exact .inl (list_I h L R F H σ ê (.ok ds e) Q hL hE (by unfold m1; rw [h1]; exact hm) hP)
      | scr ys => exact .inl (list_I h L R F H σ ê (.ok ds e) Q hL hE (by unfold m1; rw [h1]; exact hm) hP)
      | tup ys => exact .inr (tup_I h L R F H σ ê (.ok ds e) Q hL hE (by unfold m1; rw [h1]; exact hm) hP)
      | tuw ys => exact .inr (tup_I h L R F H σ ê (.ok ds e) Q hL hE (by unfold m1; rw [h1]; exact hm) hP)
      | _ => cases e1
theorem str_I {t : TE} {m : OM D} (h : OkD K W Lk t m) : OkI K W Lk (iStr t) (m1 kstr m) := by
  refine op1_G (rel := relI K) (rr := fun v H1 R => ∃ x, v = .str x ∧ R (Its x) H1) (fun x dx z L F R H fp Q hx hh hg q => ?_) h
  unfold kstr at hg
  split at hg
  · obtain rfl := Option.some.inj hg
    rename_i z
    refine ⟨z, hx.toStr, q _ H F [] (.refl _) ⟨wd_same walk_str (by simp) (fun _ _ _ => trivial) fun i H x H' hi _ y => ?_, rfl⟩ hh⟩
    obtain ⟨rfl, c, hc, rfl⟩ := y
    exact ⟨rfl, _, by rw [List.getElem?_map, Array.getElem?_toList, hc]; rfl, fun _ _ _ _ => .str _⟩
  · cases hg
def krng1 : List D → Option (List D)
  | [.int j] => if -(2 ^ 62) ≤ j ∧ j < 2 ^ 62 then some ((List.range j.toNat).map fun (i : Nat) => .int (i : Int)) else none
  | _ => none
def krng2 : List D → Option (List D)
  | [.int i, .int j] => if (-(2 ^ 62) ≤ i ∧ i < 2 ^ 62) ∧ (-(2 ^ 62) ≤ j ∧ j < 2 ^ 62) then some ((List.range (j - i).toNat).map fun (k : Nat) => .int (i + (k : Int))) else none
  | _ => none
theorem rng1_I {t : TA} {m : OM (List D)} (h : OkA K W Lk t m) : OkI K W Lk (iRng1 t) (mA krng1 m) := by
  refine opA_G (rel := relI K) (rr := fun vs H1 R => ∃ j : Int, vs = [.int j] ∧ -(2 ^ 62) ≤ j ∧ j < 2 ^ 62 ∧ R (Itr 0 j.toNat) H1) (fun x dx z L F R H fp Q hx hh hg q => ?_) h
  unfold krng1 at hg
  split at hg
  · split at hg
    · rename_i j hj
      obtain rfl := Option.some.inj hg
      cases hx with
      | cons a t =>
        cases t
        rw [a.toInt]
        refine ⟨j, rfl, hj.1, hj.2, q _ H F [] (.refl _) ⟨wd_same walk_range (by simp) (fun _ _ _ => trivial) fun i H x H' hi _ y => ?_, rfl⟩ hh⟩
        obtain ⟨rfl, rfl⟩ := y
        refine ⟨rfl, .int (i : Int), by rw [List.getElem?_map, List.getElem?_range hi]; rfl, fun _ _ _ _ => ?_⟩
        show Fz K _ (V.int (0 + (i : Int))) _
        rw [Int.zero_add]
        exact .int _
    · cases hg
  · cases hg
theorem rng2_I {t : TA} {m : OM (List D)} (h : OkA K W Lk t m) : OkI K W Lk (iRng2 t) (mA krng2 m) := by
  refine opA_G (rel := relI K) (rr := fun vs H1 R => ∃ i j : Int, vs = [.int i, .int j] ∧ (-(2 ^ 62) ≤ i ∧ i < 2 ^ 62 ∧ -(2 ^ 62) ≤ j ∧ j < 2 ^ 62) ∧ R (Itr i (j - i).toNat) H1) (fun x dx z L F R H fp Q hx hh hg q => ?_) h
  unfold krng2 at hg
  split at hg
  · split at hg
    · rename_i a0 b0 hj
      obtain rfl := Option.some.inj hg
      cases hx with
      | cons a t =>
        cases t with
        | cons b t =>
          cases t
          rw [a.toInt, b.toInt]
          refine ⟨_, _, rfl, ⟨hj.1.1, hj.1.2, hj.2.1, hj.2.2⟩, q _ H F [] (.refl _) ⟨wd_same walk_range (by simp) (fun _ _ _ => trivial) fun i H x H' hi _ y => ?_, rfl⟩ hh⟩
          obtain ⟨rfl, rfl⟩ := y
          exact ⟨rfl, _, by rw [List.getElem?_map, List.getElem?_range hi]; rfl, fun _ _ _ _ => .int _⟩
    · cases hg
  · cases hg
/-- pairs that are laid turn by turn -/
theorem wd_pair {F : Hp} {J : It} {ds es : List D} {f g : Nat → Option V} {G : Hp → Prop} {n : Nat} (w : Walk J n G (YPair f g)) (hG : ∀ L H, Sub L F H → G H) (hn : n = (ds.zip es).length)
    (hf : ∀ i v, i < n → f i = some v → ∃ d, ds[i]? = some d ∧ Fz K F v d) (hg : ∀ i v, i < n → g i = some v → ∃ d, es[i]? = some d ∧ Fz K F v d) : WalkD K F J ((ds.zip es).map fun p => .tuw [p.1, p.2]) := by
  refine ⟨?_⟩
  rw [List.length_map, ← hn]
  refine w.mono (fun H ⟨L, h⟩ => hG L H h) fun i H x H' hi ⟨L, h⟩ y => ?_
  obtain ⟨T, a, b, rfl, nT, rfl, ha, hb⟩ := y
  obtain ⟨d1, h1, z1⟩ := hf i a hi ha
  obtain ⟨d2, h2, z2⟩ := hg i b hi hb
  refine ⟨.tuw [d1, d2], ?_, fun L F1 R fp s hh => ?_⟩
  · rw [List.getElem?_map, (List.getElem?_zip_eq_some (z := (d1, d2))).mpr ⟨h1, h2⟩]
    rfl
  · obtain ⟨hn, s1⟩ := hh.newF (o := .tup [a, b]) nT
    have s2 := s.trans s1
    exact ⟨_, s1, hn, .tuw (.of upd_same) (.cons (z1.mono s2) (.cons (z2.mono s2) .nil))⟩
def kenum : List D → Option (List D)
  | [.lst ds] => some ((((List.range ds.length).map fun (i : Nat) => D.int (i : Int)).zip ds).map fun p => .tuw [p.1, p.2])
  | _ => none
def kenumT : List D → Option (List D)
  | [.tup ds] => some ((((List.range ds.length).map fun (i : Nat) => D.int (i : Int)).zip ds).map fun p => .tuw [p.1, p.2])
  | [.tuw ds] => some ((((List.range ds.length).map fun (i : Nat) => D.int (i : Int)).zip ds).map fun p => .tuw [p.1, p.2])
  | _ => none
theorem nat_at {n i : Nat} {v : V} {F : Hp} (hi : i < n) (h : some (V.int (i : Nat)) = some v) : ∃ d, ((List.range n).map fun (i : Nat) => D.int (i : Int))[i]? = some d ∧ Fz K F v d := by
  obtain rfl := Option.some.inj h
  exact ⟨_, by rw [List.getElem?_map, List.getElem?_range hi]; rfl, .int _⟩
theorem enum_I {t : TA} {m : OM (List D)} (h : OkA K W Lk t m) : OkI K W Lk (iEnum K t) (mA kenum m) := by
  refine opA_G (rel := relI K) (rr := fun vs H1 R => ∃ a xs, vs = [.ref a] ∧ SqL K H1 a xs ∧ R (Ite K a) H1) (fun x dx z L F R H fp Q hx hh hg q => ?_) h
  unfold kenum at hg
  split at hg
  · obtain rfl := Option.some.inj hg
    cases hx with
    | cons a t =>
      cases t
      cases a with
      | lst h t =>
        refine ⟨_, _, rfl, .of (hh.f.rx.lst _ _ h), q _ H F [] (.refl _) ⟨wd_pair walk_enum (fun L H s => .of (s.rx.lst _ _ h)) (by simp [t.length]) (fun i v hi e => nat_at (by rw [← t.length]; exact hi) e) (fun i v hi e => t.getV e), rfl⟩ hh⟩
  · cases hg
theorem enumT_I {t : TA} {m : OM (List D)} (h : OkA K W Lk t m) : OkI K W Lk (iEnumT K t) (mA kenumT m) := by
  refine opA_G (rel := relI K) (rr := fun vs H1 R => ∃ a xs, vs = [.ref a] ∧ SqT K H1 a xs ∧ R (IteT K a) H1) (fun x dx z L F R H fp Q hx hh hg q => ?_) h
  unfold kenumT at hg
  split at hg
  · obtain rfl := Option.some.inj hg
    cases hx with
    | cons a t =>
      cases t
      cases a with
      | tup h t =>
        refine ⟨_, _, rfl, (hh.f.rx.tpf _ _ h).sq, q _ H F [] (.refl _) ⟨wd_pair walk_enumT (fun L H s => (s.rx.tpf _ _ h).sq) (by simp [t.length]) (fun i v hi e => nat_at (by rw [← t.length]; exact hi) e) (fun i v hi e => t.getV e), rfl⟩ hh⟩
  · obtain rfl := Option.some.inj hg
    cases hx with
    | cons a t =>
      cases t
      cases a with
      | tuw h t =>
        refine ⟨_, _, rfl, hh.f.rx.sqT h, q _ H F [] (.refl _) ⟨wd_pair walk_enumT (fun L H s => s.rx.sqT h) (by simp [t.length]) (fun i v hi e => nat_at (by rw [← t.length]; exact hi) e) (fun i v hi e => t.getV e), rfl⟩ hh⟩
  · cases hg
def kzip : List D → Option (List D)
  | [.lst ds, .lst es] => some ((ds.zip es).map fun p => .tuw [p.1, p.2])
  | _ => none
theorem zip_I {t : TA} {m : OM (List D)} (h : OkA K W Lk t m) : OkI K W Lk (iZip K t) (mA kzip m) := by
  refine opA_G (rel := relI K) (rr := fun vs H1 R => ∃ a b xs ys, vs = [.ref a, .ref b] ∧ SqL K H1 a xs ∧ SqL K H1 b ys ∧ R (Itz K a b) H1) (fun x dx z L F R H fp Q hx hh hg q => ?_) h
  unfold kzip at hg
  split at hg
  · obtain rfl := Option.some.inj hg
    cases hx with
    | cons a t =>
      cases t with
      | cons b t =>
        cases t
        cases a with
        | lst h t =>
          cases b with
          | lst h2 t2 =>
            refine ⟨_, _, _, _, rfl, .of (hh.f.rx.lst _ _ h), .of (hh.f.rx.lst _ _ h2), q _ H F [] (.refl _) ⟨wd_pair (walk_zip rfl) (fun L H s => ⟨.of (s.rx.lst _ _ h), .of (s.rx.lst _ _ h2)⟩) (by simp [t.length, t2.length]) (fun i v hi e => t.getV e) (fun i v hi e => t2.getV e), rfl⟩ hh⟩
  · cases hg
end
end GD
/-! own data layer: a name's own list or dict, built-in calls, dicts -/
namespace GD
open PySem PySem.Spec PyProof.Rows L2

section
variable {K : PySem.W.Frag} {W : WX} {Lk : List Addr → Prop} {L : List Addr} {F F' R H H' : Hp} {io : List Nat}
theorem ER.at {σ : L2.St} {e : En} {i : Nat} {x : X} (h : ER K L R F H [] σ e) (hx : gt e i = some x) : ∃ v a fp, σ[i]? = some (some v) ∧ XR K F v x a ∧ SR K F σ (st' e i none) fp ∧ Hs L F R (a ++ fp) H := by
  obtain ⟨fp, hs, hh⟩ := h
  obtain ⟨v, a, b, h1, h2, h3, h4⟩ := hs.at hx
  exact ⟨v, a, b, h1, h2, h3, hh.perm h4⟩
theorem ER.back {σ : L2.St} {e : En} {i : Nat} {y : X} {v : V} {b fp : Cells} (s : SR K F σ (st' e i none) fp) (h1 : σ[i]? = some (some v)) (hy : XR K F v y b) (hh : Hs L F R (b ++ fp) H) : ER K L R F H [] σ (st' e i (some y)) := by
  obtain ⟨c, k1, k2⟩ := SR.back hy _ _ _ _ s h1
  exact ⟨c, k1, hh.perm k2.symm⟩

/-! ### a name's own list -/
def kap (i : Nat) (d : D) (e : En) : Option (Rs X) := match gt e i with
  | some (.ol ds) => if ds.length < sizeLine then some (.ok (.fz .non) (st' e i (some (.ol (ds ++ [d]))))) else none
  | _ => none
def ifOl {α : Type} (i : Nat) (m : OM α) : OM α := fun ê => match gt ê i with | some (.ol _) => m ê | _ => none
def m_append (i : Nat) (me : OM D) : OM X := ifOl i fun ê => bnd (me ê) (kap i)
theorem append_X {i : Nat} {te : TE} {me : OM D} (he : OkD K W Lk te me) : OkX K W Lk (tBM K "list" rAppend (tVar i) (tCons te tNil)) (m_append i me) := by
  intro L R F H σ ê r Q hL hE hm hP
  unfold m_append ifOl at hm
  split at hm
  · rename_i ds0 hx
    obtain ⟨v, a, fp, h1, h2, h3, h4⟩ := hE.at hx
    refine ⟨v, h1, ?_, ?_⟩
    · cases h2 with
      | ol t => exact .inl ⟨rfl, _, .of (h4.c _ List.mem_cons_self).1⟩
    · refine he.run hL hE hm hP fun w d ex F1 H1 e1 s1 hz hE hm hP => ?_
      obtain ⟨hz, rfl⟩ := hz
      unfold kap at hm
      split at hm
      · split at hm
        · rename_i ds hx1 hlen
          obtain rfl := Option.some.inj hm
          obtain ⟨v2, a2, fp2, k1, k2, k3, k4⟩ := hE.at hx1
          obtain rfl : v = v2 := Option.some.inj (Option.some.inj (h1.symm.trans k1))
          cases k2 with
          | ol t => exact ⟨_, _, w, rfl, rfl, (k4.c _ List.mem_cons_self).1, by rw [t.length]; exact hlen, hP _ _ F1 [] (.refl _) (.fz .non) (ER.back k3 k1 (.ol (t.app (.cons hz .nil))) k4.write)⟩
        · cases hm
      · cases hm
  · cases hm
def kpop (i : Nat) (d : D) (e : En) : Option (Rs D) := match gt e i, d with
  | some (.ol ds), .int j => if -(2 ^ 63) ≤ j ∧ j < 2 ^ 63 then match seqIndex? j ds.length with
    | some k => match ds[k]? with
      | some y => some (.ok y (st' e i (some (.ol (ds.eraseIdx k)))))
      | none => none
    | none => none else none
  | _, _ => none
def m_popAt (i : Nat) (me : OM D) : OM D := ifOl i fun ê => bnd (me ê) (kpop i)
theorem popAt_D {i : Nat} {te : TE} {me : OM D} (he : OkD K W Lk te me) : OkD K W Lk (tBM K "list" rPopAt (tVar i) (tCons te tNil)) (m_popAt i me) := by
  intro L R F H σ ê r Q hL hE hm hP
  unfold m_popAt ifOl at hm
  split at hm
  · rename_i ds0 hx
    obtain ⟨v, a, fp, h1, h2, h3, h4⟩ := hE.at hx
    refine ⟨v, h1, ?_, ?_⟩
    · cases h2 with
      | ol t => exact .inl ⟨rfl, _, .of (h4.c _ List.mem_cons_self).1⟩
    · refine he.run hL hE hm hP fun w d ex F1 H1 e1 s1 hz hE hm hP => ?_
      obtain ⟨hz, rfl⟩ := hz
      unfold kpop at hm
      split at hm
      · rename_i ds j hx1
        split at hm
        · rename_i hj
          split at hm
          · rename_i k hk
            split at hm
            · rename_i y hy
              obtain rfl := Option.some.inj hm
              obtain ⟨v2, a2, fp2, k1, k2, k3, k4⟩ := hE.at hx1
              obtain rfl : v = v2 := Option.some.inj (Option.some.inj (h1.symm.trans k1))
              cases k2 with
              | ol t =>
                obtain ⟨vy, g1, g2⟩ := t.get hy
                exact ⟨_, _, j, k, vy, rfl, by rw [hz.toInt], (k4.c _ List.mem_cons_self).1, hj.1, hj.2, by rw [t.length]; exact hk, g1, hP _ _ F1 [] (.refl _) ⟨g2, rfl⟩ (ER.back k3 k1 (.ol (t.erase k)) k4.write)⟩
            · cases hm
          · cases hm
        · cases hm
      · cases hm
  · cases hm
/-- looks at a name's own list -/
def lkOl (e : En) (i : Nat) : Option D := match gt e i with
  | some (.ol ds) => some (.lst ds)
  | some (.fz d) => some d
  | _ => none
theorem lkOl_some {e : En} {i : Nat} {d : D} (h : lkOl e i = some d) : (∃ ds, gt e i = some (.ol ds) ∧ d = .lst ds) ∨ gt e i = some (.fz d) := by
  unfold lkOl at h
  split at h
  · rename_i ds hx
    exact .inl ⟨ds, hx, (Option.some.inj h).symm⟩
  · rename_i d' hx
    obtain rfl := Option.some.inj h
    exact .inr hx
  · cases h
/-- as frozen for a look -/
theorem ER.look {σ : L2.St} {e : En} {i : Nat} {d : D} (h : ER K L R F H [] σ e) (hx : lkOl e i = some d) : ∃ v F', σ[i]? = some (some v) ∧ L2.Same F F' ∧ Fz K F' v d ∧ Rx F' H := by
  rcases lkOl_some hx with ⟨ds, hx1, e1⟩ | hx1
  · obtain ⟨v, a, fp, h1, h2, h3, h4⟩ := h.at hx1
    have f1 := h4.fr.left
    subst e1
    exact ⟨v, plus a F, h1, f1.same, h2.freeze f1, h4.freeze.f.rx⟩
  · obtain ⟨v, a, fp, h1, h2, h3, h4⟩ := h.at hx1
    cases h2 with
    | fz hz => exact ⟨v, F, h1, .refl _, hz, h4.f.rx⟩
/-- an operation that only looks and answers flat -/
def Lk2 (K : PySem.W.Frag) (rr : V → V → Hp → VK → Prop) (g : D → D → Option D) : Prop :=
  ∀ x y dx dy z (F H : Hp) (Q : VK), Fz K F x dx → Fz K F y dy → Rx F H → g dx dy = some z → (∀ b F0, Fz K F0 b z → Q b H) → rr x y H Q
def kv1 (g : D → D → Option D) (i : Nat) (d : D) (e : En) : Option (Rs D) := match lkOl e i with
  | some x => un? (g x) d e
  | none => none
/-- x op e, x a name -/
def m_l2 (g : D → D → Option D) (i : Nat) (mb : OM D) : OM D := fun ê => bnd (mb ê) (kv1 g i)
def kv2 (g : D → D → Option D) (i : Nat) (d : D) (e : En) : Option (Rs D) := match lkOl e i with
  | some x => un? (fun d => g d x) d e
  | none => none
/-- e op x, x a name -/
def m_r2 (g : D → D → Option D) (i : Nat) (mb : OM D) : OM D := fun ê => bnd (mb ê) (kv2 g i)
theorem flat_any {F0 : Hp} {v : V} {d : D} (h : Fz K F0 v d) (f : flatF d = true) (F : Hp) : Fz K F v d := by
  cases h <;> first | exact .non | exact .bl _ | exact .int _ | exact .str _ | cases f
/-- x[e], x a name's own list: the item stays with the frozen data -/
def kix (i : Nat) (d : D) (e : En) : Option (Rs D) := match gt e i, d with
  | some (.ol ds), .int j => match atI ds j with
    | some y => some (.ok y e)
    | none => none
  | some (.fz (.lst ds)), .int j => match atI ds j with
    | some y => some (.ok y e)
    | none => none
  | _, _ => none
def m_ixV (i : Nat) (mb : OM D) : OM D := fun ê => bnd (mb ê) (kix i)
theorem ER.slot {σ : L2.St} {e : En} {i : Nat} {x : X} (h : ER K L R F H [] σ e) (hx : gt e i = some x) : ∃ v, σ[i]? = some (some v) := by
  obtain ⟨v, _, _, h1, _⟩ := h.at hx
  exact ⟨v, h1⟩
def ifAny {α : Type} (i : Nat) (m : OM α) : OM α := fun ê => match gt ê i with | some _ => m ê | none => none
theorem ixV_D {i : Nat} {tb : TE} {mb : OM D} (hb : OkD K W Lk tb mb) : OkD K W Lk (tOp (rIxL K) (tVar i) tb) (ifAny i (m_ixV i mb)) := by
  intro L R F H σ ê r Q hL hE hm hP
  unfold ifAny at hm
  split at hm
  · rename_i x0 hx0
    obtain ⟨v, h1⟩ := hE.slot hx0
    refine ⟨v, h1, hb.run hL hE hm hP fun w d ex F1 H1 e1 s1 hz hE hm hP => ?_⟩
    obtain ⟨hz, rfl⟩ := hz
    unfold kix at hm
    split at hm
    · rename_i ds j hx1
      split at hm
      · rename_i y hy
        obtain rfl := Option.some.inj hm
        obtain ⟨v2, a2, fp2, k1, k2, k3, k4⟩ := hE.at hx1
        obtain rfl : v = v2 := Option.some.inj (Option.some.inj (h1.symm.trans k1))
        cases k2 with
        | ol t =>
          obtain ⟨u, e, f⟩ := t.atI hy
          exact ⟨_, _, j, u, rfl, hz.toInt, .of (k4.c _ List.mem_cons_self).1, e, hP u H1 F1 [] (.refl _) ⟨f, rfl⟩ hE⟩
      · cases hm
    · rename_i ds j hx1
      split at hm
      · rename_i y hy
        obtain rfl := Option.some.inj hm
        obtain ⟨v2, a2, fp2, k1, k2, k3, k4⟩ := hE.at hx1
        obtain rfl : v = v2 := Option.some.inj (Option.some.inj (h1.symm.trans k1))
        cases k2 with
        | fz hx =>
          cases hx with
          | lst h t =>
            obtain ⟨u, e, f⟩ := t.atI hy
            exact ⟨_, _, j, u, rfl, hz.toInt, .of (k4.f.rx.lst _ _ h), e, hP u H1 F1 [] (.refl _) ⟨f, rfl⟩ hE⟩
      · cases hm
    · cases hm
  · cases hm
theorem l2_D {rr : V → V → Hp → VK → Prop} {g : D → D → Option D} {i : Nat} {tb : TE} {mb : OM D} (o : Lk2 K rr g) (hf : ∀ a b z, g a b = some z → flatF z = true) (hb : OkD K W Lk tb mb) : OkD K W Lk (tOp rr (tVar i) tb) (ifAny i (m_l2 g i mb)) := by
  intro L R F H σ ê r Q hL hE hm hP
  unfold ifAny at hm
  split at hm
  · rename_i x0 hx0
    obtain ⟨v, h1⟩ := hE.slot hx0
    refine ⟨v, h1, hb.run hL hE hm hP fun w d ex F1 H1 e1 s1 hz hE hm hP => ?_⟩
    obtain ⟨hz, rfl⟩ := hz
    unfold kv1 at hm
    split at hm
    · rename_i x hx
      obtain ⟨b, hb, rfl⟩ := un_some hm
      obtain ⟨v2, F2, k1, k2, k3, k4⟩ := hE.look hx
      obtain rfl : v = v2 := Option.some.inj (Option.some.inj (h1.symm.trans k1))
      exact o v w _ _ b F2 H1 Q k3 (hz.mono k2) k4 hb fun c F0 hc => hP c H1 F1 [] (.refl _) ⟨flat_any hc (hf _ _ _ hb) F1, rfl⟩ hE
    · cases hm
  · cases hm
theorem r2_D {rr : V → V → Hp → VK → Prop} {g : D → D → Option D} {i : Nat} {ta : TE} {ma : OM D} (o : Lk2 K rr g) (hf : ∀ a b z, g a b = some z → flatF z = true) (ha : OkD K W Lk ta ma) : OkD K W Lk (tOp rr ta (tVar i)) (m_r2 g i ma) := by
  intro L R F H σ ê r Q hL hE hm hP
  refine ha.run hL hE hm hP fun w d ex F1 H1 e1 s1 hz hE hm hP => ?_
  obtain ⟨hz, rfl⟩ := hz
  unfold kv2 at hm
  split at hm
  · rename_i x hx
    obtain ⟨b, hb, rfl⟩ := un_some hm
    obtain ⟨v2, F2, k1, k2, k3, k4⟩ := hE.look hx
    exact ⟨v2, k1, o w v2 _ _ b F2 H1 Q (hz.mono k2) k3 k4 hb fun c F0 hc => hP c H1 F1 [] (.refl _) ⟨flat_any hc (hf _ _ _ hb) F1, rfl⟩ hE⟩
  · cases hm
theorem lk_eqD : Lk2 K (rEqD K) (eqD false) := by
  intro x y dx dy z F H Q hx hy s hg q
  unfold eqD at hg
  split at hg
  · rename_i a b ea eb
    split at hg
    · rename_i hs
      obtain rfl := Option.some.inj hg
      exact ⟨a, b, hx.dp s ea, hy.dp s eb, hs.1, hs.2, q _ F (by rw [Bool.false_xor]; exact .bl _)⟩
    · cases hg
  · cases hg
theorem lk_neD : Lk2 K (rNeD K) (eqD true) := by
  intro x y dx dy z F H Q hx hy s hg q
  unfold eqD at hg
  split at hg
  · rename_i a b ea eb
    split at hg
    · rename_i hs
      obtain rfl := Option.some.inj hg
      exact ⟨a, b, hx.dp s ea, hy.dp s eb, hs.1, hs.2, q _ F (by rw [Bool.true_xor]; exact .bl _)⟩
    · cases hg
  · cases hg
theorem eqD_flat {neg : Bool} (a b z : D) (h : eqD neg a b = some z) : flatF z = true := by
  unfold eqD at h
  split at h
  · split at h
    · obtain rfl := Option.some.inj h
      rfl
    · cases h
  · cases h
theorem inF_flat {neg : Bool} (a b z : D) (h : inF neg a b = some z) : flatF z = true := by
  unfold inF at h
  split at h
  · split at h
    · obtain rfl := Option.some.inj h
      rfl
    · cases h
  · split at h
    · obtain rfl := Option.some.inj h
      rfl
    · cases h
  · split at h
    · obtain rfl := Option.some.inj h
      rfl
    · cases h
  · cases h
theorem lk_in (neg : Bool) : Lk2 K (rIn K neg) (inF neg) := by
  intro x y dx dy z F H Q hx hy s hg q
  have fin : ∀ (vs : List V) (ds : List D), FzL K F vs ds → flatF dx = true → ds.all flatF = true → flatV x = true ∧ vs.all flatV = true ∧ (if neg then !inV x vs else inV x vs) = xor neg (ds.any fun y => eqV (toV y) (toV dx)) := fun vs ds t f1 f2 => by
    obtain ⟨e1, k1⟩ := hx.flat f1
    obtain ⟨e2, k2⟩ := t.flat f2
    refine ⟨k1, k2, ?_⟩
    rw [e1, e2, inV_map]
    cases neg <;> simp
  unfold inF at hg
  split at hg
  · split at hg
    · rename_i ds hs
      obtain rfl := Option.some.inj hg
      cases hy with
      | lst h t =>
        obtain ⟨a, b, c⟩ := fin _ _ t hs.1 hs.2
        exact ⟨_, _, rfl, .inl (.of (s.lst _ _ h)), a, b, q _ F (by rw [c]; exact .bl _)⟩
    · cases hg
  · split at hg
    · rename_i ds hs
      obtain rfl := Option.some.inj hg
      cases hy with
      | tup h t =>
        obtain ⟨a, b, c⟩ := fin _ _ t hs.1 hs.2
        exact ⟨_, _, rfl, .inr (s.tpf _ _ h).sq, a, b, q _ F (by rw [c]; exact .bl _)⟩
    · cases hg
  · split at hg
    · rename_i ds hs
      obtain rfl := Option.some.inj hg
      cases hy with
      | tuw h t =>
        obtain ⟨a, b, c⟩ := fin _ _ t hs.1 hs.2
        exact ⟨_, _, rfl, .inr (s.sqT h), a, b, q _ F (by rw [c]; exact .bl _)⟩
    · cases hg
  · cases hg
/-- one place: len(x) and the like of a name -/
def Lk1 (K : PySem.W.Frag) (rr : List V → Hp → VK → Prop) (g : D → Option D) : Prop :=
  ∀ x dx z (F H : Hp) (Q : VK), Fz K F x dx → Rx F H → g dx = some z → (∀ b F0, Fz K F0 b z → Q b H) → rr [x] H Q
def m_l1 (g : D → Option D) (i : Nat) : OM D := fun ê => match lkOl ê i with
  | some x => un? g x ê
  | none => none
theorem l1_D {rr : List V → Hp → VK → Prop} {g : D → Option D} {i : Nat} (o : Lk1 K rr g) (hf : ∀ a z, g a = some z → flatF z = true) : OkD K W Lk (tCB rr (tCons (tVar i) tNil)) (m_l1 g i) := by
  intro L R F H σ ê r Q hL hE hm hP
  unfold m_l1 at hm
  split at hm
  · rename_i x hx
    obtain ⟨b, hb, rfl⟩ := un_some hm
    obtain ⟨v2, F2, k1, k2, k3, k4⟩ := hE.look hx
    exact ⟨v2, k1, o v2 _ b F2 H Q k3 k4 hb fun c F0 hc => hP c H F [] (.refl _) ⟨flat_any hc (hf _ _ hb) F, rfl⟩ hE⟩
  · cases hm
theorem op1_of_lk {rr : List V → Hp → VK → Prop} {g : D → Option D} (o : Lk1 K rr g) (hf : ∀ a z, g a = some z → flatF z = true) {t : TE} {m : OM D} (h : OkD K W Lk t m) : OkD K W Lk (tCB rr (tCons t tNil)) (m1 g m) := by
  refine op1_G (rel := relD K) (rr := fun x H1 Q => rr [x] H1 Q) (fun x dx z L F R H fp Q hx hh hg q => ?_) h
  exact o x dx z F H Q hx hh.f.rx hg fun b F0 hb => q b H F [] (.refl _) ⟨flat_any hb (hf _ _ hg) F, rfl⟩ hh

/-! ### built-in calls -/
def lenG : D → Option D
  | .lst ds => some (.int ds.length)
  | .tup ds => some (.int ds.length)
  | .tuw ds => some (.int ds.length)
  | .scr ns => some (.int ns.length)
  | _ => none
theorem lenG_flat (a z : D) (h : lenG a = some z) : flatF z = true := by
  unfold lenG at h
  split at h <;> first | (obtain rfl := Option.some.inj h; rfl) | cases h
theorem lk_len : Lk1 K (fun xs H Q => ∃ p ys, xs = [.ref p] ∧ (SqL K H p ys ∨ SqT K H p ys) ∧ Q (.int ys.length) H) lenG := by
  intro x dx z F H Q hx s hg q
  unfold lenG at hg
  split at hg
  · obtain rfl := Option.some.inj hg
    cases hx with
    | lst h t => exact ⟨_, _, rfl, .inl (.of (s.lst _ _ h)), q _ F (by rw [t.length]; exact .int _)⟩
  · obtain rfl := Option.some.inj hg
    cases hx with
    | tup h t => exact ⟨_, _, rfl, .inr (s.tpf _ _ h).sq, q _ F (by rw [t.length]; exact .int _)⟩
  · obtain rfl := Option.some.inj hg
    cases hx with
    | tuw h t => exact ⟨_, _, rfl, .inr (s.sqT h), q _ F (by rw [t.length]; exact .int _)⟩
  · obtain rfl := Option.some.inj hg
    cases hx with
    | scr h => exact ⟨_, _, rfl, .inl (s.sqL h), q _ F (by rw [List.length_map]; exact .int _)⟩
  · cases hg
def lenS : D → Option D
  | .str z => if z.length ≤ sizeLine then some (.int z.length) else none
  | _ => none
theorem lenS_flat (a z : D) (h : lenS a = some z) : flatF z = true := by
  unfold lenS at h
  split at h
  · split at h
    · obtain rfl := Option.some.inj h; rfl
    · cases h
  · cases h
theorem lk_lenS : Lk1 K (fun xs H Q => ∃ z, xs = [.str z] ∧ z.length ≤ sizeLine ∧ Q (.int z.length) H) lenS := by
  intro x dx z F H Q hx s hg q
  unfold lenS at hg
  split at hg
  · split at hg
    · rename_i hz
      obtain rfl := Option.some.inj hg
      exact ⟨_, by rw [hx.toStr], hz, q _ F (.int _)⟩
    · cases hg
  · cases hg
/-- len of a list, a tuple or a text, by the value -/
def lenA : D → Option D
  | .str z => lenS (.str z)
  | d => lenG d
theorem lk_lenA : Lk1 K (fun xs H Q => ∃ x n, xs = [x] ∧ LenV K x H n ∧ Q (.int n) H) lenA := by
  intro x dx z F H Q hx s hg q
  have sq : ∀ p (ys : List V), x = .ref p → (SqL K H p ys ∨ SqT K H p ys) → LenV K x H ys.length := fun p ys e h => by
    subst e
    rcases h with h | h
    · exact .inl ⟨_, h, rfl⟩
    · exact .inr ⟨_, h, rfl⟩
  unfold lenA at hg
  split at hg
  · simp only [lenS] at hg
    split at hg
    · rename_i hz
      obtain rfl := Option.some.inj hg
      exact ⟨x, _, rfl, by rw [hx.toStr]; exact ⟨hz, rfl⟩, q _ F (.int _)⟩
    · cases hg
  · unfold lenG at hg
    split at hg
    · obtain rfl := Option.some.inj hg
      cases hx with
      | lst h t => exact ⟨_, _, rfl, sq _ _ rfl (.inl (.of (s.lst _ _ h))), q _ F (by rw [t.length]; exact .int _)⟩
    · obtain rfl := Option.some.inj hg
      cases hx with
      | tup h t => exact ⟨_, _, rfl, sq _ _ rfl (.inr (s.tpf _ _ h).sq), q _ F (by rw [t.length]; exact .int _)⟩
    · obtain rfl := Option.some.inj hg
      cases hx with
      | tuw h t => exact ⟨_, _, rfl, sq _ _ rfl (.inr (s.sqT h)), q _ F (by rw [t.length]; exact .int _)⟩
    · obtain rfl := Option.some.inj hg
      cases hx with
      | scr h => exact ⟨_, _, rfl, sq _ _ rfl (.inl (s.sqL h)), q _ F (by rw [List.length_map]; exact .int _)⟩
    · cases hg
def intsOf : List D → Option (List Int)
  | [] => some []
  | .int i :: r => (intsOf r).map (i :: ·)
  | _ => none
theorem intsOf_some : ∀ {ds : List D} {ns : List Int}, intsOf ds = some ns → ds = ns.map .int
  | [], ns, h => by cases h; rfl
  | d :: r, ns, h => by
    unfold intsOf at h
    split at h
    · rename_i heq; cases heq
    · rename_i i r' heq
      obtain ⟨rfl, rfl⟩ := List.cons.inj heq
      obtain ⟨ms, e, rfl⟩ := Option.map_eq_some_iff.mp h
      rw [intsOf_some e]
      rfl
    · cases h
def strsOf : List D → Option (List Str)
  | [] => some []
  | .str i :: r => (strsOf r).map (i :: ·)
  | _ => none
theorem strsOf_some : ∀ {ds : List D} {ns : List Str}, strsOf ds = some ns → ds = ns.map .str
  | [], ns, h => by cases h; rfl
  | d :: r, ns, h => by
    unfold strsOf at h
    split at h
    · rename_i heq; cases heq
    · rename_i i r' heq
      obtain ⟨rfl, rfl⟩ := List.cons.inj heq
      obtain ⟨ms, e, rfl⟩ := Option.map_eq_some_iff.mp h
      rw [strsOf_some e]
      rfl
    · cases h
def blsOf : List D → Option (List Bool)
  | [] => some []
  | .bl i :: r => (blsOf r).map (i :: ·)
  | _ => none
theorem blsOf_some : ∀ {ds : List D} {ns : List Bool}, blsOf ds = some ns → ds = ns.map .bl
  | [], ns, h => by cases h; rfl
  | d :: r, ns, h => by
    unfold blsOf at h
    split at h
    · rename_i heq; cases heq
    · rename_i i r' heq
      obtain ⟨rfl, rfl⟩ := List.cons.inj heq
      obtain ⟨ms, e, rfl⟩ := Option.map_eq_some_iff.mp h
      rw [blsOf_some e]
      rfl
    · cases h
theorem intsOf_map (ns : List Int) : intsOf (ns.map .int) = some ns := by
  induction ns with
  | nil => rfl
  | cons n r ih => show (intsOf (r.map .int)).map (n :: ·) = _; rw [ih]; rfl
theorem strsOf_map (ns : List Str) : strsOf (ns.map .str) = some ns := by
  induction ns with
  | nil => rfl
  | cons n r ih => show (strsOf (r.map .str)).map (n :: ·) = _; rw [ih]; rfl
theorem blsOf_map (ns : List Bool) : blsOf (ns.map .bl) = some ns := by
  induction ns with
  | nil => rfl
  | cons n r ih => show (blsOf (r.map .bl)).map (n :: ·) = _; rw [ih]; rfl
theorem FzL.toBls : ∀ {vs : List V} {ns : List Bool}, FzL K F vs (ns.map D.bl) → vs = ns.map V.bl
  | _, [], h => by cases h; rfl
  | _, n :: r, h => by
    cases h with
    | cons a t => rw [a.toBl, t.toBls]; rfl
def allG : D → Option D
  | .lst ds => (blsOf ds).map fun bs => .bl (bs.all id)
  | _ => none
def anyG : D → Option D
  | .lst ds => (blsOf ds).map fun bs => .bl (bs.any id)
  | _ => none
def sumG : D → Option D
  | .lst ds => (intsOf ds).map fun bs => .int bs.sum
  | _ => none
theorem allG_flat (a z : D) (h : allG a = some z) : flatF z = true := by
  unfold allG at h
  split at h
  · obtain ⟨_, _, rfl⟩ := Option.map_eq_some_iff.mp h; rfl
  · cases h
theorem anyG_flat (a z : D) (h : anyG a = some z) : flatF z = true := by
  unfold anyG at h
  split at h
  · obtain ⟨_, _, rfl⟩ := Option.map_eq_some_iff.mp h; rfl
  · cases h
theorem sumG_flat (a z : D) (h : sumG a = some z) : flatF z = true := by
  unfold sumG at h
  split at h
  · obtain ⟨_, _, rfl⟩ := Option.map_eq_some_iff.mp h; rfl
  · cases h
theorem lk_all : Lk1 K (rAll K) allG := by
  intro x dx z F H Q hx s hg q
  unfold allG at hg
  split at hg
  · obtain ⟨bs, e, rfl⟩ := Option.map_eq_some_iff.mp hg
    obtain rfl := blsOf_some e
    cases hx with
    | lst h t => exact ⟨_, bs, rfl, .of (by rw [← t.toBls]; exact s.lst _ _ h), q _ F (.bl _)⟩
  · cases hg
theorem lk_any : Lk1 K (rAny K) anyG := by
  intro x dx z F H Q hx s hg q
  unfold anyG at hg
  split at hg
  · obtain ⟨bs, e, rfl⟩ := Option.map_eq_some_iff.mp hg
    obtain rfl := blsOf_some e
    cases hx with
    | lst h t => exact ⟨_, bs, rfl, .of (by rw [← t.toBls]; exact s.lst _ _ h), q _ F (.bl _)⟩
  · cases hg
theorem lk_sum : Lk1 K (rSum K) sumG := by
  intro x dx z F H Q hx s hg q
  unfold sumG at hg
  split at hg
  · obtain ⟨bs, e, rfl⟩ := Option.map_eq_some_iff.mp hg
    obtain rfl := intsOf_some e
    cases hx with
    | lst h t => exact ⟨_, bs, rfl, .of (by rw [← t.toInts]; exact s.lst _ _ h), q _ F (.int _)⟩
  · cases hg
def absG : D → Option D
  | .int i => some (.int (if i < 0 then -i else i))
  | _ => none
theorem absG_flat (a z : D) (h : absG a = some z) : flatF z = true := by
  unfold absG at h
  split at h <;> first | (obtain rfl := Option.some.inj h; rfl) | cases h
theorem lk_abs : Lk1 K (fun xs H Q => ∃ i, xs = [.int i] ∧ Q (.int (if i < 0 then -i else i)) H) absG := by
  intro x dx z F H Q hx s hg q
  unfold absG at hg
  split at hg
  · obtain rfl := Option.some.inj hg
    exact ⟨_, by rw [hx.toInt], q _ F (.int _)⟩
  · cases hg
def int1G : D → Option D
  | .int i => some (.int i)
  | .bl k => some (.int (if k then 1 else 0))
  | _ => none
theorem int1G_flat (a z : D) (h : int1G a = some z) : flatF z = true := by
  unfold int1G at h
  split at h <;> first | (obtain rfl := Option.some.inj h; rfl) | cases h
theorem lk_int1 : Lk1 K (fun xs H Q => (∃ i, xs = [.int i] ∧ Q (.int i) H) ∨ ∃ k, xs = [.bl k] ∧ Q (.int (if k then 1 else 0)) H) int1G := by
  intro x dx z F H Q hx s hg q
  unfold int1G at hg
  split at hg
  · obtain rfl := Option.some.inj hg
    exact .inl ⟨_, by rw [hx.toInt], q _ F (.int _)⟩
  · obtain rfl := Option.some.inj hg
    exact .inr ⟨_, by rw [hx.toBl], q _ F (.int _)⟩
  · cases hg
def arg2 (g : D → D → Option D) : List D → Option D
  | [a, b] => g a b
  | _ => none
def min2 := intOp fun i j => some (.int (if j < i then j else i))
def max2 := intOp fun i j => some (.int (if j > i then j else i))
def gcd2 := intOp fun i j => some (.int ((Nat.gcd i.natAbs j.natAbs : Nat) : Int))
theorem a2_D {rr : List V → Hp → VK → Prop} {g : Int → Int → D} (o : ∀ i j H Q, (∀ v, (∀ F, Fz K F v (g i j)) → Q v H) → rr [.int i, .int j] H Q) {t : TA} {m : OM (List D)} (h : OkA K W Lk t m) : OkD K W Lk (tCB rr t) (mA (arg2 (intOp fun i j => some (g i j))) m) := by
  refine opA_G (rel := relD K) (rr := rr) (fun x dx z L F R H fp Q hx hh hg q => ?_) h
  unfold arg2 at hg
  split at hg
  · obtain ⟨i, j, rfl, rfl, e⟩ := intOp_some hg
    obtain rfl := Option.some.inj e
    cases hx with
    | cons a t =>
      cases t with
      | cons b t =>
        cases t
        rw [a.toInt, b.toInt]
        exact o i j H Q fun v hv => q v H F [] (.refl _) ⟨hv F, rfl⟩ hh
  · cases hg
theorem min2_D {t : TA} {m : OM (List D)} (h : OkA K W Lk t m) : OkD K W Lk (tCB (fun xs H Q => ∃ i j, xs = [.int i, .int j] ∧ Q (.int (if j < i then j else i)) H) t) (mA (arg2 min2) m) :=
  a2_D (g := fun i j => .int (if j < i then j else i)) (fun i j H Q q => ⟨i, j, rfl, q _ fun F => .int _⟩) h
theorem max2_D {t : TA} {m : OM (List D)} (h : OkA K W Lk t m) : OkD K W Lk (tCB (fun xs H Q => ∃ i j, xs = [.int i, .int j] ∧ Q (.int (if j > i then j else i)) H) t) (mA (arg2 max2) m) :=
  a2_D (g := fun i j => .int (if j > i then j else i)) (fun i j H Q q => ⟨i, j, rfl, q _ fun F => .int _⟩) h
/-- list(x), tuple(x) -/
def listG : D → Option X
  | .lst ds => some (.ol ds)
  | .tup ds => some (.ol ds)
  | .tuw ds => some (.ol ds)
  | .scr ns => some (.ol (ns.map .int))
  | _ => none
theorem list_X {t : TE} {m : OM D} (h : OkD K W Lk t m) : OkX K W Lk (tCB (fun xs H Q => ∃ p ys, xs = [.ref p] ∧ (SqL K H p ys ∨ SqT K H p ys) ∧ ∀ l, H l = none → Q (.ref l) (upd H l (.lst ys))) (tCons t tNil)) (m1 listG m) := by
  refine op1_G (rel := relX K) (rr := fun x H Q => ∃ p ys, [x] = [.ref p] ∧ (SqL K H p ys ∨ SqT K H p ys) ∧ ∀ l, H l = none → Q (.ref l) (upd H l (.lst ys))) (fun x dx z L F R H fp Q hx hh hg q => ?_) h
  unfold listG at hg
  split at hg
  · obtain rfl := Option.some.inj hg
    cases hx with
    | lst h t => exact ⟨_, _, rfl, .inl (.of (hh.f.rx.lst _ _ h)), fun p np => q _ _ F _ (.refl _) (.ol t) (hh.new np)⟩
  · obtain rfl := Option.some.inj hg
    cases hx with
    | tup h t => exact ⟨_, _, rfl, .inr (hh.f.rx.tpf _ _ h).sq, fun p np => q _ _ F _ (.refl _) (.ol t) (hh.new np)⟩
  · obtain rfl := Option.some.inj hg
    cases hx with
    | tuw h t => exact ⟨_, _, rfl, .inr (hh.f.rx.sqT h), fun p np => q _ _ F _ (.refl _) (.ol t) (hh.new np)⟩
  · obtain rfl := Option.some.inj hg
    cases hx with
    | scr h => exact ⟨_, _, rfl, .inl (hh.f.rx.sqL h), fun p np => q _ _ F _ (.refl _) (.ol (.ints _)) (hh.new np)⟩
  · cases hg
def tupG : D → Option D
  | .lst ds => some (.tup ds)
  | .scr ns => some (.tup (ns.map .int))
  | _ => none
theorem tuple_D {t : TE} {m : OM D} (h : OkD K W Lk t m) : OkD K W Lk (tCB (fun xs H Q => ∃ p ys, xs = [.ref p] ∧ SqL K H p ys ∧ ∀ l o, H l = none → o.dict = none → Q (.ref l) (upd H l (.frz o (.tup ys)))) (tCons t tNil)) (m1 tupG m) := by
  refine op1_G (rel := relD K) (rr := fun x H Q => ∃ p ys, [x] = [.ref p] ∧ SqL K H p ys ∧ ∀ l o, H l = none → o.dict = none → Q (.ref l) (upd H l (.frz o (.tup ys)))) (fun x dx z L F R H fp Q hx hh hg q => ?_) h
  unfold tupG at hg
  split at hg
  · obtain rfl := Option.some.inj hg
    cases hx with
    | lst h t =>
      refine ⟨_, _, rfl, .of (hh.f.rx.lst _ _ h), fun p o np hd => ?_⟩
      obtain ⟨hn, s⟩ := hh.newF np
      exact q _ _ _ [] s ⟨.tup ⟨o, hd, upd_same⟩ (t.mono s), rfl⟩ hn
  · obtain rfl := Option.some.inj hg
    cases hx with
    | scr h =>
      refine ⟨_, _, rfl, hh.f.rx.sqL h, fun p o np hd => ?_⟩
      obtain ⟨hn, s⟩ := hh.newF np
      exact q _ _ _ [] s ⟨.tup ⟨o, hd, upd_same⟩ (.ints _), rfl⟩ hn
  · cases hg
/-- isinstance -/
inductive Tn where
  | int | bool | str | list | tuple | dict
def Tn.s : Tn → String
  | .int => "int" | .bool => "bool" | .str => "str" | .list => "list" | .tuple => "tuple" | .dict => "dict"
def isiG : Tn → D → Option D
  | _, .ins _ _ => none
  | _, .ty _ => none
  | _, .dtk _ => none
  | .int, .int _ => some (.bl true)
  | .int, .bl _ => some (.bl true)
  | .bool, .bl _ => some (.bl true)
  | .str, .str _ => some (.bl true)
  | .list, .lst _ => some (.bl true)
  | .list, .scr _ => none
  | .tuple, .tup _ => some (.bl true)
  | .tuple, .tuw _ => none
  | .dict, .dic _ => some (.bl true)
  | _, .scr _ => none
  | _, .tuw _ => none
  | _, _ => some (.bl false)
inductive TyD (K : PySem.W.Frag) (H : Hp) : V → D → String → Prop where
  | mk {v : V} {d : D} {n : String} (h : TyX K H v (.type n)) : TyD K H v d n
def tyN : D → String
  | .non => "NoneType" | .bl _ => "bool" | .int _ => "int" | .str _ => "str" | .lst _ => "list" | .tup _ => "tuple" | .dic _ => "dict" | .dtk _ => "dict"
  | _ => ""
theorem Fz.tyx {v : V} {d : D} (h : Fz K F v d) (s : Rx F H) (hd : isiG .int d ≠ none) : TyX K H v (.type (tyN d)) := by
  cases h with
  | non => exact .base .non
  | bl b => exact .base (.bl b)
  | int i => exact .base (.int i)
  | str x => exact .base (.str x)
  | lst h t => exact .base (.lst (s.lst _ _ h))
  | tup h t => obtain ⟨o, _, e⟩ := s.tpf _ _ h; exact .fTuple e
  | dic h _ _ =>
    rcases s.rd _ _ h with e | ⟨o, e⟩
    · exact .base (.dK e)
    · exact .fDict e
  | _ => exact absurd rfl hd
end
end GD
/-! own data layer: isinstance, dicts, defs and calls, instances -/
namespace GD
open PySem PySem.Spec PyProof.Rows L2

section
variable {K : PySem.W.Frag} {W : WX} {Lk : List Addr → Prop} {L : List Addr} {F F' R H H' : Hp} {io : List Nat}
theorem isi_kit {n : Tn} {d z : D} (h : isiG n d = some z) : ∃ b, z = .bl b ∧ isiG .int d ≠ none ∧ kitB (tyN d) n.s = some b := by
  cases d with
  | non => cases n <;> (cases h; exact ⟨_, rfl, (fun z => nomatch z), by simp only [tyN, Tn.s]; decide +kernel⟩)
  | bl b => cases n <;> (cases h; exact ⟨_, rfl, (fun z => nomatch z), by simp only [tyN, Tn.s]; decide +kernel⟩)
  | int b => cases n <;> (cases h; exact ⟨_, rfl, (fun z => nomatch z), by simp only [tyN, Tn.s]; decide +kernel⟩)
  | str b => cases n <;> (cases h; exact ⟨_, rfl, (fun z => nomatch z), by simp only [tyN, Tn.s]; decide +kernel⟩)
  | lst b => cases n <;> (cases h; exact ⟨_, rfl, (fun z => nomatch z), by simp only [tyN, Tn.s]; decide +kernel⟩)
  | tup b => cases n <;> (cases h; exact ⟨_, rfl, (fun z => nomatch z), by simp only [tyN, Tn.s]; decide +kernel⟩)
  | dic b => cases n <;> (cases h; exact ⟨_, rfl, (fun z => nomatch z), by simp only [tyN, Tn.s]; decide +kernel⟩)
  | tuw b => cases n <;> cases h
  | dtk b => cases n <;> cases h
  | ins a b => cases n <;> cases h
  | ty b => cases n <;> cases h
  | scr b => cases n <;> cases h
theorem isi_D (n : Tn) {t : TE} {m : OM D} (h : OkD K W Lk t m) : OkD K W Lk (tCB (rIsi K) (tCons t (tCons (tC (.ty n.s)) tNil))) (m1 (isiG n) m) := by
  refine op1_G (rel := relD K) (rr := fun x H Q => rIsi K [x, .ty n.s] H Q) (fun x dx z L F R H fp Q hx hh hg q => ?_) h
  obtain ⟨b, rfl, h1, h2⟩ := isi_kit hg
  exact ⟨_, _, _, _, b, rfl, .ty _, hx.tyx hh.f.rx h1, kit_ty h2, q _ H F [] (.refl _) ⟨.bl b, rfl⟩ hh⟩
/-- isinstance(x, (list, tuple)) -/
def isiLT : D → Option D
  | .ins _ _ => none
  | .ty _ => none
  | .dtk _ => none
  | .scr _ => none
  | .tuw _ => none
  | .lst _ => some (.bl true)
  | .tup _ => some (.bl true)
  | _ => some (.bl false)
theorem isiLT_D {t : TE} {m : OM D} (h : OkD K W Lk t m) : OkD K W Lk (tCB (rIsiT K) (tCons t (tCons (tTup (tCons (tC (.ty "list")) (tCons (tC (.ty "tuple")) tNil))) tNil))) (m1 isiLT m) := by
  refine op1_G (rel := relD K) (rr := fun x H Q => 2 ≤ sizeLine ∧ ∀ p, H p = none → rIsiT K [x, .ref p] (upd H p (.tup [.ty "list", .ty "tuple"])) Q) (fun x dx z L F R H fp Q hx hh hg q => ?_) h
  refine ⟨by decide, fun p np => ?_⟩
  obtain ⟨hn, s⟩ := hh.newF (o := .tup [.ty "list", .ty "tuple"]) np
  have hx2 := hx.mono s
  cases dx with
  | non => cases hg; exact ⟨_, p, _, _, [.type "list", .type "tuple"], false, rfl, upd_same, .cons (.ty _) (.cons (.ty _) .nil), hx2.tyx hn.f.rx (fun z => nomatch z), kitAny_cons (b := false) (kit_ty (a := "NoneType") (by decide +kernel)) (fun _ => kitAny_cons (b := false) (kit_ty (a := "NoneType") (by decide +kernel)) (fun _ => rfl) (fun z => nomatch z)) (fun z => nomatch z), q _ _ _ [] s ⟨.bl _, rfl⟩ hn⟩
  | bl b => cases hg; exact ⟨_, p, _, _, [.type "list", .type "tuple"], false, rfl, upd_same, .cons (.ty _) (.cons (.ty _) .nil), hx2.tyx hn.f.rx (fun z => nomatch z), kitAny_cons (b := false) (kit_ty (a := "bool") (by decide +kernel)) (fun _ => kitAny_cons (b := false) (kit_ty (a := "bool") (by decide +kernel)) (fun _ => rfl) (fun z => nomatch z)) (fun z => nomatch z), q _ _ _ [] s ⟨.bl _, rfl⟩ hn⟩
  | int b => cases hg; exact ⟨_, p, _, _, [.type "list", .type "tuple"], false, rfl, upd_same, .cons (.ty _) (.cons (.ty _) .nil), hx2.tyx hn.f.rx (fun z => nomatch z), kitAny_cons (b := false) (kit_ty (a := "int") (by decide +kernel)) (fun _ => kitAny_cons (b := false) (kit_ty (a := "int") (by decide +kernel)) (fun _ => rfl) (fun z => nomatch z)) (fun z => nomatch z), q _ _ _ [] s ⟨.bl _, rfl⟩ hn⟩
  | str b => cases hg; exact ⟨_, p, _, _, [.type "list", .type "tuple"], false, rfl, upd_same, .cons (.ty _) (.cons (.ty _) .nil), hx2.tyx hn.f.rx (fun z => nomatch z), kitAny_cons (b := false) (kit_ty (a := "str") (by decide +kernel)) (fun _ => kitAny_cons (b := false) (kit_ty (a := "str") (by decide +kernel)) (fun _ => rfl) (fun z => nomatch z)) (fun z => nomatch z), q _ _ _ [] s ⟨.bl _, rfl⟩ hn⟩
  | dic b => cases hg; exact ⟨_, p, _, _, [.type "list", .type "tuple"], false, rfl, upd_same, .cons (.ty _) (.cons (.ty _) .nil), hx2.tyx hn.f.rx (fun z => nomatch z), kitAny_cons (b := false) (kit_ty (a := "dict") (by decide +kernel)) (fun _ => kitAny_cons (b := false) (kit_ty (a := "dict") (by decide +kernel)) (fun _ => rfl) (fun z => nomatch z)) (fun z => nomatch z), q _ _ _ [] s ⟨.bl _, rfl⟩ hn⟩
  | lst b => cases hg; exact ⟨_, p, _, _, [.type "list", .type "tuple"], true, rfl, upd_same, .cons (.ty _) (.cons (.ty _) .nil), hx2.tyx hn.f.rx (fun z => nomatch z), kitAny_cons (b := true) (kit_ty (a := "list") (by decide +kernel)) (fun z => nomatch z) (fun _ => rfl), q _ _ _ [] s ⟨.bl _, rfl⟩ hn⟩
  | tup b => cases hg; exact ⟨_, p, _, _, [.type "list", .type "tuple"], true, rfl, upd_same, .cons (.ty _) (.cons (.ty _) .nil), hx2.tyx hn.f.rx (fun z => nomatch z), kitAny_cons (b := false) (kit_ty (a := "tuple") (by decide +kernel)) (fun _ => kitAny_cons (b := true) (kit_ty (a := "tuple") (by decide +kernel)) (fun z => nomatch z) (fun _ => rfl)) (fun z => nomatch z), q _ _ _ [] s ⟨.bl _, rfl⟩ hn⟩
  | _ => cases hg
/-- len(set(xs)), xs texts -/
def setG : D → Option D
  | .lst ds => match strsOf ds with
    | some xs => if xs.length ≤ 1000 then some (.int (GSet.firsts xs).length) else none
    | none => none
  | .tup ds => match strsOf ds with
    | some xs => if xs.length ≤ 1000 then some (.int (GSet.firsts xs).length) else none
    | none => none
  | _ => none
theorem set_D {t : TE} {m : OM D} (h : OkD K W Lk t m) : OkD K W Lk (tLenSetS K t) (m1 setG m) := by
  refine op1_G (rel := relD K) (rr := fun x H1 Q => ∃ l, ∃ xs : List Str, x = .ref l ∧ (SqL K H1 l (xs.map V.str) ∨ SqT K H1 l (xs.map V.str)) ∧ xs.length ≤ 1000 ∧ Q (.int (GSet.firsts xs).length) H1) (fun x dx z L F R H fp Q hx hh hg q => ?_) h
  unfold setG at hg
  split at hg
  · split at hg
    · rename_i xs e
      split at hg
      · rename_i hz
        obtain rfl := Option.some.inj hg
        obtain rfl := strsOf_some e
        cases hx with
        | lst h t => exact ⟨_, xs, rfl, .inl (.of (by rw [← t.toStrs]; exact hh.f.rx.lst _ _ h)), hz, q _ H F [] (.refl _) ⟨.int _, rfl⟩ hh⟩
      · cases hg
    · cases hg
  · split at hg
    · rename_i xs e
      split at hg
      · rename_i hz
        obtain rfl := Option.some.inj hg
        obtain rfl := strsOf_some e
        cases hx with
        | tup h t => exact ⟨_, xs, rfl, .inr (by rw [← t.toStrs]; exact (hh.f.rx.tpf _ _ h).sq), hz, q _ H F [] (.refl _) ⟨.int _, rfl⟩ hh⟩
      · cases hg
    · cases hg
  · cases hg

/-! ### dicts -/
def toK : D → Option Key
  | .int i => some (.inl i)
  | .str s => some (.inr s)
  | _ => none
theorem toK_some {d : D} {k : Key} {v : V} {F : Hp} (h : toK d = some k) (z : Fz K F v d) : v = kV k := by
  unfold toK at h
  split at h
  · obtain rfl := Option.some.inj h; exact z.toInt
  · obtain rfl := Option.some.inj h; exact z.toStr
  · cases h
def valG {κ : Type} [DecidableEq κ] (kvs : List (κ × D)) (k : κ) : Option D := (kvs.find? fun kv => decide (kv.1 = k)).map (·.2)
def putG {κ : Type} [DecidableEq κ] (kvs : List (κ × D)) (k : κ) (d : D) : List (κ × D) :=
  if (kvs.any fun kv => decide (kv.1 = k)) = true then kvs.map (fun kv => if kv.1 = k then (kv.1, d) else kv) else kvs ++ [(k, d)]
theorem val_rel {κ : Type} [DecidableEq κ] {k : κ} : ∀ {kvs : List (κ × V)} {kds : List (κ × D)}, kvs.map (·.1) = kds.map (·.1) → FzL K F (kvs.map (·.2)) (kds.map (·.2)) →
    (valV kvs k = none ∧ valG kds k = none) ∨ ∃ v d, valV kvs k = some v ∧ valG kds k = some d ∧ Fz K F v d
  | [], [], _, _ => .inl ⟨rfl, rfl⟩
  | [], _ :: _, e, _ => nomatch e
  | _ :: _, [], e, _ => nomatch e
  | p :: r, q :: s, e, h => by
    obtain ⟨e1, e2⟩ := List.cons.inj e
    have e1 : p.1 = q.1 := e1
    cases h with
    | cons a t =>
      by_cases hk : p.1 = k
      · refine .inr ⟨p.2, q.2, ?_, ?_, a⟩
        · simp [valV, List.find?_cons, hk]
        · simp [valG, List.find?_cons, ← e1, hk]
      · rcases val_rel (k := k) e2 t with ⟨h1, h2⟩ | ⟨v, d, h1, h2, h3⟩
        · refine .inl ⟨?_, ?_⟩
          · rw [← h1]; simp [valV, List.find?_cons, hk]
          · rw [← h2]; simp [valG, List.find?_cons, ← e1, hk]
        · refine .inr ⟨v, d, ?_, ?_, h3⟩
          · rw [← h1]; simp [valV, List.find?_cons, hk]
          · rw [← h2]; simp [valG, List.find?_cons, ← e1, hk]
theorem any_rel {κ : Type} [DecidableEq κ] {k : κ} : ∀ {kvs : List (κ × V)} {kds : List (κ × D)}, kvs.map (·.1) = kds.map (·.1) → (kvs.any fun kv => decide (kv.1 = k)) = (kds.any fun kv => decide (kv.1 = k))
  | [], [], _ => rfl
  | [], _ :: _, e => nomatch e
  | _ :: _, [], e => nomatch e
  | p :: r, q :: s, e => by
    obtain ⟨e1, e2⟩ := List.cons.inj e
    have e1 : p.1 = q.1 := e1
    rw [List.any_cons, List.any_cons, any_rel e2, e1]
theorem rep_rel {κ : Type} [DecidableEq κ] {k : κ} {v : V} {d : D} (hv : Fz K F v d) : ∀ {kvs : List (κ × V)} {kds : List (κ × D)}, kvs.map (·.1) = kds.map (·.1) → FzL K F (kvs.map (·.2)) (kds.map (·.2)) →
    (kvs.map (fun kv => if kv.1 = k then (kv.1, v) else kv)).map (·.1) = (kds.map (fun kv => if kv.1 = k then (kv.1, d) else kv)).map (·.1) ∧
    FzL K F ((kvs.map (fun kv => if kv.1 = k then (kv.1, v) else kv)).map (·.2)) ((kds.map (fun kv => if kv.1 = k then (kv.1, d) else kv)).map (·.2))
  | [], [], _, _ => ⟨rfl, .nil⟩
  | [], _ :: _, e, _ => nomatch e
  | _ :: _, [], e, _ => nomatch e
  | p :: r, q :: s, e, h => by
    obtain ⟨e1, e2⟩ := List.cons.inj e
    have e1 : p.1 = q.1 := e1
    cases h with
    | cons a t =>
      obtain ⟨h1, h2⟩ := rep_rel (k := k) hv e2 t
      simp only [List.map_cons]
      by_cases hk : p.1 = k
      · rw [if_pos hk, if_pos (e1 ▸ hk)]
        exact ⟨by rw [h1]; exact congrArg (· :: _) e1, .cons hv h2⟩
      · rw [if_neg hk, if_neg (e1 ▸ hk)]
        exact ⟨by rw [h1]; exact congrArg (· :: _) e1, .cons a h2⟩
theorem put_rel {κ : Type} [DecidableEq κ] {k : κ} {v : V} {d : D} (hv : Fz K F v d) {kvs : List (κ × V)} {kds : List (κ × D)} (e : kvs.map (·.1) = kds.map (·.1)) (h : FzL K F (kvs.map (·.2)) (kds.map (·.2))) :
    (putK kvs k v).map (·.1) = (putG kds k d).map (·.1) ∧ FzL K F ((putK kvs k v).map (·.2)) ((putG kds k d).map (·.2)) := by
  unfold putK putG
  rw [any_rel e]
  by_cases ha : (kds.any fun kv => decide (kv.1 = k)) = true
  · rw [if_pos ha, if_pos ha]
    exact rep_rel hv e h
  · rw [if_neg ha, if_neg ha, List.map_append, List.map_append, List.map_append, List.map_append, e]
    exact ⟨rfl, h.app (.cons hv .nil)⟩
def getG : D → D → Option D
  | .dic kds, k => match toK k with
    | some k => valG kds k
    | none => none
  | _, _ => none
theorem dget_D {td ty : TE} {md mk : OM D} (hd : OkD K W Lk td md) (hk : OkD K W Lk ty mk) : OkD K W Lk (tDGet td ty) (m2 getG md mk) := by
  refine op2_G (rel := relD K) (rr := fun x y H2 Q => ∃ a v, x = .ref a ∧ DGet H2 a y (some v) ∧ Q v H2) (fun x y dx dy z L F R H fp Q hx hy hh hg q => ?_) hd hk
  unfold getG at hg
  split at hg
  · split at hg
    · rename_i k ek
      cases hx with
      | dic h e t =>
        rcases val_rel (k := k) e t with ⟨_, h2⟩ | ⟨v, d, h1, h2, h3⟩
        · rw [h2] at hg; cases hg
        · rw [h2] at hg
          obtain rfl := Option.some.inj hg
          exact ⟨_, v, rfl, .inl ⟨_, k, hh.f.rx.rd _ _ h, toK_some ek hy, h1.symm⟩, q v H F [] (.refl _) ⟨h3, rfl⟩ hh⟩
    · cases hg
  · cases hg
def dinG (neg : Bool) : D → D → Option D
  | k, .dic kds => match toK k with
    | some k => some (.bl (xor neg (valG kds k).isSome))
    | none => none
  | _, _ => none
theorem din_D {td ty : TE} {md mk : OM D} (hk : OkD K W Lk ty mk) (hd : OkD K W Lk td md) : OkD K W Lk (tDIn ty td) (m2 (dinG false) mk md) := by
  refine op2_G (rel := relD K) (rr := fun y x H2 Q => ∃ a o, x = .ref a ∧ DGet H2 a y o ∧ Q (.bl o.isSome) H2) (fun y x dy dx z L F R H fp Q hy hx hh hg q => ?_) hk hd
  unfold dinG at hg
  split at hg
  · split at hg
    · rename_i k ek
      obtain rfl := Option.some.inj hg
      cases hx with
      | dic h e t =>
        refine ⟨_, _, rfl, .inl ⟨_, k, hh.f.rx.rd _ _ h, toK_some ek hy, rfl⟩, q _ H F [] (.refl _) ⟨?_, rfl⟩ hh⟩
        rw [Bool.false_xor]
        rcases val_rel (k := k) e t with ⟨h1, h2⟩ | ⟨v, d, h1, h2, h3⟩
        · rw [h1, h2]; exact .bl _
        · rw [h1, h2]; exact .bl _
    · cases hg
  · cases hg
theorem new_dK : OkX K W Lk tDNewK (m_k (.od [])) := by
  intro L R F H σ ê r Q hL hE hm hP p np
  obtain rfl := Option.some.inj hm
  obtain ⟨fp, hs, hh⟩ := hE
  exact hP _ _ F [(p, .dK [])] (.refl _) (.od rfl .nil) ⟨fp, hs, hh.new np⟩
/-- d[k] = v, d a name's own dict -/
def kput2 (i : Nat) (dv : D) (dk : D) (e : En) : Option Ot := match gt e i, toK dk with
  | some (.od kds), some k => if kds.length < sizeLine then some (.nx (st' e i (some (.od (putG kds k dv))))) else none
  | _, _ => none
def kput (i : Nat) (mk : OM D) (dv : D) (e : En) : Option Ot := bndS (mk e) (kput2 i dv)
def m_put (i : Nat) (mk mv : OM D) : SM := fun ê => match gt ê i with | some (.od _) => bndS (mv ê) (kput i mk) | _ => none
theorem keys_len {κ α β : Type} {a : List (κ × α)} {b : List (κ × β)} (e : a.map (·.1) = b.map (·.1)) : a.length = b.length := by
  have := congrArg List.length e
  simpa using this
theorem put_S {i : Nat} {ty tv : TE} {mk mv : OM D} (hk : OkD K W Lk ty mk) (hv : OkD K W Lk tv mv) : OkS K W Lk io (sDPut (tVar i) ty tv) (m_put i mk mv) := by
  intro L R F H σ ê o D hL hE hm hP
  unfold m_put at hm
  split at hm
  · rename_i kds0 hx0
    obtain ⟨a0, ha0⟩ := hE.slot hx0
    refine hv.runS hL hE hm hP fun v dv ex F1 H1 e1 s1 hz hE hm hP => ?_
    obtain ⟨hz, rfl⟩ := hz
    refine ⟨a0, ha0, hk.runS hL hE hm hP fun y dk ex F2 H2 e2 s2 hy hE hm hP => ?_⟩
    obtain ⟨hy, rfl⟩ := hy
    unfold kput2 at hm
    split at hm
    · rename_i kds k hx ek
      split at hm
      · rename_i hlen
        obtain rfl := Option.some.inj hm
        obtain ⟨v2, a2, fp2, k1, k2, k3, k4⟩ := hE.at hx
        obtain rfl : a0 = v2 := Option.some.inj (Option.some.inj (ha0.symm.trans k1))
        cases k2 with
        | od e t =>
          obtain ⟨r1, r2⟩ := put_rel (k := k) (hz.mono s2) e t
          refine ⟨_, _, rfl, .inl ⟨_, k, (k4.c _ List.mem_cons_self).1, toK_some ek hy, by rw [keys_len e]; exact hlen, rfl⟩, ?_⟩
          exact hP σ _ F2 (.refl _) (ER.back k3 k1 (.od r1 r2) k4.write) (.refl _ _)
      · cases hm
    · cases hm
  · cases hm
end

/-! ### defs -/
inductive Rf where
  | ok (x : X) (ys : List X) | ex (x : Ex) (ys : List X)
def PostF (K : PySem.W.Frag) (L : List Addr) (R F : Hp) (io : List Nat) (vs : List V) : Rf → VK → XK → Prop
  | .ok x ys, Q, _ => ∀ v H' F' ex fq, L2.Same F F' → XR K F' v x ex → XRL K F' (io.filterMap fun i => vs[i]?) ys fq → Hs L F' R (ex ++ fq) H' → Q v H'
  | .ex x ys, _, E => ∀ cls d H' F' fq, L2.Same F F' → XcR K F' cls d x → XRL K F' (io.filterMap fun i => vs[i]?) ys fq → Hs L F' R fq H' → E cls d H'
/-- what a def promises of data -/
def spF (K : PySem.W.Frag) (Lk : List Addr → Prop) (n : Nat) (io : List Nat) (m : List X → Option Rf) : Sp := fun vs H Q E =>
  vs.length = n ∧ ∃ L R F xs fp r, Lk L ∧ XRL K F vs xs fp ∧ Hs L F R fp H ∧ m xs = some r ∧ PostF K L R F io vs r Q E
def colE : List Nat → En → Option (List X)
  | [], _ => some []
  | i :: r, e => match gt e i with
    | some x => (colE r (st' e i none)).map (x :: ·)
    | none => none
def finF (io : List Nat) : Option Ot → Option Rf
  | some (.rt x e) => (colE io e).map (.ok x)
  | some (.nx e) => (colE io e).map (.ok (.fz .non))
  | some (.ex x e) => (colE io e).map (.ex x)
  | _ => none
def bodyF (n : Nat) (io : List Nat) (mb : SM) (xs : List X) : Option Rf := finF io (mb (xs.map some ++ List.replicate (n - xs.length) none))
section
variable {K : PySem.W.Frag} {W : WX} {Lk : List Addr → Prop} {L : List Addr} {F F' R H H' : Hp}
theorem sr_nones : ∀ n : Nat, SR K F (List.replicate n none) (List.replicate n none) []
  | 0 => .nil
  | n + 1 => .no (sr_nones n)
theorem sr_start : ∀ {vs : List V} {xs : List X} {fp : Cells}, XRL K F vs xs fp → ∀ n, SR K F (vs.map some ++ List.replicate n none) (xs.map some ++ List.replicate n none) fp
  | _, _, _, .nil, n => sr_nones n
  | _, _, _, .cons h t, n => .so h (sr_start t n)
theorem XRL.length : ∀ {vs : List V} {xs : List X} {fp : Cells}, XRL K F vs xs fp → vs.length = xs.length
  | _, _, _, .nil => rfl
  | _, _, _, .cons _ t => congrArg (· + 1) t.length
theorem col_rel {σ : L2.St} {vs : List V} : ∀ {io : List Nat} {e : En} {fp : Cells} {ys : List X}, SR K F σ e fp → colE io e = some ys → (∀ i ∈ io, ∃ v, σ[i]? = some (some v) → vs[i]? = some v) → (∀ i ∈ io, σ[i]? = (vs[i]?).map some) → ∃ fq c, XRL K F (io.filterMap fun i => vs[i]?) ys fq ∧ fp.Perm (fq ++ c)
  | [], e, fp, ys, _, h, _, _ => by
    obtain rfl := Option.some.inj h
    exact ⟨[], fp, .nil, .refl _⟩
  | i :: r, e, fp, ys, hs, h, h0, hv => by
    unfold colE at h
    split at h
    · rename_i x hx
      obtain ⟨zs, e1, rfl⟩ := Option.map_eq_some_iff.mp h
      obtain ⟨v, a, b, g1, g2, g3, g4⟩ := hs.at hx
      have hvi := hv i List.mem_cons_self
      rw [g1] at hvi
      obtain ⟨w, hw1, hw2⟩ := Option.map_eq_some_iff.mp hvi.symm
      obtain rfl := Option.some.inj hw2
      obtain ⟨fq, c, k1, k2⟩ := col_rel (vs := vs) g3 e1 (fun j hj => h0 j (List.mem_cons_of_mem _ hj)) (fun j hj => hv j (List.mem_cons_of_mem _ hj))
      refine ⟨a ++ fq, c, ?_, ?_⟩
      · rw [List.filterMap_cons, hw1]
        exact .cons g2 k1
      · rw [List.append_assoc]
        exact g4.trans ((List.Perm.refl a).append k2)
    · cases h
end
end GD
/-! own: what a def promises where nothing is being shown (no repr is under way) and an error may leave -/
namespace GF
open PySem PySem.Spec PyProof.Rows L2

/-- nothing is being shown around it -/
def Calm (A : Around) : Prop := A.guards = some []
theorem Calm.deeper {A : Around} (c : Calm A) (e : Env) : Calm (A.deeper e) := c
structure FG (P : Program) (w : World) (K : PySem.W.Frag) (mg : Str → Option Value) (base : Heap) (k : Nat) (f : Addr) (fd : FuncData) (ps : List Str) (sp : Sp) : Prop where
  arity : ∀ vs H Q E, sp vs H Q E → vs.length = ps.length
  goes : ∀ (A : Around) (os : List Env) (z : Shared) (G : Hp) (ar : Args) (xs : List Value) (ys : List V) (Q : VK) (E : XK), Room k A → Calm A → Env0 P w K mg base A os z G → BindsTo z fd ar (ps.zip xs) → Vals ys xs → sp ys G Q E →
    codeAny (model P w) A (.call (.ref f) ar) (CR (L2.CX P w) os P w G z Q E) z
section
variable {P : Program} {w : World} {K : PySem.W.Frag} {mg : Str → Option Value} {base : Heap} {j k : Nat} {f : Addr} {fd : FuncData} {ps : List Str} {sp : Sp}
theorem FG.up (g : FG P w K mg base j f fd ps sp) (h : j ≤ k) : FG P w K mg base k f fd ps sp := ⟨g.arity, fun A os z G ar xs ys Q E r => g.goes A os z G ar xs ys Q E (r.mono h)⟩
/-- a promise without errors serves here, too -/
theorem FG.of {sp' : Sp} (g : FnOk P w K mg base CX0 k f fd ps sp) (h : ∀ vs H Q E, sp' vs H Q E → sp vs H Q E) : FG P w K mg base k f fd ps sp' :=
  ⟨fun vs H Q E q => g.len vs H Q E (h _ _ _ _ q), fun A os z G ar xs ys Q E r _ e b v q => codeAny_mono (g.run A os z G ar xs ys Q E r e b v (h _ _ _ _ q)) fun o s' c => by
    cases o with
    | ok y => cases y <;> exact c
    | error y => exact False.elim c⟩
end

/-! ### calls -/
section
variable {X : Cx} {W : WX} {k : Nat} {f C : Addr} {fd : FuncData} {ps : List Str} {sp : Sp}
theorem fg_run {pins : List (Addr × Obj)} {σ : L2.St} {G : Hp} {z : Shared} {Q : VK} {xs : List Value} {ys : List V} (g : FG X.prog X.w X.K X.mg X.base k f fd ps sp) (r : Room k X.A) (c : Calm X.A) (b : Binds X.K fd ps []) (tk : Takes X W)
    (I : Inv X pins σ G z) (v : Vals ys xs) (q : sp ys G Q (WE W σ)) : wpAny (model X.prog X.w) X.A (call (.ref f) xs) (EP X pins σ Q) X.xe z := by
  have hn : (xs ++ []).length = ps.length := by rw [List.append_nil, ← v.length]; exact g.arity _ _ _ _ q
  have hb := b z xs I.kIn hn
  simp only [List.append_nil] at hb
  apply wpAny_call
  refine codeAny_mono (g.goes X.A X.stack z G ⟨xs, []⟩ xs ys Q (WE W σ) r c I.env0 hb v q) ?_
  rintro (e | fl) z' hz
  · exact passAt tk σ pins G z e z' I hz
  · cases fl <;> first | exact I.after hz | exact False.elim hz
def rF (sp : Sp) (W : WX) (t : TA) : TE := fun σ G Q => t σ G fun ys G1 => sp ys G1 Q (WE W σ)
variable {x m : Str} {p pos apos : Pos} {e o : Expr} {es : List Expr} {ta : TE} {t : TA}
/-- f(e, ..) -/
theorem pf_call (g : FG X.prog X.w X.K X.mg X.base k f fd ps sp) (r : Room k X.A) (c : Calm X.A) (hx : Gl X x) (hm : X.mg x = some (.ref f)) (kp : PySem.W.keepIn X.K (.ref f) = true) (b : Binds X.K fd ps []) (tk : Takes X W) (ha : PA X (e :: es) t)
    (hd : (x == ("__debug__" : Str)) = false := by decide) (h1 : starEach (e :: es) X.env = (false, eval e X.env) :: starEach es X.env := by rfl) (h2 : (backTo pos (starEach es X.env)).any (·.1) = false := by rfl) : PE X (.Call (.Name x p) (e :: es) [] pos) (rF sp W t) :=
  ⟨fun pins z σ G Q I q => wpAny_Call_Name_kw (ld_glob I hx hm (PySem.W.callWith_K (h₀ := X.base) I.ok.mod.kin kp (thn (ha.run pos pins z σ G _ I q) fun xs z1 ⟨ys, G1, I1, v, q1⟩ => ⟨I1.kIn, fg_run g r c b tk I1 v q1⟩) h1 h2) hd)⟩
/-- f() -/
theorem pf_call0 (g : FG X.prog X.w X.K X.mg X.base k f fd ps sp) (r : Room k X.A) (c : Calm X.A) (hx : Gl X x) (hm : X.mg x = some (.ref f)) (kp : PySem.W.keepIn X.K (.ref f) = true) (b : Binds X.K fd ps []) (tk : Takes X W)
    (hd : (x == ("__debug__" : Str)) = false := by decide) : PE X (.Call (.Name x p) [] [] pos) (rF sp W tNil) :=
  ⟨fun pins z σ G Q I q => wpAny_Call_Name_kw (ld_glob I hx hm (PySem.W.callWith_K0 I.kIn kp (fg_run (xs := []) g r c b tk I .nil q)) hd)⟩
def rM (C : Addr) (m : Str) (sp : Sp) (W : WX) (ta : TE) (t : TA) : TE := fun σ G Q => ta σ G fun y G1 => ∃ a dx fs, y = .ref a ∧ G1 a = some (.ins C dx fs) ∧ fs.lookup m = none ∧ t σ G1 fun ys G2 => sp (y :: ys) G2 Q (WE W σ)
/-- o.m(e, ..) -/
theorem pf_meth {pl : Sem Bool} (he : PE X o ta) (cl : Cls X.K C) (hm : Meth X.K C m f) (g : FG X.prog X.w X.K X.mg X.base k f fd ps sp) (r : Room k X.A) (c : Calm X.A) (b : Binds X.K fd ps []) (tk : Takes X W) (ha : PA X (e :: es) t)
    (h1 : starEach (e :: es) X.env = (false, eval e X.env) :: starEach es X.env := by rfl) (h2 : (backTo pos (starEach es X.env)).any (·.1) = false := by rfl)
    (h3 : eval (.Call (.Attribute o m apos) (e :: es) [] pos) X.env = (do
      let u ← eval o X.env
      standAt apos.atName
      let (q, l) ← holding [u] (getMethod u m pl)
      callWith pos q l (backTo pos (starEach (e :: es) X.env)) (backToKw pos (keywordEach [] X.env))) := by rfl) : PE X (.Call (.Attribute o m apos) (e :: es) [] pos) (rM C m sp W ta t) := by
  constructor
  intro pins z σ G Q I q
  refine PySem.W.methodCall_KW (pl := pl) (thn (he.run pins z σ G _ I q) ?_) h3
  rintro u z1 ⟨y, G1, I1, ry, a, dx, fs, rfl, ea, nl, q1⟩
  cases (show u = Value.ref a from ry)
  exact getmeth_ok I1 ea cl hm nl (PySem.W.callWith_K (first := [.ref a]) (h₀ := X.base) I.ok.mod.kin hm.kp (thn (ha.run pos pins z1 σ G1 _ I1 q1) fun xs z2 ⟨ys, G2, I2, v, q2⟩ => ⟨I2.kIn, fg_run (xs := .ref a :: xs) (ys := .ref a :: ys) g r c b tk I2 (.cons rfl v) q2⟩) h1 h2)
/-- o.m() -/
theorem pf_meth0 {pl : Sem Bool} (he : PE X o ta) (cl : Cls X.K C) (hm : Meth X.K C m f) (g : FG X.prog X.w X.K X.mg X.base k f fd ps sp) (r : Room k X.A) (c : Calm X.A) (b : Binds X.K fd ps []) (tk : Takes X W)
    (h3 : eval (.Call (.Attribute o m apos) [] [] pos) X.env = (do
      let u ← eval o X.env
      standAt apos.atName
      let (q, l) ← holding [u] (getMethod u m pl)
      callWith pos q l (backTo pos (starEach [] X.env)) (backToKw pos (keywordEach [] X.env))) := by rfl) : PE X (.Call (.Attribute o m apos) [] [] pos) (rM C m sp W ta tNil) := by
  constructor
  intro pins z σ G Q I q
  refine PySem.W.methodCall_KW (pl := pl) (thn (he.run pins z σ G _ I q) ?_) h3
  rintro u z1 ⟨y, G1, I1, ry, a, dx, fs, rfl, ea, nl, q1⟩
  cases (show u = Value.ref a from ry)
  exact getmeth_ok I1 ea cl hm nl (PySem.W.callWith_K0 (first := [.ref a]) I1.kIn hm.kp (fg_run (xs := [.ref a]) (ys := [.ref a]) g r c b tk I1 (.cons rfl .nil) q1))
def rN (C : Addr) (sp : Sp) (W : WX) (t : TA) : TE := fun σ G Q => t σ G fun ys G1 => ∀ y dy, G1 y = none → G1 dy = none → dy ≠ y →
  sp (.ref y :: ys) (upd (upd G1 dy (.own y)) y (.ins C dy [])) (fun v G2 => v = .non ∧ Q (.ref y) G2) (WE W σ)
theorem calm_make {A : Around} {C : Addr} {us : List Value} (c : Calm A) : Calm (A.under (.builtin "type.__call__" ⟨.ref C :: us, []⟩)) := by
  unfold Calm at *
  simpa [Around.under, Code.guards, Code.isGuard, guardIds, pushGuards] using c
theorem fg_make {pins : List (Addr × Obj)} {σ : L2.St} {G : Hp} {z : Shared} {Q : VK} {xs : List Value} {ys : List V} (M : Mk X.K C f) (g : FG X.prog X.w X.K X.mg X.base k f fd ps sp) (r : Room (k + 1) X.A) (c : Calm X.A) (b : Binds X.K fd ps []) (tk : Takes X W)
    (I : Inv X pins σ G z) (v : Vals ys xs)
    (q : ∀ y dy, G y = none → G dy = none → dy ≠ y → sp (.ref y :: ys) (upd (upd G dy (.own y)) y (.ins C dy [])) (fun v G2 => v = .non ∧ Q (.ref y) G2) (WE W σ)) : wpAny (model X.prog X.w) X.A (call (.ref C) xs) (EP X pins σ Q) X.xe z := by
  have q0 := q (z.heap.objs.size + 1) z.heap.objs.size (I.hok.fresh (Nat.le_succ _)) (I.hok.fresh (Nat.le_refl _)) (Nat.ne_of_lt (Nat.lt_succ_self _))
  have J := Inv.made (C := C) I
  have v2 : Vals (V.ref (z.heap.objs.size + 1) :: ys) (Value.ref (z.heap.objs.size + 1) :: xs) := .cons rfl v
  have hn : (Value.ref (z.heap.objs.size + 1) :: xs ++ []).length = ps.length := by rw [List.append_nil, ← v2.length]; exact g.arity _ _ _ _ q0
  have hb := b _ (Value.ref (z.heap.objs.size + 1) :: xs) J.kIn hn
  simp only [List.append_nil] at hb
  apply wpAny_call
  refine make_map (f := f) I.kIn M.makes M.init (beq_iff_eq.mp M.fn) (codeAny_mono (g.goes _ X.stack _ _ ⟨_, []⟩ _ _ _ (WE W σ) (r.make C xs []) (calm_make c) (J.env0.make C xs []) hb v2 q0) ?_)
  rintro (e | fl) z' hz
  · exact passAt tk σ pins _ _ e z' J hz
  · cases fl with
    | ret u =>
      obtain ⟨y, G', J', ry, rfl, qe⟩ := J.after hz
      exact ⟨ry, .ref (z.heap.objs.size + 1), G', J', rfl, qe⟩
    | _ => exact False.elim hz
/-- C(e, ..) -/
theorem pf_make (M : Mk X.K C f) (g : FG X.prog X.w X.K X.mg X.base k f fd ps sp) (r : Room (k + 1) X.A) (c : Calm X.A) (hx : Gl X x) (hm : X.mg x = some (.ref C)) (b : Binds X.K fd ps []) (tk : Takes X W) (ha : PA X (e :: es) t)
    (hd : (x == ("__debug__" : Str)) = false := by decide) (h1 : starEach (e :: es) X.env = (false, eval e X.env) :: starEach es X.env := by rfl) (h2 : (backTo pos (starEach es X.env)).any (·.1) = false := by rfl) : PE X (.Call (.Name x p) (e :: es) [] pos) (rN C sp W t) :=
  ⟨fun pins z σ G Q I q => wpAny_Call_Name_kw (ld_glob I hx hm (PySem.W.callWith_K (h₀ := X.base) I.ok.mod.kin M.kp (thn (ha.run pos pins z σ G _ I q) fun xs z1 ⟨ys, G1, I1, v, q1⟩ => ⟨I1.kIn, fg_make M g r c b tk I1 v q1⟩) h1 h2) hd)⟩
end

/-! ### a def -/
theorem fg_fun {P : Program} {w : World} {K : PySem.W.Frag} {mg : Str → Option Value} {base : Heap} {x qual : Str} {st : Stmt} {f : Addr} {fd : FuncData} {N ps : List Str} {k : Nat} {sp : Sp} (Fn : Fun K x qual st f fd) (S : FnScope N ps (defScope st)) (ar : ∀ vs H Q E, sp vs H Q E → vs.length = ps.length)
    (body : ∀ (cv : Value) (A : Around) (os : List Env) (z : Shared) (G : Hp) (ys : List V) (Q : VK) (E : XK), Room k (A.deeper (envOfC qual (defScope st) z.heap.objs.size f cv)) → Calm (A.deeper (envOfC qual (defScope st) z.heap.objs.size f cv)) → sp ys G Q E →
      ∃ t, PSs (cxOf (L2.CX P w) P w K mg base N qual (defScope st) f cv A os z G E) (defBody st) t ∧ t { nx := fun _ G' => Q .non G', rt := Q } (L2.start N ys) G) : FG P w K mg base (k + 1) f fd ps sp := by
  obtain ⟨c1, c2, kV, dc, pm, an, cv, ct, sl, rfl, look, hcode⟩ := Fn.ex
  refine ⟨ar, fun A os z G ag xs ys Q E room calm e0 hb v q => ?_⟩
  have n := ar _ _ _ _ q
  have kin : K.In z.heap := e0.mod.kin.keeps fun b o e => (e0.bs b o e).1
  have nolim := e0.mod.nolimit.keeps fun b o e => (e0.bs b o e).1
  refine codeAny_call_function room.depth (kin _ _ look) rfl S.co S.gen rfl (PySem.W.codeRec_of kin hcode) (hb _ _ _ _ (wpAny_newFunctionEnv_cells S.kind ?_ ?_))
  · rintro ⟨nm, val⟩ hy
    exact (S.par nm (List.of_mem_zip hy).1).imp id fun h => ⟨h, PySem.W.cellsFrom_some _ _ _ (.inl h)⟩
  · rintro env rfl z1 fr
    refine ⟨nolim.keeps fr.toInCall.keep, codeAny_func ?_⟩
    obtain ⟨t, ht, go⟩ := body cv A os z G ys Q E (room.deeper _) (calm.deeper _) q
    have I := inv_start (CX := L2.CX P w) (P := P) (w := w) (K := K) (mg := mg) (base := base) (E := E) S room.hd e0 n v fr
    refine wpAny_mono (ht.run [] z1 _ G _ I go) ?_ fun _ _ he => he
    rintro (_ | _ | _ | u) z' hz
    · obtain ⟨σ', G', J, h⟩ := hz
      exact ⟨.non, G', J.os, J.bare, J.base, J.hok, rfl, h⟩
    · obtain ⟨_, _, _, h⟩ := hz; exact h.elim
    · obtain ⟨_, _, _, h⟩ := hz; exact h.elim
    · obtain ⟨y, σ', G', J, ry, h⟩ := hz
      exact ⟨y, G', J.os, J.bare, J.base, J.hok, ry, h⟩
end GF
/-! own data layer: calls, methods, instances -/
namespace GD
open PySem PySem.Spec PyProof.Rows L2 GF

def kcall (n : Nat) (mF : List X → Option Rf) (ds : List D) (e : En) : Option (Rs X) :=
  if ds.length = n then match mF (ds.map .fz) with
    | some (.ok x []) => some (.ok x e)
    | some (.ex x []) => some (.ex x e)
    | _ => none else none
def m_call (n : Nat) (mF : List X → Option Rf) (ma : OM (List D)) : OM X := fun ê => bnd (ma ê) (kcall n mF)
def kcall1 (n : Nat) (mF : List X → Option Rf) (i : Nat) (ds : List D) (e : En) : Option (Rs X) :=
  match gt e i with
  | some x0 => if ds.length + 1 = n then match mF (x0 :: ds.map .fz) with
    | some (.ok x [y]) => some (.ok x (st' e i (some y)))
    | some (.ex x [y]) => some (.ex x (st' e i (some y)))
    | _ => none else none
  | none => none
def m_call1 (n : Nat) (mF : List X → Option Rf) (i : Nat) (ma : OM (List D)) : OM X := ifAny i fun ê => bnd (ma ê) (kcall1 n mF i)
section
variable {K : PySem.W.Frag} {W : WX} {Lk Lk' : List Addr → Prop} {L : List Addr} {F F' R H H' : Hp} {io : List Nat}
theorem XRL.fz : ∀ {vs : List V} {ds : List D}, FzL K F vs ds → XRL K F vs (ds.map .fz) []
  | _, _, .nil => .nil
  | _, _, .cons h t => .cons (a := []) (b := []) (.fz h) (XRL.fz t)
theorem Hs.nodup {fp fq : Cells} (h : Hs L F R (fp ++ fq) H) : (fp.map (·.1)).Nodup := by
  have := h.n
  rw [List.map_append] at this
  exact (List.nodup_append.mp this).1
theorem Hs.notR {fp : Cells} (h : Hs L F R fp H) : ∀ p ∈ fp, R p.1 = none := fun p hp => (h.c p hp).2.2
/-- own cells are laid apart for a call, and taken back behind it -/
theorem Hs.over {fp a : Cells} (h : Hs L F R (a ++ fp) H) : Hs L F (plus fp R) a H ∧ ∀ {F' H' : Hp} {b : Cells}, Hs L F' (plus fp R) b H' → Hs L F' R (b ++ fp) H' := by
  have h1 : Hs L F R (fp ++ a) H := h.perm List.perm_append_comm
  refine ⟨h1.give, fun {F' H' b} h2 => ?_⟩
  exact (Hs.take h1.nodup (fun p hp => h1.notR p (List.mem_append_left _ hp)) h2).perm List.perm_append_comm
theorem call_X {n : Nat} {mF : List X → Option Rf} {t : TA} {ma : OM (List D)} (hLk : ∀ L, Lk L → Lk' L) (ha : OkA K W Lk t ma) : OkX K W Lk (rF (spF K Lk' n [] mF) W t) (m_call n mF ma) := by
  intro L R F H σ ê r Q hL hE hm hP
  refine ha.run hL hE hm hP fun vs ds ex F1 H1 e1 s1 hz hE hm hP => ?_
  obtain ⟨hz, rfl⟩ := hz
  unfold kcall at hm
  split at hm
  · rename_i hn
    obtain ⟨fp, hs, hh⟩ := hE
    obtain ⟨o1, o2⟩ := Hs.over (a := []) hh
    have hl : vs.length = n := by rw [hz.length]; exact hn
    split at hm
    · rename_i x hx
      obtain rfl := Option.some.inj hm
      refine ⟨hl, L, _, F1, _, [], _, hLk L hL, XRL.fz hz, o1, hx, fun v H' F' ex fq s hx' hy hh' => ?_⟩
      cases hy
      exact hP v H' F' ex s hx' ⟨fp, hs.rx (.of s), by have := o2 hh'; rwa [List.append_nil] at this⟩
    · rename_i x hx
      obtain rfl := Option.some.inj hm
      refine ⟨hl, L, _, F1, _, [], _, hLk L hL, XRL.fz hz, o1, hx, fun cls d H' F' fq s hx' hy hh' => ?_⟩
      cases hy
      exact hP cls d H' F' s hx' ⟨fp, hs.rx (.of s), o2 hh'⟩
    · cases hm
  · cases hm
theorem call1_X {n : Nat} {mF : List X → Option Rf} {i : Nat} {t : TA} {ma : OM (List D)} (hLk : ∀ L, Lk L → Lk' L) (ha : OkA K W Lk t ma) : OkX K W Lk (rF (spF K Lk' n [0] mF) W (tCons (tVar i) t)) (m_call1 n mF i ma) := by
  intro L R F H σ ê r Q hL hE hm hP
  unfold m_call1 ifAny at hm
  split at hm
  · rename_i x0 hx0
    obtain ⟨v0, hv0⟩ := hE.slot hx0
    refine ⟨v0, hv0, ha.run hL hE hm hP fun vs ds ex F1 H1 e1 s1 hz hE hm hP => ?_⟩
    obtain ⟨hz, rfl⟩ := hz
    unfold kcall1 at hm
    split at hm
    · rename_i x1 hx1
      split at hm
      · rename_i hn
        obtain ⟨v2, a, fp, k1, k2, k3, k4⟩ := hE.at hx1
        obtain rfl : v0 = v2 := Option.some.inj (Option.some.inj (hv0.symm.trans k1))
        obtain ⟨o1, o2⟩ := Hs.over k4
        have hxs : XRL K F1 (v0 :: vs) (x1 :: ds.map .fz) (a ++ []) := .cons k2 (XRL.fz hz)
        rw [List.append_nil] at hxs
        have hl : (v0 :: vs).length = n := by rw [List.length_cons, hz.length]; exact hn
        split at hm
        · rename_i x y hx
          obtain rfl := Option.some.inj hm
          refine ⟨hl, L, _, F1, _, a, _, hLk L hL, hxs, o1, hx, fun v H' F' ex fq s hx' hy hh' => ?_⟩
          cases hy with
          | cons hy1 hy2 =>
            cases hy2
            rename_i b
            rw [List.append_nil] at hh'
            obtain ⟨c, j1, j2⟩ := SR.back hy1 _ _ _ _ (k3.rx (.of s)) k1
            refine hP v H' F' ex s hx' ⟨c, j1, ?_⟩
            have h3 := o2 hh'
            rw [List.append_assoc] at h3
            exact h3.perm ((List.Perm.refl ex).append j2.symm)
        · rename_i x y hx
          obtain rfl := Option.some.inj hm
          refine ⟨hl, L, _, F1, _, a, _, hLk L hL, hxs, o1, hx, fun cls d H' F' fq s hx' hy hh' => ?_⟩
          cases hy with
          | cons hy1 hy2 =>
            cases hy2
            rename_i b
            rw [List.append_nil] at hh'
            exact hP cls d H' F' s hx' (ER.back (k3.rx (.of s)) k1 hy1 (o2 hh'))
        · cases hm
      · cases hm
    · cases hm
  · cases hm
/-- fields by name -/
theorem lookup_rel {f : Str} : ∀ {fs : List (Str × V)} {fds : List (Str × D)}, fs.map (·.1) = fds.map (·.1) → FzL K F (fs.map (·.2)) (fds.map (·.2)) → (fs.lookup f = none ∧ fds.lookup f = none) ∨ ∃ v d, fs.lookup f = some v ∧ fds.lookup f = some d ∧ Fz K F v d
  | [], [], _, _ => .inl ⟨rfl, rfl⟩
  | [], _ :: _, e, _ => nomatch e
  | _ :: _, [], e, _ => nomatch e
  | p :: r, q :: s, e, h => by
    obtain ⟨p1, p2⟩ := p
    obtain ⟨q1, q2⟩ := q
    obtain ⟨e1, e2⟩ := List.cons.inj e
    obtain rfl : p1 = q1 := e1
    cases h with
    | cons a t =>
      rw [List.lookup_cons, List.lookup_cons]
      cases hk : (f == p1) with
      | true => exact .inr ⟨_, _, rfl, rfl, a⟩
      | false => exact lookup_rel e2 t
def fldG (C : Addr) (f : Str) : D → Option D
  | .ins C' fs => if C' = C then fs.lookup f else none
  | _ => none
theorem fld_D {C : Addr} {f : Str} (cl : Cls K C) (na : NoAttr K C f) {t : TE} {m : OM D} (h : OkD K W Lk t m) : OkD K W Lk (tFld K t f) (m1 (fldG C f) m) := by
  refine op1_G (rel := relD K) (rr := fun x H1 Q => ∃ a C dx fs v, x = .ref a ∧ H1 a = some (.ins C dx fs) ∧ Cls K C ∧ NoAttr K C f ∧ fs.lookup f = some v ∧ Q v H1) (fun x dx z L F R H fp Q hx hh hg q => ?_) h
  unfold fldG at hg
  split at hg
  · split at hg
    · rename_i hC
      subst hC
      cases hx with
      | ins h e t =>
        rcases lookup_rel (f := f) e t with ⟨_, h2⟩ | ⟨v, d, h1, h2, h3⟩
        · rw [h2] at hg; cases hg
        · rw [h2] at hg
          obtain rfl := Option.some.inj hg
          exact ⟨_, _, _, _, v, rfl, hh.f.rx.ins _ _ _ _ h, cl, na, h1, q v H F [] (.refl _) ⟨h3, rfl⟩ hh⟩
    · cases hg
  · cases hg
/-- o.m(..), o frozen -/
def kmeth (C : Addr) (m : Str) (n : Nat) (mF : List X → Option Rf) (ma : OM (List D)) (o : D) (e : En) : Option (Rs X) :=
  match o with
  | .ins C' fs => if C' = C ∧ (fs.lookup m).isNone = true then bnd (ma e) (fun ds e1 => kcall n mF (o :: ds) e1) else none
  | _ => none
def m_meth (C : Addr) (m : Str) (n : Nat) (mF : List X → Option Rf) (mo : OM D) (ma : OM (List D)) : OM X := fun ê => bnd (mo ê) (kmeth C m n mF ma)
theorem meth_X {C : Addr} {m : Str} {n : Nat} {mF : List X → Option Rf} {to : TE} {t : TA} {mo : OM D} {ma : OM (List D)} (hLk : ∀ L, Lk L → Lk' L) (ho : OkD K W Lk to mo) (ha : OkA K W Lk t ma) : OkX K W Lk (rM C m (spF K Lk' n [] mF) W to t) (m_meth C m n mF mo ma) := by
  intro L R F H σ ê r Q hL hE hm hP
  refine ho.run hL hE hm hP fun vo o ex0 F0 H0 e0 s0 hzo hE0 hm0 hP0 => ?_
  obtain ⟨hzo, rfl⟩ := hzo
  unfold kmeth at hm0
  split at hm0
  · rename_i C' fds
    split at hm0
    · rename_i hC
      obtain ⟨hC, hno⟩ := hC
      subst hC
      have hzo2 := hzo
      cases hzo with
      | @ins a dx _ fs _ h e t =>
        have hl : fs.lookup m = none := by
          rcases lookup_rel (f := m) e t with ⟨h1, h2⟩ | ⟨v, d, h1, h2, h3⟩
          · exact h1
          · rw [h2] at hno; cases hno
        obtain ⟨fp0, hs0, hh0⟩ := id hE0
        refine ⟨a, dx, fs, rfl, hh0.f.rx.ins _ _ _ _ h, hl, ha.run hL hE0 hm0 hP0 fun vs ds ex F1 H1 e1 s1 hz hE hm hP => ?_⟩
        obtain ⟨hz, rfl⟩ := hz
        unfold kcall at hm
        split at hm
        · rename_i hn
          obtain ⟨fp, hs, hh⟩ := hE
          obtain ⟨o1, o2⟩ := Hs.over (a := []) hh
          have hl2 : (V.ref a :: vs).length = n := by rw [List.length_cons, hz.length]; exact hn
          split at hm
          · rename_i x hx
            obtain rfl := Option.some.inj hm
            refine ⟨hl2, L, _, F1, _, [], _, hLk L hL, XRL.fz (.cons (hzo2.mono s1) hz), o1, hx, fun v H' F' ex fq s hx' hy hh' => ?_⟩
            cases hy
            exact hP v H' F' ex s hx' ⟨fp, hs.rx (.of s), by have := o2 hh'; rwa [List.append_nil] at this⟩
          · rename_i x hx
            obtain rfl := Option.some.inj hm
            refine ⟨hl2, L, _, F1, _, [], _, hLk L hL, XRL.fz (.cons (hzo2.mono s1) hz), o1, hx, fun cls d H' F' fq s hx' hy hh' => ?_⟩
            cases hy
            exact hP cls d H' F' s hx' ⟨fp, hs.rx (.of s), o2 hh'⟩
          · cases hm
        · cases hm
    · cases hm0
  · cases hm0
/-- C(..) -/
def kmake (C : Addr) (n : Nat) (mF : List X → Option Rf) (ds : List D) (e : En) : Option (Rs X) :=
  if ds.length + 1 = n then match mF (.oi C [] :: ds.map .fz) with
    | some (.ok (.fz .non) [y]) => some (.ok y e)
    | some (.ex x [_]) => some (.ex x e)
    | _ => none else none
def m_make (C : Addr) (n : Nat) (mF : List X → Option Rf) (ma : OM (List D)) : OM X := fun ê => bnd (ma ê) (kmake C n mF)
theorem make_X {C : Addr} {n : Nat} {mF : List X → Option Rf} {t : TA} {ma : OM (List D)} (hLk : ∀ L, Lk L → Lk' L) (ha : OkA K W Lk t ma) : OkX K W Lk (rN C (spF K Lk' n [0] mF) W t) (m_make C n mF ma) := by
  intro L R F H σ ê r Q hL hE hm hP
  refine ha.run hL hE hm hP fun vs ds ex F1 H1 e1 s1 hz hE hm hP x dx nx ndx hne => ?_
  obtain ⟨hz, rfl⟩ := hz
  unfold kmake at hm
  split at hm
  · rename_i hn
    obtain ⟨fp, hs, hh⟩ := hE
    have h1 : Hs L F1 R ((dx, .own x) :: fp) (upd H1 dx (.own x)) := Hs.new (fp := fp) hh ndx
    have h2 : Hs L F1 R ((x, .ins C dx []) :: (dx, .own x) :: fp) (upd (upd H1 dx (.own x)) x (.ins C dx [])) := h1.new (by rw [upd_ne (fun z => hne z.symm)]; exact nx)
    obtain ⟨o1, o2⟩ := Hs.over (a := [(x, .ins C dx []), (dx, .own x)]) h2
    have hxs : XRL K F1 (.ref x :: vs) (.oi C [] :: ds.map .fz) ([(x, .ins C dx []), (dx, .own x)] ++ []) := .cons (.oi (fs := []) (fxs := []) rfl .nil) (XRL.fz hz)
    have hl : (V.ref x :: vs).length = n := by rw [List.length_cons, hz.length]; exact hn
    split at hm
    · rename_i y hx
      obtain rfl := Option.some.inj hm
      refine ⟨hl, L, _, F1, _, _, _, hLk L hL, hxs, o1, hx, fun v H' F' ex fq s hx' hy hh' => ?_⟩
      cases hx' with
      | fz hv =>
        refine ⟨hv.toNon, ?_⟩
        cases hy with
        | cons hy1 hy2 =>
          cases hy2
          rename_i b
          rw [List.append_nil, List.nil_append] at hh'
          exact hP _ H' F' b s hy1 ⟨fp, hs.rx (.of s), o2 hh'⟩
    · rename_i y _ hx
      obtain rfl := Option.some.inj hm
      refine ⟨hl, L, _, F1, _, _, _, hLk L hL, hxs, o1, hx, fun cls d H' F' fq s hx' hy hh' => ?_⟩
      exact hP cls d H' F' s hx' ⟨fp, hs.rx (.of s), (o2 hh').sub (List.sublist_append_right _ _)⟩
    · cases hm
  · cases hm
/-- self.f = e, self a def's own instance -/
def putFx (f : Str) (x : X) : List (Str × X) → List (Str × X)
  | [] => [(f, x)]
  | (g, y) :: r => if g = f then (g, x) :: r else (g, y) :: putFx f x r
theorem XRL.putF {f : Str} {v : V} {x : X} {a : Cells} (h : XR K F v x a) : ∀ {fs : List (Str × V)} {fxs : List (Str × X)} {fp : Cells}, fs.map (·.1) = fxs.map (·.1) → XRL K F (fs.map (·.2)) (fxs.map (·.2)) fp →
    ∃ fq c, (putF f v fs).map (·.1) = (putFx f x fxs).map (·.1) ∧ XRL K F ((putF f v fs).map (·.2)) ((putFx f x fxs).map (·.2)) fq ∧ fq.Perm (a ++ c) ∧ c.Sublist fp
  | [], [], fp, _, t => by
    cases t
    exact ⟨a ++ [], [], rfl, .cons h .nil, .refl _, List.Sublist.refl _⟩
  | [], _ :: _, _, e, _ => nomatch e
  | _ :: _, [], _, e, _ => nomatch e
  | (p1, p2) :: r, (q1, q2) :: s, fp, e, t => by
    obtain ⟨e1, e2⟩ := List.cons.inj e
    obtain rfl : p1 = q1 := e1
    generalize hfp : fp = fp0 at t
    cases t with
    | @cons _ _ _ _ a1 b1 h1 t1 =>
      unfold L2.putF putFx
      by_cases hk : p1 = f
      · rw [if_pos hk, if_pos hk]
        exact ⟨a ++ b1, b1, by simp only [List.map_cons]; exact congrArg (p1 :: ·) e2, .cons h t1, .refl _, List.sublist_append_right _ _⟩
      · rw [if_neg hk, if_neg hk]
        obtain ⟨fq, c, g1, g2, g3, g4⟩ := XRL.putF h e2 t1
        refine ⟨a1 ++ fq, a1 ++ c, by simp only [List.map_cons]; exact congrArg (p1 :: ·) g1, .cons h1 g2, ?_, (List.Sublist.refl a1).append g4⟩
        exact ((List.Perm.refl a1).append g3).trans (by
          rw [← List.append_assoc, ← List.append_assoc]
          exact List.perm_append_comm.append_right c)
def ksetF (i : Nat) (f : Str) (C : Addr) (x : X) (e : En) : Option Ot := match gt e i with
  | some (.oi C' fxs) => if C' = C ∧ fxs.length < 1000 then some (.nx (st' e i (some (.oi C (putFx f x fxs))))) else none
  | _ => none
def m_setF (i : Nat) (f : Str) (C : Addr) (m : OM X) : SM := fun ê => bndS (m ê) (ksetF i f C)
theorem setF_S {i : Nat} {f : Str} {C : Addr} (cl : Cls K C) (na : NoAttr K C f) {t : TE} {m : OM X} (h : OkX K W Lk t m) : OkS K W Lk io (sFld K (tVar i) t f) (m_setF i f C m) := by
  intro L R F H σ ê o D hL hE hm hP
  refine h.runS hL hE hm hP fun v x ex F1 H1 e1 s1 hx hE hm hP => ?_
  unfold ksetF at hm
  split at hm
  · rename_i C' fxs hx1
    split at hm
    · rename_i hC
      obtain ⟨hC, hlen⟩ := hC
      subst hC
      obtain rfl := Option.some.inj hm
      obtain ⟨fp, hs, hh⟩ := hE
      obtain ⟨v1, a1, b1, k1, k2, k3, k4⟩ := hs.at hx1
      cases k2 with
      | @oi p dx _ fs _ fp2 e t =>
        have hh1 : Hs L F1 R ((p, .ins C' dx fs) :: (((dx, .own p) :: fp2) ++ (ex ++ b1))) H1 := hh.perm (by
          refine (List.Perm.append_left ex k4).trans ?_
          rw [← List.append_assoc]
          refine (List.perm_append_comm.append_right b1).trans ?_
          simp [List.append_assoc])
        obtain ⟨fq, c, g1, g2, g3, g4⟩ := XRL.putF (f := f) hx e t
        refine ⟨.ref p, k1, p, C', dx, fs, rfl, (hh1.c _ List.mem_cons_self).1, cl, na, by rw [keys_len e]; exact hlen, ?_⟩
        have hw := hh1.write (o' := .ins C' dx (putF f v fs))
        obtain ⟨d, j1, j2⟩ := SR.back (XR.oi (dx := dx) g1 g2) _ _ _ _ k3 k1
        refine hP σ _ F1 (.refl _) ⟨d, j1, ?_⟩ (.refl _ _)
        have h3 : Hs L F1 R ((p, .ins C' dx (putF f v fs)) :: (((dx, .own p) :: c) ++ (ex ++ b1))) (upd H1 p (.ins C' dx (putF f v fs))) := hw.sub (by
          refine List.Sublist.cons_cons _ ?_
          exact (List.Sublist.cons_cons _ g4).append (List.Sublist.refl _))
        refine h3.perm ?_
        refine List.Perm.trans ?_ j2.symm
        simp only [List.cons_append]
        refine List.Perm.cons _ (List.Perm.cons _ ?_)
        rw [← List.append_assoc]
        exact (List.perm_append_comm.trans g3.symm).append_right b1
    · cases hm
  · cases hm
/-- self.f, self a def's own instance, the field frozen -/
def m_fldV (i : Nat) (f : Str) (C : Addr) : OM D := fun ê => match gt ê i with
  | some (.oi C' fxs) => if C' = C then match fxs.lookup f with
    | some (.fz d) => some (.ok d ê)
    | _ => none else none
  | _ => none
/-- THE RULE for a def -/
theorem fun_okF {P : Program} {w : World} {mg : Str → Option Value} {base : Heap} {x qual : Str} {st : Stmt} {f : Addr} {fd : FuncData} {N ps : List Str} {k : Nat} {io : List Nat} {mb : SM} (Fn : Fun K x qual st f fd) (S : FnScope N ps (defScope st)) (hio : ∀ i ∈ io, i < ps.length)
    (hbody : ∀ (cdv : Value) (A : Around) (outer : List Env) (s : Shared) (H : Hp) (E : XK), Room k (A.deeper (envOfC qual (defScope st) s.heap.objs.size f cdv)) → Calm (A.deeper (envOfC qual (defScope st) s.heap.objs.size f cdv)) →
      ∃ t, PSs (cxOf (L2.CX P w) P w K mg base N qual (defScope st) f cdv A outer s H E) (defBody st) t ∧ OkS K (fun cls d _ H => E cls d H) Lk io t mb) :
    FG P w K mg base (k + 1) f fd ps (spF K Lk ps.length io (bodyF N.length io mb)) := by
  refine fg_fun Fn S (fun vs H Q E h => h.1) (fun cdv A outer s H vs Q E hr hc h => ?_)
  obtain ⟨t, ht, hm⟩ := hbody cdv A outer s H E hr hc
  refine ⟨t, ht, ?_⟩
  obtain ⟨hl, L, R, F, xs, fp, r, hL, hx, hh, hr2, hP⟩ := h
  have hxl := hx.length
  have hs := sr_start hx (N.length - vs.length)
  have hE : ER K L R F H [] (L2.start N vs) (xs.map some ++ List.replicate (N.length - xs.length) none) := ⟨fp, by rw [← hxl]; exact hs, hh⟩
  unfold bodyF at hr2
  have stv : ∀ {σ' : L2.St}, Kp io (L2.start N vs) σ' → ∀ i ∈ io, σ'[i]? = (vs[i]?).map some := fun {σ'} k i hi => by
    have hiv : i < vs.length := by rw [hl]; exact hio i hi
    rw [k i hi]
    unfold L2.start
    rw [List.getElem?_append_left (by rw [List.length_map]; exact hiv), List.getElem?_map]
  have ex0 : ∀ {σ' : L2.St}, ∀ i ∈ io, ∃ v, σ'[i]? = some (some v) → vs[i]? = some v := fun {σ'} i hi => by
    have hiv : i < vs.length := by rw [hl]; exact hio i hi
    exact ⟨vs[i], fun _ => List.getElem?_eq_getElem hiv⟩
  cases hmo : mb (xs.map some ++ List.replicate (N.length - xs.length) none) with
  | none => rw [hmo] at hr2; cases hr2
  | some o =>
    rw [hmo] at hr2
    cases o with
    | bk e => cases hr2
    | ct e => cases hr2
    | nx e =>
      obtain ⟨ys, e1, rfl⟩ := Option.map_eq_some_iff.mp hr2
      refine hm L R F H _ _ _ _ hL hE hmo fun σ' H' F' s' hE' kp => ?_
      obtain ⟨fp', hs', hh'⟩ := hE'
      obtain ⟨fq, c, k1, k2⟩ := col_rel (vs := vs) hs' e1 ex0 (stv kp)
      exact hP .non H' F' [] fq s' (.fz .non) k1 ((hh'.perm k2).sub (List.sublist_append_left _ _))
    | rt x e =>
      obtain ⟨ys, e1, rfl⟩ := Option.map_eq_some_iff.mp hr2
      refine hm L R F H _ _ _ _ hL hE hmo fun v σ' H' F' ex s' hx' hE' kp => ?_
      obtain ⟨fp', hs', hh'⟩ := hE'
      obtain ⟨fq, c, k1, k2⟩ := col_rel (vs := vs) hs' e1 ex0 (stv kp)
      exact hP v H' F' ex fq s' hx' k1 ((hh'.perm ((List.Perm.refl ex).append k2)).sub (by rw [← List.append_assoc]; exact List.sublist_append_left _ _))
    | ex x e =>
      obtain ⟨ys, e1, rfl⟩ := Option.map_eq_some_iff.mp hr2
      refine hm L R F H _ _ _ _ hL hE hmo fun cls d σ' H' F' s' hx' hE' kp => ?_
      obtain ⟨fp', hs', hh'⟩ := hE'
      obtain ⟨fq, c, k1, k2⟩ := col_rel (vs := vs) hs' e1 ex0 (stv kp)
      exact hP cls d H' F' fq s' hx' k1 ((hh'.perm k2).sub (List.sublist_append_left _ _))
end
end GD
/-! own: a law's end for GF's promises -/
namespace GF
open PySem PySem.Spec PyProof.Rows L2

theorem no_error {P : Program} {w : World} {os : List Env} {G : Hp} {z z' : Shared} {e : Value} (h : L2.CX P w os G z (fun _ _ _ => False) e z') : False := by
  obtain ⟨_, _, _, _, _, _, _, _, _, _, _, _, q⟩ := h
  exact q
/-- the heap as it is known at the law's call: the script alone -/
structure Begun (P : Program) (w : World) (K : PySem.W.Frag) (z : Shared) (a : Addr) (ns : List Int) (G : Hp) : Prop where
  only : Only G
  script : SqL K G a (ns.map V.int)
  ok : HOk P w G z.heap
  one : ∀ b, G b ≠ none → b = a
  own : G a ≠ none → K.lookup a = none
theorem begun {P : Program} {w : World} {K : PySem.W.Frag} {z : Shared} {a : Addr} {us : List Value} {ns : List Int} (kin : K.In z.heap) (at_ : z.heap.get? a = some { cls := .type "list", data := .seq us.toArray }) (ia : IntsAre us ns) (short : ns.length ≤ sizeLine) : ∃ G, Begun P w K z a ns G := by
  have vals := vals_ints ia
  cases look : K.lookup a with
  | some o =>
    have e := kin a o look
    rw [at_] at e
    obtain rfl := Option.some.inj e
    refine ⟨fun _ => none, fun _ => .inl rfl, .inr ⟨_, us.toArray, _, look, rfl, rfl, rfl, ?_, ?_⟩, (fun b u q => by cases q), (fun b q => absurd rfl q), (fun q => absurd rfl q)⟩
    · rw [List.size_toArray, ia.length]; exact short
    · simpa using vals
  | none =>
    have hit : ∀ (u : HO), (fun b => if b = a then some u else none : Hp) a = some u := fun u => if_pos rfl
    have miss : ∀ (u v : HO) (b : Addr), (fun b => if b = a then some u else none : Hp) b = some v → b = a ∧ v = u := fun u v b q => by
      by_cases e : b = a
      · subst e
        exact ⟨rfl, (Option.some.inj ((if_pos rfl).symm.trans q)).symm⟩
      · cases (if_neg e).symm.trans q
    refine ⟨fun b => if b = a then some (.frz { cls := .type "list", data := .seq us.toArray } (.lst (ns.map V.int))) else none, ⟨fun b => ?_, .inl (.inr ⟨_, hit _⟩), fun b u q => ?_, fun b q => ?_, fun _ => look⟩⟩
    · by_cases e : b = a
      · exact .inr ⟨_, _, if_pos e⟩
      · exact .inl (if_neg e)
    · obtain ⟨rfl, rfl⟩ := miss _ _ _ q
      exact ⟨at_, by rw [List.length_map]; exact short, us, _, vals, at_⟩
    · by_cases e : b = a
      · exact e
      · exact absurd (if_neg e) q
theorem calm_caller : Calm callerA := rfl
theorem law_go {P : Program} {w : World} {K : PySem.W.Frag} {mg mb : Str → Option Value} {k : Nat} {fa a : Addr} {fd : FuncData} {x : Str} {sp : Sp} {z : Shared} {us : List Value} {ns : List Int}
    (kin : K.In z.heap) (gl : z.heap.Ns mainGlobals mg) (bl : z.heap.Ns builtinsNs mb) (boot : ∀ y : Str, y ≠ "__name__" → mb y = bootBuiltins y) (nolim : z.heap.NoLimit) (still : z.gens = #[])
    (at_ : z.heap.get? a = some { cls := .type "list", data := .seq us.toArray }) (ia : IntsAre us ns) (short : ns.length ≤ sizeLine) (room : Room k callerA)
    (F : ∀ base : Heap, K.In base → base.Ns mainGlobals mg → FG P w K mg base k fa fd [x] sp) (bind : ∀ (t : Shared) (u : Value), BindsTo t fd ⟨[u], []⟩ [(x, u)])
    (says : ∀ G : Hp, Only G → SqL K G a (ns.map V.int) → sp [.ref a] G (fun v _ => v = .bl true) fun _ _ _ => False) :
    codeAny (model P w) callerA (.call (.ref fa) ⟨[.ref a], []⟩) (fun r t => r = .ok (.ret (.bool true)) ∧ OldK z.heap t.heap ∧ t.os = z.os ∧ AllBare t.gens) z := by
  obtain ⟨G, B⟩ := begun (P := P) (w := w) kin at_ ia short
  have base : ∀ {b : Addr} {o : Obj}, z.heap.get? b = some o → G b = none → (hidT z.heap G).get? b = some o := fun p q => hidT_get p q
  have known : ∀ {b : Addr}, G b ≠ none → z.heap.get? b = some { cls := .type "list", data := .seq us.toArray } := fun {b} q => by rw [B.one b q]; exact at_
  have notd : ∀ {b : Addr} {o : Obj} {es : Array DictEntry} {ep : Nat}, z.heap.get? b = some o → o.data = .dict es ep → G b = none := fun {b o es ep} p q => by
    refine Classical.byContradiction fun n => ?_
    have e := (known n).symm.trans p
    obtain rfl := Option.some.inj e
    cases q
  have ns' : ∀ {b : Addr} {m : Str → Option Value}, z.heap.Ns b m → (hidT z.heap G).Ns b m := fun {b m} ⟨o, es, ep, p, q, r⟩ => ⟨o, es, ep, base p (notd p q), q, r⟩
  have kin' : K.In (hidT z.heap G) := fun b o p => base (kin b o p) (by
    refine Classical.byContradiction fun n => ?_
    have e := B.one b n
    subst e
    rw [B.own n] at p
    cases p)
  have M : Mod K mg (hidT z.heap G) := ⟨kin', ns' gl, ⟨mb, ns' bl, boot⟩, by obtain ⟨m, p, q⟩ := nolim; exact ⟨m, ns' p, q⟩⟩
  have e0 : Env0 P w K mg (hidT z.heap G) callerA [] z G := ⟨rfl, M, fun b o p => of_hidT p, Nat.le_of_eq (hidT_size _ _), trivial, fun b q => absurd (show b ∈ ([] : List Addr) from q) (by simp), B.ok, .of_eq still⟩
  refine codeAny_mono ((F _ kin' (ns' gl)).goes callerA [] z G ⟨[.ref a], []⟩ [.ref a] [.ref a] _ _ room calm_caller e0 (bind z (.ref a)) (.cons rfl .nil) (says G B.only B.script)) ?_
  rintro (e | fl) t h
  · exact (no_error h).elim
  · cases fl with
    | ret u =>
      obtain ⟨v, G', os, bare, un, ok', r, q⟩ := h
      obtain rfl : v = .bl true := q
      obtain rfl : u = Value.bool true := r
      refine ⟨rfl, OldK.of_keep fun b o p => ?_, os, bare⟩
      cases q : G b with
      | none => exact un.keep b o p q (fun n => absurd (show b ∈ ([] : List Addr) from n) (by simp)) (by simp)
      | some u =>
        rcases B.only b with n | ⟨ob, xs, n⟩
        · rw [q] at n; cases n
        · have p2 := (ok' b _ (un.frzs b ob _ n)).1
          have p1 := (B.ok b _ n).1
          rw [p] at p1
          obtain rfl := Option.some.inj p1
          exact p2
    | _ => exact False.elim h
/-- the goal that k_head leaves, from the law's promise -/
theorem walk_go {l : PySem.W.OpenLaw} {n k : Nat} {q : Program} {loose : List Str} {XP : (Str → Option Value) → Heap → Prop} {YP : World → Heap → Prop} {d : DefRec} {K : Params → PySem.W.Frag} {sp : World → Sp} {x : Str}
    (most : l.most = some n) (few : n ≤ sizeLine) (nodef : d.params.defaults = []) (room : Room k callerA) (kin : ∀ (w : World) (h : Heap), YP w h → (K w.params).In h)
    (F : ∀ (w : World) (mg : Str → Option Value) (fa : Addr) (h : Heap), (K w.params).In h → h.Ns mainGlobals mg → mg d.name = some (.ref fa) →
      ∃ fd : FuncData, (∀ (t : Shared) (u : Value), BindsTo t fd ⟨[u], []⟩ [(x, u)]) ∧ ∀ base : Heap, (K w.params).In base → base.Ns mainGlobals mg → FG l.prog w (K w.params) mg base k fa fd [x] (sp w))
    (says : ∀ (w : World) (G : Hp) (a : Addr) (ns : List Int), ns.length ≤ n → Only G → SqL (K w.params) G a (ns.map V.int) → sp w [.ref a] G (fun v _ => v = .bl true) fun _ _ _ => False) :
    PySem.W.WalkO q loose XP YP l.row.toRowW d [] (fun f vs => PySem.call f vs) := by
  refine Att.attach_call most nodef fun w z0 z mg mb fa o pm cd doc a us ns G Y ho hd hcd hmg at_ ia few' still => ?_
  obtain ⟨fd, hb, hF⟩ := F w mg fa _ (kin w _ Y) G.T.g hmg
  exact law_go (kin w _ Y) G.T.g G.T.b G.T.builtins G.T.nolimit still at_ ia (Nat.le_trans few' few) room hF hb fun H hO hS => says w H a ns few' hO hS
end GF
/-! own data layer: more rules -/
namespace GF
open PySem PySem.Spec PyProof.Rows L2
section
variable {X : Cx} {W : WX} {k n : Nat} {f C : Addr} {fd : FuncData} {ps ks : List Str} {sp : Sp} {gl : List Value → List Value → List Value} {gV : List V → List V → List V}
theorem fg_runK {pins : List (Addr × Obj)} {σ : L2.St} {G : Hp} {z : Shared} {Q : VK} {xs ws : List Value} {ys zs : List V} (g : FG X.prog X.w X.K X.mg X.base k f fd ps sp) (r : Room k X.A) (c : Calm X.A) (b : KBn X.K fd ps n ks gl gV) (tk : Takes X W)
    (I : Inv X pins σ G z) (v : Vals ys xs) (u : Vals zs ws) (l1 : ys.length = n) (l2 : zs.length = ks.length) (q : sp (gV ys zs) G Q (WE W σ)) : wpAny (model X.prog X.w) X.A (call (.ref f) xs (ks.zip ws)) (EP X pins σ Q) X.xe z := by
  apply wpAny_call
  refine codeAny_mono (g.goes X.A X.stack z G ⟨xs, ks.zip ws⟩ _ _ Q (WE W σ) r c I.env0 (b.to z xs ws I.kIn (by rw [← v.length]; exact l1) (by rw [← u.length]; exact l2)) (b.rel v u) q) ?_
  rintro (e | fl) z' hz
  · exact passAt tk σ pins G z e z' I hz
  · cases fl <;> first | exact I.after hz | exact False.elim hz
variable {x m : Str} {p pos apos : Pos} {e o : Expr} {es : List Expr} {kws : List Keyword} {ta : TE} {t tk' : TA}
def rFK (n : Nat) (sp : Sp) (gV : List V → List V → List V) (W : WX) (t : TA) : TE := fun σ G Q => t σ G fun zs G1 => zs.length = n ∧ sp (gV [] zs) G1 Q (WE W σ)
/-- f(k=e, ..) -/
theorem pf_callK0 (g : FG X.prog X.w X.K X.mg X.base k f fd ps sp) (r : Room k X.A) (c : Calm X.A) (hx : Gl X x) (hm : X.mg x = some (.ref f)) (kp : PySem.W.keepIn X.K (.ref f) = true) (b : KBn X.K fd ps 0 ks gl gV) (tk : Takes X W) (hk : PK X kws tk')
    (h1 : (backToKw pos (keywordEach kws X.env)).all (·.1.isSome) = true := by rfl) (h2 : (backToKw pos (keywordEach kws X.env)).filterMap (·.1) = ks := by rfl) (hd : (x == ("__debug__" : Str)) = false := by decide)
    (h3 : ((backTo pos (starEach [] X.env)).any (·.1) || (backToKw pos (keywordEach kws X.env)).any (·.1.isNone)) = false := by rfl) : PE X (.Call (.Name x p) [] kws pos) (rFK ks.length sp gV W tk') := by
  constructor
  intro pins z σ G Q I q
  refine wpAny_Call_Name_kw (ld_glob I hx hm (PySem.W.callWith_KW0 (h₀ := X.base) (first := []) I.ok.mod.kin kp h1 (thn (hk.run pos pins z σ G _ I q) ?_) h3) hd)
  rintro ws z2 ⟨zs, G2, I2, rz, l2, q2⟩
  refine ⟨I2.kIn, ?_⟩
  rw [h2]
  exact fg_runK (xs := []) (ys := []) g r c b tk I2 .nil rz rfl l2 q2
end
end GF
namespace GD
open PySem PySem.Spec PyProof.Rows L2 GF
abbrev Lk0 : List Addr → Prop := fun _ => True
abbrev WD (E : XK) : WX := fun cls d _ H => E cls d H
section
variable {K : PySem.W.Frag} {W : WX} {Lk Lk' : List Addr → Prop} {L : List Addr} {F F' R H H' : Hp} {io : List Nat}
/-- a op b op c -/
def kch (g' : D → D → Option D) (mc : OM D) (y : D) (z : D) (e : En) : Option (Rs D) := match z with
  | .bl true => bnd (mc e) (un? (g' y))
  | .bl false => some (.ok (.bl false) e)
  | _ => none
def kch1 (g g' : D → D → Option D) (mc : OM D) (x : D) (y : D) (e : En) : Option (Rs D) := match g x y with
  | some z => kch g' mc y z e
  | none => none
def kch0 (g g' : D → D → Option D) (mb mc : OM D) (x : D) (e : En) : Option (Rs D) := bnd (mb e) (kch1 g g' mc x)
def m_chain (g g' : D → D → Option D) (ma mb mc : OM D) : OM D := fun ê => bnd (ma ê) (kch0 g g' mb mc)
theorem chain_D {f f' : Int → Int → Bool} {ta tb tc : TE} {ma mb mc : OM D} (o : True) (o' : True) (ha : OkD K W Lk ta ma) (hb : OkD K W Lk tb mb) (hc : OkD K W Lk tc mc) :
    OkD K W Lk (tChain (rI0 fun i j => .bl (f i j)) (rI0 fun i j => .bl (f' i j)) ta tb tc) (m_chain (intOp fun i j => some (.bl (f i j))) (intOp fun i j => some (.bl (f' i j))) ma mb mc) := by
  intro L R F H σ ê r Q hL hE hm hP
  refine ha.run hL hE hm hP fun v d ex F1 H1 e1 s1 hz hE hm hP => ?_
  obtain ⟨hz, rfl⟩ := hz
  refine hb.run hL hE hm hP fun v2 d2 ex2 F2 H2 e2 s2 hz2 hE hm hP => ?_
  obtain ⟨hz2, rfl⟩ := hz2
  unfold kch1 at hm
  split at hm
  · rename_i z hzz
    obtain ⟨i, j, rfl, rfl, e⟩ := intOp_some hzz
    obtain rfl := Option.some.inj e
    refine ⟨i, j, (hz.mono s2).toInt, hz2.toInt, _, rfl, ?_⟩
    cases hf : f i j with
    | false =>
      rw [hf] at hm
      obtain rfl := Option.some.inj hm
      exact iteF (hP _ H2 F2 [] (.refl _) ⟨.bl false, rfl⟩ hE)
    | true =>
      rw [hf] at hm
      refine iteT (hc.run hL hE hm hP fun v3 d3 ex3 F3 H3 e3 s3 hz3 hE hm hP => ?_)
      obtain ⟨hz3, rfl⟩ := hz3
      obtain ⟨b, hb, rfl⟩ := un_some hm
      obtain ⟨i2, j2, e1, rfl, e2⟩ := intOp_some hb
      obtain rfl := D.int.inj e1
      obtain rfl := Option.some.inj e2
      exact ⟨j, j2, (hz2.mono s3).toInt, hz3.toInt, hP _ H3 F3 [] (.refl _) ⟨.bl _, rfl⟩ hE⟩
  · cases hm
theorem lenA_flat (a z : D) (h : lenA a = some z) : flatF z = true := by
  unfold lenA at h
  split at h
  · exact lenS_flat _ _ h
  · exact lenG_flat _ _ h
theorem fldV_D {i : Nat} {f : Str} {C : Addr} (cl : Cls K C) (na : NoAttr K C f) : OkD K W Lk (tFld K (tVar i) f) (m_fldV i f C) := by
  intro L R F H σ ê r Q hL hE hm hP
  unfold m_fldV at hm
  split at hm
  · rename_i C' fxs hx
    split at hm
    · rename_i hC
      subst hC
      split at hm
      · rename_i d hd
        obtain rfl := Option.some.inj hm
        obtain ⟨v1, a1, fp, k1, k2, k3, k4⟩ := hE.at hx
        cases k2 with
        | @oi p dx _ fs _ fp2 e t =>
          obtain ⟨w, hw1, hw2⟩ : ∃ w, fs.lookup f = some w ∧ Fz K F w d := by
            clear k1 k3 k4 hx hE
            induction fs generalizing fxs fp2 with
            | nil =>
              cases fxs with
              | nil => cases hd
              | cons _ _ => cases e
            | cons p r ih =>
              cases fxs with
              | nil => cases e
              | cons q s =>
                obtain ⟨p1, p2⟩ := p
                obtain ⟨q1, q2⟩ := q
                obtain ⟨e1, e2⟩ := List.cons.inj e
                obtain rfl : p1 = q1 := e1
                generalize hfp : fp2 = fp0 at t
                cases t with
                | cons h1 t1 =>
                  rw [List.lookup_cons] at hd ⊢
                  cases hk : (f == p1) with
                  | true =>
                    rw [hk] at hd
                    obtain rfl : q2 = .fz d := Option.some.inj hd
                    cases h1 with
                    | fz hz => exact ⟨_, rfl, hz⟩
                  | false =>
                    rw [hk] at hd
                    exact ih _ hd e2 t1
          exact ⟨_, k1, p, C', dx, fs, w, rfl, (k4.c _ List.mem_cons_self).1, cl, na, hw1, hP w H F [] (.refl _) ⟨hw2, rfl⟩ hE⟩
      · cases hm
    · cases hm
  · cases hm
/-- d[k], k in d, d a name's own dict -/
def kgetV (i : Nat) (k : D) (e : En) : Option (Rs D) := match gt e i, toK k with
  | some (.od kds), some k => match valG kds k with
    | some d => some (.ok d e)
    | none => none
  | some (.fz (.dic kds)), some k => match valG kds k with
    | some d => some (.ok d e)
    | none => none
  | _, _ => none
def m_getV (i : Nat) (mk : OM D) : OM D := fun ê => bnd (mk ê) (kgetV i)
theorem dgetV_D {i : Nat} {ty : TE} {mk : OM D} (hk : OkD K W Lk ty mk) : OkD K W Lk (tDGet (tVar i) ty) (ifAny i (m_getV i mk)) := by
  intro L R F H σ ê r Q hL hE hm hP
  unfold ifAny at hm
  split at hm
  · rename_i x0 hx0
    obtain ⟨v, h1⟩ := hE.slot hx0
    refine ⟨v, h1, hk.run hL hE hm hP fun w d ex F1 H1 e1 s1 hz hE hm hP => ?_⟩
    obtain ⟨hz, rfl⟩ := hz
    unfold kgetV at hm
    split at hm
    · rename_i kds k hx1 ek
      split at hm
      · rename_i y hy
        obtain rfl := Option.some.inj hm
        obtain ⟨v2, a2, fp2, k1, k2, k3, k4⟩ := hE.at hx1
        obtain rfl : v = v2 := Option.some.inj (Option.some.inj (h1.symm.trans k1))
        cases k2 with
        | od e t =>
          rcases val_rel (k := k) e t with ⟨_, h2⟩ | ⟨u, d', g1, g2, g3⟩
          · rw [h2] at hy; cases hy
          · rw [g2] at hy
            obtain rfl := Option.some.inj hy
            exact ⟨_, u, rfl, .inl ⟨_, k, .inl (k4.c _ List.mem_cons_self).1, toK_some ek hz, g1.symm⟩, hP u H1 F1 [] (.refl _) ⟨g3, rfl⟩ hE⟩
      · cases hm
    · rename_i kds k hx1 ek
      split at hm
      · rename_i y hy
        obtain rfl := Option.some.inj hm
        obtain ⟨v2, a2, fp2, k1, k2, k3, k4⟩ := hE.at hx1
        obtain rfl : v = v2 := Option.some.inj (Option.some.inj (h1.symm.trans k1))
        cases k2 with
        | fz hx =>
          cases hx with
          | dic h e t =>
            rcases val_rel (k := k) e t with ⟨_, h2⟩ | ⟨u, d', g1, g2, g3⟩
            · rw [h2] at hy; cases hy
            · rw [g2] at hy
              obtain rfl := Option.some.inj hy
              exact ⟨_, u, rfl, .inl ⟨_, k, k4.f.rx.rd _ _ h, toK_some ek hz, g1.symm⟩, hP u H1 F1 [] (.refl _) ⟨g3, rfl⟩ hE⟩
      · cases hm
    · cases hm
  · cases hm
theorem dnotin_D {td ty : TE} {md mk : OM D} (hk : OkD K W Lk ty mk) (hd : OkD K W Lk td md) : OkD K W Lk (tDNotIn ty td) (m2 (dinG true) mk md) := by
  refine op2_G (rel := relD K) (rr := fun y x H2 Q => ∃ a o, x = .ref a ∧ DGet H2 a y o ∧ Q (.bl (!o.isSome)) H2) (fun y x dy dx z L F R H fp Q hy hx hh hg q => ?_) hk hd
  unfold dinG at hg
  split at hg
  · split at hg
    · rename_i k ek
      obtain rfl := Option.some.inj hg
      cases hx with
      | dic h e t =>
        refine ⟨_, _, rfl, .inl ⟨_, k, hh.f.rx.rd _ _ h, toK_some ek hy, rfl⟩, q _ H F [] (.refl _) ⟨?_, rfl⟩ hh⟩
        rw [Bool.true_xor]
        rcases val_rel (k := k) e t with ⟨h1, h2⟩ | ⟨v, d, h1, h2, h3⟩
        · rw [h1, h2]; exact .bl _
        · rw [h1, h2]; exact .bl _
    · cases hg
  · cases hg
/-- dict(d) -/
def dictDG : D → Option X
  | .dic kds => some (.od kds)
  | _ => none
theorem dictD_X {t : TE} {m : OM D} (h : OkD K W Lk t m) : OkX K W Lk (tCB (fun xs H Q => ∃ (a : Addr) (kvs : List (Key × V)), xs = [.ref a] ∧ Rd H a (.dK kvs) ∧ ∀ p, H p = none → Q (.ref p) (upd H p (.dK kvs))) (tCons t tNil)) (m1 dictDG m) := by
  refine op1_G (rel := relX K) (rr := fun x H Q => ∃ (a : Addr) (kvs : List (Key × V)), [x] = [.ref a] ∧ Rd H a (.dK kvs) ∧ ∀ p, H p = none → Q (.ref p) (upd H p (.dK kvs))) (fun x dx z L F R H fp Q hx hh hg q => ?_) h
  unfold dictDG at hg
  split at hg
  · obtain rfl := Option.some.inj hg
    cases hx with
    | dic h e t => exact ⟨_, _, rfl, hh.f.rx.rd _ _ h, fun p np => q _ _ F _ (.refl _) (.od e t) (hh.new np)⟩
  · cases hg
/-- len(d) of a dict that is not walked just now -/
def lenDG : D → Option D
  | .dic kds => some (.int kds.length)
  | _ => none
/-- a, b = x, y -/
def kpar2 (i j : Nat) (x y : X) (e : En) : Option Ot := some (.nx (st' (st' e i (some x)) j (some y)))
def kpar1 (i j : Nat) (mb : OM X) (x : X) (e : En) : Option Ot := bndS (mb e) (kpar2 i j x)
def m_par (i j : Nat) (ma mb : OM X) : SM := fun ê => bndS (ma ê) (kpar1 i j mb)
theorem Kp.set {io : List Nat} {σ : L2.St} {i : Nat} {v : V} (h : i ∉ io) : Kp io σ (σ.set i (some v)) := fun j hj => by
  rw [List.getElem?_set_ne (fun z => h (by rw [z]; exact hj))]
theorem par_S {i j : Nat} (hi : i ∉ io) (hj : j ∉ io) {ta tb : TE} {ma mb : OM X} (ha : OkX K W Lk ta ma) (hb : OkX K W Lk tb mb) : OkS K W Lk io (tPar i j (tCons ta (tCons tb tNil))) (m_par i j ma mb) := by
  intro L R F H σ ê o D hL hE hm hP
  refine ha.runS hL hE hm hP fun v x ex F1 H1 e1 s1 hx hE1 hm1 hP1 => ?_
  obtain ⟨fp, hs, hh⟩ := hE1
  have hgv := hh.give
  have nd := hh.nodup
  have nR : ∀ p ∈ ex, R p.1 = none := fun p hp => hh.notR p (List.mem_append_left _ hp)
  unfold kpar1 at hm1
  cases h2 : mb e1 with
  | none => rw [h2] at hm1; cases hm1
  | some r2 =>
    cases r2 with
    | ex y e =>
      rw [h2] at hm1
      obtain rfl := Option.some.inj hm1
      refine hb L (plus ex R) F1 H1 σ e1 _ _ hL ⟨fp, hs, hgv⟩ h2 fun cls d H' F' s hx' hE' => ?_
      obtain ⟨fq, a, b⟩ := hE'
      exact hP1 cls d σ H' F' s hx' ⟨fq, a, (Hs.take nd nR b).sub (List.sublist_append_right _ _)⟩ (.refl _ _)
    | ok y e =>
      rw [h2] at hm1
      obtain rfl := Option.some.inj hm1
      refine hb L (plus ex R) F1 H1 σ e1 _ _ hL ⟨fp, hs, hgv⟩ h2 fun w H2 F2 ex2 s2 hy hE2 => ⟨v, w, rfl, ?_⟩
      obtain ⟨fq, a, b⟩ := hE2
      have b2 : Hs L F2 R (ex ++ (ex2 ++ fq)) H2 := Hs.take nd nR b
      have E0 : ER K L R F2 H2 (ex2 ++ ex) σ e := ⟨fq, a, b2.perm (by
        rw [← List.append_assoc]
        exact List.perm_append_comm.append_right fq)⟩
      -- the first into its slot, the second's cells still apart
      obtain ⟨fq', a', b'⟩ := E0
      have c1 : Hs L F2 R (ex2 ++ (ex ++ fq')) H2 := b'.perm (by rw [List.append_assoc])
      have nd2 := c1.nodup
      have nR2 : ∀ p ∈ ex2, R p.1 = none := fun p hp => c1.notR p (List.mem_append_left _ hp)
      have g1 : ER K L (plus ex2 R) F2 H2 [] (σ.set i (some v)) (st' e i (some x)) := ER.put (hx.rx (.of s2)) ⟨fq', a', c1.give⟩
      obtain ⟨fr, a3, b3⟩ := g1
      have g2 : ER K L R F2 H2 ex2 (σ.set i (some v)) (st' e i (some x)) := ⟨fr, a3, Hs.take nd2 nR2 b3⟩
      exact hP1 _ H2 F2 s2 (ER.put hy g2) ((Kp.set hi).trans (Kp.set hj))
/-- x += e, x an int -/
def kaug (i : Nat) (f : Int → Int → Int) (a : Int) (d : D) (e : En) : Option Ot := match d with
  | .int b => some (.nx (st' e i (some (.fz (.int (f a b))))))
  | _ => none
def m_aug (i : Nat) (f : Int → Int → Int) (me : OM D) : SM := fun ê => match gt ê i with
  | some (.fz (.int a)) => bndS (me ê) (kaug i f a)
  | _ => none
def ipadd (i j : Int) : Int := i + j
def ipsub (i j : Int) : Int := i - j
theorem aug_S {i : Nat} (f : Int → Int → Int) (hi : i ∉ io) {te : TE} {me : OM D} (he : OkD K W Lk te me) : OkS K W Lk io (tAug i te (ipI f)) (m_aug i f me) := by
  intro L R F H σ ê o D hL hE hm hP
  unfold m_aug at hm
  split at hm
  · rename_i a hx
    obtain ⟨v1, a1, fp, k1, k2, k3, k4⟩ := hE.at hx
    cases k2 with
    | fz hz0 =>
      refine ⟨v1, k1, he.runS hL hE hm hP fun w d ex F1 H1 e1 s1 hz hE hm hP => ?_⟩
      obtain ⟨hz, rfl⟩ := hz
      unfold kaug at hm
      split at hm
      · obtain rfl := Option.some.inj hm
        exact ⟨a, _, hz0.toInt, hz.toInt, hP _ H1 F1 (.refl _) (ER.put (.fz (.int _)) hE) (Kp.set hi)⟩
      · cases hm
  · cases hm
theorem st'_id : ∀ {e : En} {i : Nat} {x : X}, gt e i = some x → st' e i (some x) = e
  | [], _, _, h => by cases h
  | o :: r, 0, x, h => by
    have h : o = some x := h
    rw [h]; rfl
  | o :: r, i + 1, x, h => congrArg (o :: ·) (st'_id (e := r) h)
/-- x[j] = e, x a name's own list -/
def ksetL2 (i : Nat) (v : D) (j : D) (e : En) : Option Ot := match gt e i, j with
  | some (.ol ds), .int k => match ixN ds.length k with
    | some n => some (.nx (st' e i (some (.ol (ds.set n v)))))
    | none => none
  | _, _ => none
def ksetL (i : Nat) (mj : OM D) (v : D) (e : En) : Option Ot := bndS (mj e) (ksetL2 i v)
def m_setL (i : Nat) (mj mv : OM D) : SM := fun ê => match gt ê i with | some (.ol _) => bndS (mv ê) (ksetL i mj) | _ => none
theorem setL_S {i : Nat} {tj tv : TE} {mj mv : OM D} (hj : OkD K W Lk tj mj) (hv : OkD K W Lk tv mv) : OkS K W Lk io (tAsg tv (gSub (tVar i) tj rSetL)) (m_setL i mj mv) := by
  intro L R F H σ ê o D hL hE hm hP
  unfold m_setL at hm
  split at hm
  · rename_i ds0 hx0
    obtain ⟨a0, ha0⟩ := hE.slot hx0
    refine hv.runS hL hE hm hP fun v dv ex F1 H1 e1 s1 hz hE hm hP => ?_
    obtain ⟨hz, rfl⟩ := hz
    refine ⟨a0, ha0, hj.runS hL hE hm hP fun y dk ex F2 H2 e2 s2 hy hE hm hP => ?_⟩
    obtain ⟨hy, rfl⟩ := hy
    unfold ksetL2 at hm
    split at hm
    · rename_i ds k hx
      split at hm
      · rename_i n hn
        obtain rfl := Option.some.inj hm
        obtain ⟨v2, a2, fp2, k1, k2, k3, k4⟩ := hE.at hx
        obtain rfl : a0 = v2 := Option.some.inj (Option.some.inj (ha0.symm.trans k1))
        cases k2 with
        | ol t => exact ⟨_, _, k, n, rfl, hy.toInt, (k4.c _ List.mem_cons_self).1, by rw [t.length]; exact hn, hP σ _ F2 (.refl _) (ER.back k3 k1 (.ol (t.set n (hz.mono s2))) k4.write) (.refl _ _)⟩
      · cases hm
    · cases hm
  · cases hm
/-- x.reverse(), x.clear() -/
def m_reverse (i : Nat) : OM X := fun ê => match gt ê i with
  | some (.ol ds) => some (.ok (.fz .non) (st' ê i (some (.ol ds.reverse))))
  | _ => none
theorem FzL.rev {vs : List V} {ds : List D} : FzL K F vs ds → FzL K F vs.reverse ds.reverse
  | .nil => .nil
  | .cons a t => by rw [List.reverse_cons, List.reverse_cons]; exact t.rev.app (.cons a .nil)
theorem reverse_X {i : Nat} : OkX K W Lk (tBM0 K "list" rReverse (tVar i)) (m_reverse i) := by
  intro L R F H σ ê r Q hL hE hm hP
  unfold m_reverse at hm
  split at hm
  · rename_i ds hx
    obtain rfl := Option.some.inj hm
    obtain ⟨v, a, fp, h1, h2, h3, h4⟩ := hE.at hx
    cases h2 with
    | ol t => exact ⟨_, h1, .inl ⟨rfl, _, .of (h4.c _ List.mem_cons_self).1⟩, _, _, rfl, rfl, (h4.c _ List.mem_cons_self).1, hP _ _ F [] (.refl _) (.fz .non) (ER.back h3 h1 (.ol t.rev) h4.write)⟩
  · cases hm
def m_clear (i : Nat) : OM X := fun ê => match gt ê i with
  | some (.ol ds) => some (.ok (.fz .non) (st' ê i (some (.ol []))))
  | _ => none
theorem clear_X {i : Nat} : OkX K W Lk (tBM0 K "list" rClear (tVar i)) (m_clear i) := by
  intro L R F H σ ê r Q hL hE hm hP
  unfold m_clear at hm
  split at hm
  · rename_i ds hx
    obtain rfl := Option.some.inj hm
    obtain ⟨v, a, fp, h1, h2, h3, h4⟩ := hE.at hx
    cases h2 with
    | ol t => exact ⟨_, h1, .inl ⟨rfl, _, .of (h4.c _ List.mem_cons_self).1⟩, _, _, rfl, rfl, (h4.c _ List.mem_cons_self).1, hP _ _ F [] (.refl _) (.fz .non) (ER.back h3 h1 (.ol .nil) h4.write)⟩
  · cases hm
/-- sep.join(texts) -/
def joinG : D → D → Option D
  | .str a, .lst ds => match strsOf ds with
    | some ys => if (ys.map (·.length)).sum + ys.length * a.length ≤ 16777216 then some (.str (Txt.join a ys)) else none
    | none => none
  | _, _ => none
def kon2 {γ : Type} (p : D → Bool) (g : D → D → Option γ) (mb : OM D) (o : D) (e : En) : Option (Rs γ) := match p o with
  | true => bnd (mb e) (un? (g o))
  | false => none
def m_on {γ : Type} (p : D → Bool) (g : D → D → Option γ) (mo mb : OM D) : OM γ := fun ê => bnd (mo ê) (kon2 p g mb)
def isStr : D → Bool | .str _ => true | _ => false
def isLst : D → Bool | .lst _ => true | _ => false
def isTup : D → Bool | .tup _ => true | _ => false
theorem isStr_some {d : D} (h : isStr d = true) : ∃ a, d = .str a := by cases d <;> first | exact ⟨_, rfl⟩ | cases h
theorem isLst_some {d : D} (h : isLst d = true) : ∃ a, d = .lst a := by cases d <;> first | exact ⟨_, rfl⟩ | cases h
theorem isTup_some {d : D} (h : isTup d = true) : ∃ a, d = .tup a := by cases d <;> first | exact ⟨_, rfl⟩ | cases h
theorem on_G {γ δ : Type} {rel : Hp → δ → γ → Cells → Prop} {p : D → Bool} {g : D → D → Option γ} {c : V → Hp → Prop} {rr : V → V → Hp → (δ → Hp → Prop) → Prop} {to te : TE} {mo me : OM D} (ho : OkD K W Lk to mo) (he : OkD K W Lk te me)
    (hc : ∀ v d (F H : Hp), Fz K F v d → Rx F H → p d = true → c v H) (o : Op2 K rel rr g) : OkG K W Lk rel (fun σ H Q => to σ H fun x H1 => c x H1 ∧ te σ H1 fun y H2 => rr x y H2 Q) (m_on p g mo me) := by
  intro L R F H σ ê r Q hL hE hm hP
  refine ho.run hL hE hm hP fun v d ex F1 H1 e1 s1 hz hE hm hP => ?_
  obtain ⟨hz, rfl⟩ := hz
  unfold kon2 at hm
  split at hm
  · rename_i hp
    obtain ⟨fp0, hs0, hh0⟩ := id hE
    refine ⟨hc v d F1 H1 hz hh0.f.rx hp, he.run hL hE hm hP fun v2 d2 ex2 F2 H2 e2 s2 hz2 hE hm hP => ?_⟩
    obtain ⟨hz2, rfl⟩ := hz2
    obtain ⟨b, hb, rfl⟩ := un_some hm
    obtain ⟨fp, hs, hh⟩ := hE
    exact o v v2 d d2 b L F2 R H2 fp Q (hz.mono s2) hz2 hh hb fun c H' F' ex s hr hh' => hP c H' F' ex s hr ⟨fp, hs.rx (.of s), hh'⟩
  · cases hm
theorem join_D {to te : TE} {mo me : OM D} (ho : OkD K W Lk to mo) (he : OkD K W Lk te me) :
    OkD K W Lk (tM1 (fun x xs H Q => ∃ a p, ∃ ys : List Str, x = .str a ∧ xs = [.ref p] ∧ (SqL K H p (ys.map V.str) ∨ SqT K H p (ys.map V.str)) ∧ (ys.map (·.length)).sum + ys.length * a.length ≤ 16777216 ∧ Q (.str (Txt.join a ys)) H) to te) (m_on isStr joinG mo me) := by
  refine on_G (rel := relD K) (c := fun v _ => ∃ a, v = .str a) (rr := fun x y H Q => ∃ a p, ∃ ys : List Str, x = .str a ∧ [y] = [.ref p] ∧ (SqL K H p (ys.map V.str) ∨ SqT K H p (ys.map V.str)) ∧ (ys.map (·.length)).sum + ys.length * a.length ≤ 16777216 ∧ Q (.str (Txt.join a ys)) H) ho he (fun v d F H hz _ hp => ?_) (fun x y dx dy z L F R H fp Q hx hy hh hg q => ?_)
  · obtain ⟨a, rfl⟩ := isStr_some hp
    exact ⟨a, hz.toStr⟩
  · unfold joinG at hg
    split at hg
    · split at hg
      · rename_i ys e
        split at hg
        · rename_i hz
          obtain rfl := Option.some.inj hg
          obtain rfl := strsOf_some e
          cases hy with
          | lst h t => exact ⟨_, _, ys, hx.toStr, rfl, .inl (.of (by rw [← t.toStrs]; exact hh.f.rx.lst _ _ h)), hz, q _ H F [] (.refl _) ⟨.str _, rfl⟩ hh⟩
        · cases hg
      · cases hg
    · cases hg
/-- the first place of what is equal -/
def idxG (ds : List D) (d : D) : Option D := if flatF d = true ∧ ds.all flatF = true then (ds.findIdx? fun y => eqV (toV y) (toV d)).map fun j => .int (j : Nat) else none
def idxL : D → D → Option D
  | .lst ds, d => idxG ds d
  | _, _ => none
theorem idx_some {vs : List V} {ds : List D} {x : V} {d z : D} (h : FzL K F vs ds) (hx : Fz K F x d) (e : idxG ds d = some z) : ∃ j w, flatV x = true ∧ vs.all flatV = true ∧ vs[j]? = some w ∧ eqV w x = true ∧ (∀ m w', m < j → vs[m]? = some w' → eqV w' x = false) ∧ z = .int (j : Nat) := by
  unfold idxG at e
  split at e
  · rename_i hf
    obtain ⟨j, hj, rfl⟩ := Option.map_eq_some_iff.mp e
    obtain ⟨e1, f1⟩ := h.flat hf.2
    obtain ⟨e2, f2⟩ := hx.flat hf.1
    obtain ⟨hlt, h1, h2⟩ := List.findIdx?_eq_some_iff_getElem.mp hj
    refine ⟨j, toV ds[j], f2, f1, ?_, by rw [e2]; exact h1, fun m w' hm hw => ?_, rfl⟩
    · rw [e1, List.getElem?_map, List.getElem?_eq_getElem hlt]; rfl
    · rw [e1, List.getElem?_map, List.getElem?_eq_getElem (Nat.lt_trans hm hlt)] at hw
      obtain rfl := Option.some.inj hw
      rw [e2]
      simpa using h2 m hm
  · cases e
theorem idxL_D {to te : TE} {mo me : OM D} (ho : OkD K W Lk to mo) (he : OkD K W Lk te me) : OkD K W Lk (tBM K "list" (rIndex K) to (tCons te tNil)) (m_on isLst idxL mo me) := by
  refine on_G (rel := relD K) (c := fun v H => tyV K "list" v H) (rr := fun x y H Q => rIndex K x [y] H Q) ho he (fun v d F H hz hr hp => ?_) (fun x y dx dy z L F R H fp Q hx hy hh hg q => ?_)
  · obtain ⟨a, rfl⟩ := isLst_some hp
    cases hz with
    | lst h t => exact .inl ⟨rfl, _, .of (hr.lst _ _ h)⟩
  · unfold idxL at hg
    split at hg
    · cases hx with
      | lst h t =>
        obtain ⟨j, w, a1, a2, a3, a4, a5, rfl⟩ := idx_some t hy hg
        exact ⟨_, _, _, j, w, rfl, rfl, .of (hh.f.rx.lst _ _ h), a1, a2, a3, a4, a5, q _ H F [] (.refl _) ⟨.int _, rfl⟩ hh⟩
    · cases hg
def idxT : D → D → Option D
  | .tup ds, .str s => match strsOf ds with
    | some ys => (ys.findIdx? fun y => y == s).map fun j => .int (j : Nat)
    | none => none
  | _, _ => none
theorem idxT_D {to te : TE} {mo me : OM D} (ho : OkD K W Lk to mo) (he : OkD K W Lk te me) : OkD K W Lk (tBMF (fun x xs H Q => ∃ p, ∃ ys : List Str, ∃ z j, x = .ref p ∧ xs = [.str z] ∧ SqT K H p (ys.map V.str) ∧ ys[j]? = some z ∧ (∀ m, m < j → ys[m]? ≠ some z) ∧ Q (.int (j : Nat)) H) to (tCons te tNil)) (m_on isTup idxT mo me) := by
  refine on_G (rel := relD K) (c := fun x H1 => ∃ a xs, x = .ref a ∧ TupF H1 a xs) (rr := fun x y H Q => ∃ p, ∃ ys : List Str, ∃ z j, x = .ref p ∧ [y] = [.str z] ∧ SqT K H p (ys.map V.str) ∧ ys[j]? = some z ∧ (∀ m, m < j → ys[m]? ≠ some z) ∧ Q (.int (j : Nat)) H) ho he (fun v d F H hz hr hp => ?_) (fun x y dx dy z L F R H fp Q hx hy hh hg q => ?_)
  · obtain ⟨a, rfl⟩ := isTup_some hp
    cases hz with
    | tup h t => exact ⟨_, _, rfl, hr.tpf _ _ h⟩
  · unfold idxT at hg
    split at hg
    · split at hg
      · rename_i s _ ys e
        obtain ⟨j, hj, rfl⟩ := Option.map_eq_some_iff.mp hg
        obtain rfl := strsOf_some e
        obtain ⟨hlt, h1, h2⟩ := List.findIdx?_eq_some_iff_getElem.mp hj
        cases hx with
        | tup h t =>
          refine ⟨_, ys, _, j, rfl, by rw [hy.toStr], by rw [← t.toStrs]; exact (hh.f.rx.tpf _ _ h).sq, ?_, fun m hm hw => ?_, q _ H F [] (.refl _) ⟨.int _, rfl⟩ hh⟩
          · rw [List.getElem?_eq_getElem hlt]
            exact congrArg some (eq_of_beq h1)
          · rw [List.getElem?_eq_getElem (Nat.lt_trans hm hlt)] at hw
            have := h2 m hm
            rw [Option.some.inj hw] at this
            simp at this
      · cases hg
    · cases hg
/-- repr of a list or a tuple -/
def showG (d : D) : Option D := match toP d with
  | some p => if SeqAt.shaped p = true ∧ p.showable = true ∧ p.depth ≤ 60 ∧ p.shown.length ≤ sizeLine then some (.str p.shown) else none
  | none => none
def reprG : D → Option D
  | .lst ds => showG (.lst ds)
  | .tup ds => showG (.tup ds)
  | _ => none
theorem repr_D {t : TE} {m : OM D} (h : OkD K W Lk t m) : OkD K W Lk (tCB (GL.rRepr K) (tCons t tNil)) (m1 reprG m) := by
  refine op1_G (rel := relD K) (rr := fun x H Q => GL.rRepr K [x] H Q) (fun x dx z L F R H fp Q hx hh hg q => ?_) h
  have go : ∀ a, x = .ref a → showG dx = some z → GL.rRepr K [x] H Q := fun a ea hs => by
    unfold showG at hs
    split at hs
    · rename_i p ep
      split at hs
      · rename_i hc
        obtain rfl := Option.some.inj hs
        subst ea
        exact ⟨a, p, rfl, hx.dp hh.f.rx ep, hc.1, hc.2.1, hc.2.2.1, hc.2.2.2, q _ H F [] (.refl _) ⟨.str _, rfl⟩ hh⟩
      · cases hs
    · cases hs
  unfold reprG at hg
  split at hg
  · have hx2 := hx
    cases hx2 with
    | lst h t => exact go _ rfl hg
  · have hx2 := hx
    cases hx2 with
    | tup h t => exact go _ rfl hg
  · cases hg
/-- f(k=e, ..) -/
def kcallK (n : Nat) (mF : List X → Option Rf) (pl : List Nat) (k : Nat) (ds : List D) (e : En) : Option (Rs X) :=
  if ds.length = k then kcall n mF (pl.filterMap fun i => ds[i]?) e else none
def m_callK0 (n : Nat) (mF : List X → Option Rf) (pl : List Nat) (k : Nat) (ma : OM (List D)) : OM X := fun ê => bnd (ma ê) (kcallK n mF pl k)
theorem FzL.byPl {vs : List V} {ds : List D} (h : FzL K F vs ds) : ∀ pl : List Nat, FzL K F (pl.filterMap fun i => vs[i]?) (pl.filterMap fun i => ds[i]?)
  | [] => .nil
  | i :: r => by
    rw [List.filterMap_cons, List.filterMap_cons]
    cases hd : ds[i]? with
    | some d =>
      obtain ⟨v, hv, hz⟩ := h.get hd
      rw [hv]
      exact .cons hz (h.byPl r)
    | none =>
      have : vs[i]? = none := by
        rw [List.getElem?_eq_none_iff] at hd ⊢
        rw [h.length]
        exact hd
      rw [this]
      exact h.byPl r
theorem callK0_X {n k : Nat} {mF : List X → Option Rf} {pl : List Nat} {t : TA} {ma : OM (List D)} (hLk : ∀ L, Lk L → Lk' L) (ha : OkA K W Lk t ma) : OkX K W Lk (rFK k (spF K Lk' n [] mF) (byPl pl) W t) (m_callK0 n mF pl k ma) := by
  intro L R F H σ ê r Q hL hE hm hP
  refine ha.run hL hE hm hP fun vs ds ex F1 H1 e1 s1 hz hE hm hP => ?_
  obtain ⟨hz, rfl⟩ := hz
  unfold kcallK at hm
  split at hm
  · rename_i hk
    refine ⟨by rw [hz.length]; exact hk, ?_⟩
    have h2 := hz.byPl pl
    unfold kcall at hm
    split at hm
    · rename_i hn
      obtain ⟨fp, hs, hh⟩ := hE
      obtain ⟨o1, o2⟩ := Hs.over (a := []) hh
      have hl : (pl.filterMap fun i => vs[i]?).length = n := by rw [h2.length]; exact hn
      split at hm
      · rename_i x hx
        obtain rfl := Option.some.inj hm
        refine ⟨hl, L, _, F1, _, [], _, hLk L hL, XRL.fz h2, o1, hx, fun v H' F' ex fq s hx' hy hh' => ?_⟩
        cases hy
        exact hP v H' F' ex s hx' ⟨fp, hs.rx (.of s), by have := o2 hh'; rwa [List.append_nil] at this⟩
      · rename_i x hx
        obtain rfl := Option.some.inj hm
        refine ⟨hl, L, _, F1, _, [], _, hLk L hL, XRL.fz h2, o1, hx, fun cls d H' F' fq s hx' hy hh' => ?_⟩
        cases hy
        exact hP cls d H' F' s hx' ⟨fp, hs.rx (.of s), o2 hh'⟩
      · cases hm
    · cases hm
  · cases hm
/-- f(e, x), x a name's own list of flat things, that stays its own -/
def kcallB (n : Nat) (mF : List X → Option Rf) (i : Nat) (d : D) (e : En) : Option (Rs X) := match gt e i with
  | some (.ol ds) => if 2 = n ∧ ds.all flatF = true then match mF [.fz d, .fz (.lst ds)] with
    | some (.ok (.ol zs) []) => if zs.all flatF = true then some (.ok (.ol zs) e) else none
    | some (.ok (.fz z) []) => if flatF z = true then some (.ok (.fz z) e) else none
    | _ => none else none
  | _ => none
def m_callB (n : Nat) (mF : List X → Option Rf) (i : Nat) (ma : OM D) : OM X := fun ê => bnd (ma ê) (kcallB n mF i)
theorem FzL.flat_any {vs : List V} {ds : List D} {F0 : Hp} (h : FzL K F0 vs ds) (f : ds.all flatF = true) (F : Hp) : FzL K F vs ds := by
  induction ds generalizing vs with
  | nil => cases h; exact .nil
  | cons d r ih =>
    cases h with
    | cons a t =>
      rw [List.all_cons, Bool.and_eq_true] at f
      exact .cons (GD.flat_any a f.1 F) (ih t f.2)
theorem Sub.trans_same {F F2 H2 : Hp} (s : L2.Same F F2) (h : Sub L F2 H2) : Sub L F H2 := fun b o e => h b o (s _ _ e)
theorem callB_X {n i : Nat} {mF : List X → Option Rf} {ta : TE} {ma : OM D} (hLk : ∀ L, Lk L → Lk' L) (ha : OkD K W Lk ta ma) : OkX K W Lk (rF (spF K Lk' n [] mF) W (tCons ta (tCons (tVar i) tNil))) (m_callB n mF i ma) := by
  intro L R F H σ ê r Q hL hE hm hP
  refine ha.run hL hE hm hP fun v d ex F1 H1 e1 s1 hz hE2 hm2 hP2 => ?_
  obtain ⟨hz, rfl⟩ := hz
  unfold kcallB at hm2
  split at hm2
  · rename_i ds hx
    split at hm2
    · rename_i hn
      obtain ⟨hn, hf⟩ := hn
      subst hn
      obtain ⟨v0, a, fp, k1, k2, k3, k4⟩ := hE2.at hx
      refine ⟨v0, k1, ?_⟩
      cases k2 with
      | @ol p vs _ t =>
        have f1 : Fr F1 [(p, .lst vs)] := k4.fr.left
        have sF : L2.Same F1 (plus [(p, .lst vs)] F1) := f1.same
        have hz2 : FzL K (plus [(p, .lst vs)] F1) [v, .ref p] [d, .lst ds] := .cons (hz.mono sF) (.cons (.lst upd_same (t.mono sF)) .nil)
        have kf : Hs L (plus [(p, .lst vs)] F1) R fp H1 := k4.freeze
        obtain ⟨o1, o2⟩ := Hs.over (a := []) kf
        have pF : plus [(p, .lst vs)] F1 p = some (.lst vs) := upd_same
        -- behind the call: the cell is its own again
        have back : ∀ {F' H' : Hp} {ex : Cells}, L2.Same (plus [(p, .lst vs)] F1) F' → Hs L F' (plus fp R) ex H' → Hs L F1 R (ex ++ ((p, .lst vs) :: fp)) H' := fun {F' H' ex} s hh' => by
          have h1 := o2 hh'
          have hp : F' p = some (.lst vs) := s _ _ pF
          refine ⟨Sub.trans_same (sF.trans s) h1.f, h1.r, k4.d, fun q hq => ?_, ?_⟩
          · rcases List.mem_append.mp hq with hq | hq
            · obtain ⟨a1, a2, a3⟩ := h1.c q (List.mem_append_left _ hq)
              refine ⟨a1, ?_, a3⟩
              cases e : F1 q.1 with
              | none => rfl
              | some o => rw [s _ _ (sF _ _ e)] at a2; cases a2
            · rcases List.mem_cons.mp hq with rfl | hq
              · exact ⟨h1.f.rx.lst _ _ hp, (k4.c _ List.mem_cons_self).2⟩
              · obtain ⟨a1, a2, a3⟩ := h1.c q (List.mem_append_right _ hq)
                exact ⟨a1, (k4.c q (List.mem_cons_of_mem _ hq)).2.1, a3⟩
          · have n1 := h1.n
            rw [List.map_append] at n1 ⊢
            obtain ⟨b1, b2, b3⟩ := List.nodup_append.mp n1
            refine List.nodup_append.mpr ⟨b1, k4.n, fun x hx y hy e => ?_⟩
            rcases List.mem_cons.mp hy with hy | hy
            · obtain ⟨q, hq, rfl⟩ := List.mem_map.mp hx
              have : y = p := hy
              rw [this] at e
              have a2 := (h1.c q (List.mem_append_left _ hq)).2.1
              rw [e, hp] at a2
              cases a2
            · exact b3 x hx y hy e
        split at hm2
        · rename_i zs hres
          split at hm2
          · rename_i hzf
            obtain rfl := Option.some.inj hm2
            refine ⟨rfl, L, _, _, _, [], _, hLk L hL, XRL.fz hz2, o1, hres, fun w H' F' ex fq s hx' hy hh' => ?_⟩
            cases hy
            rw [List.append_nil] at hh'
            have hb := back s hh'
            obtain ⟨c, j1, j2⟩ := SR.back (XR.ol t) _ _ _ _ k3 k1
            have hx2 : XR K F1 w (.ol zs) ex := by
              cases hx' with
              | ol tz => exact .ol (tz.flat_any hzf F1)
            refine hP2 w H' F1 ex (.refl _) hx2 ⟨c, ?_, hb.perm ((List.Perm.refl ex).append j2.symm)⟩
            have : st' e1 i (some (.ol ds)) = e1 := st'_id hx
            rw [← this]
            exact j1
          · cases hm2
        · rename_i z hres
          split at hm2
          · rename_i hzf
            obtain rfl := Option.some.inj hm2
            refine ⟨rfl, L, _, _, _, [], _, hLk L hL, XRL.fz hz2, o1, hres, fun w H' F' ex fq s hx' hy hh' => ?_⟩
            cases hy
            rw [List.append_nil] at hh'
            have hb := back s hh'
            obtain ⟨c, j1, j2⟩ := SR.back (XR.ol t) _ _ _ _ k3 k1
            cases hx' with
            | fz hzz =>
              refine hP2 w H' F1 [] (.refl _) (.fz (GD.flat_any hzz hzf F1)) ⟨c, ?_, hb.perm ((List.Perm.refl []).append j2.symm)⟩
              have : st' e1 i (some (.ol ds)) = e1 := st'_id hx
              rw [← this]
              exact j1
          · cases hm2
        · cases hm2
    · cases hm2
  · cases hm2
end
end GD
/-! own data layer: dict comprehensions, two readings of one text, dict(pairs), calls with keywords -/
namespace GF
open PySem PySem.Spec PyProof.Rows L2
section
variable {X : Cx} {W : WX} {k n : Nat} {f C : Addr} {fd : FuncData} {ps ks : List Str} {sp : Sp} {gl : List Value → List Value → List Value} {gV : List V → List V → List V} {x m : Str} {p pos apos : Pos} {e o : Expr} {es : List Expr} {kws : List Keyword} {ta : TE} {t tk' : TA}
def rFN (n m : Nat) (sp : Sp) (gV : List V → List V → List V) (W : WX) (t tk : TA) : TE := fun σ G Q => t σ G fun ys G1 => tk σ G1 fun zs G2 => ys.length = n ∧ zs.length = m ∧ sp (gV ys zs) G2 Q (WE W σ)
/-- f(e, .., k=e, ..) -/
theorem pf_callN (g : FG X.prog X.w X.K X.mg X.base k f fd ps sp) (r : Room k X.A) (c : Calm X.A) (hx : Gl X x) (hm : X.mg x = some (.ref f)) (kp : PySem.W.keepIn X.K (.ref f) = true) (b : KBn X.K fd ps n ks gl gV) (tk : Takes X W) (ha : PA X (e :: es) t) (hk : PK X kws tk')
    (h1 : (backToKw pos (keywordEach kws X.env)).all (·.1.isSome) = true := by rfl) (h2 : (backToKw pos (keywordEach kws X.env)).filterMap (·.1) = ks := by rfl) (hd : (x == ("__debug__" : Str)) = false := by decide)
    (h4 : starEach (e :: es) X.env = (false, eval e X.env) :: starEach es X.env := by rfl)
    (h3 : ((backTo pos (starEach (e :: es) X.env)).any (·.1) || (backToKw pos (keywordEach kws X.env)).any (·.1.isNone)) = false := by rfl) : PE X (.Call (.Name x p) (e :: es) kws pos) (rFN n ks.length sp gV W t tk') := by
  constructor
  intro pins z σ G Q I q
  refine wpAny_Call_Name_kw (ld_glob I hx hm (PySem.W.callWith_KW (h₀ := X.base) I.ok.mod.kin kp h1 (thn (ha.run pos pins z σ G _ I q) ?_) h3 h4) hd)
  rintro us z1 ⟨ys, G1, I1, ry, q1⟩
  refine thn (hk.run pos pins z1 σ G1 _ I1 q1) ?_
  rintro ws z2 ⟨zs, G2, I2, rz, l1, l2, q2⟩
  refine ⟨I2.kIn, ?_⟩
  rw [h2]
  exact fg_runK g r c b tk I2 ry rz l1 l2 q2
end
end GF
namespace GD
open PySem PySem.Spec PyProof.Rows L2 GF
section
variable {K : PySem.W.Frag} {W : WX} {Lk Lk' : List Addr → Prop} {L : List Addr} {F F' R H H' : Hp} {io : List Nat}
/-- two readings of one text; which one is told by the i-th name -/
theorem pss_or {X : Cx} {st : List Stmt} {t u : TS} (a : PSs X st t) (b : PSs X st u) : PSs X st (fun D σ G => t D σ G ∨ u D σ G) := ⟨fun pins s σ G D I q => q.elim (a.run pins s σ G D I) (b.run pins s σ G D I)⟩
def isTupX : Option X → Bool
  | some (.fz (.tup _)) => true
  | _ => false
def m_or (i : Nat) (a b : SM) : SM := fun ê => match isTupX (gt ê i) with | true => b ê | false => a ê
theorem or_S {i : Nat} {t u : TS} {a b : SM} (ha : OkS K W Lk io t a) (hb : OkS K W Lk io u b) : OkS K W Lk io (fun D σ G => t D σ G ∨ u D σ G) (m_or i a b) := by
  intro L R F H σ ê o D hL hE hm hP
  unfold m_or at hm
  split at hm
  · exact .inr (hb L R F H σ ê o D hL hE hm hP)
  · exact .inl (ha L R F H σ ê o D hL hE hm hP)
/-- {k: v for ..} -/
def dcT (mg : X → En → Option En) (mt : OM Bool) (mk mv : OM D) (d : D) (e : En) : Option (Option (Key × D) × En) :=
  match mg (.fz d) e with
  | none => none
  | some e1 => match mt e1 with
    | some (.ok true e2) => match mk e2 with
      | some (.ok y e3) => match toK y, mv e3 with
        | some k, some (.ok z e4) => some (some (k, z), e4)
        | _, _ => none
      | _ => none
    | some (.ok false e2) => some (none, e2)
    | _ => none
def dcL (mg : X → En → Option En) (mt : OM Bool) (mk mv : OM D) (vs : List Nat) : List D → List (Key × D) → En → Option (Rs X)
  | [], acc, e => some (.ok (.od acc) e)
  | d :: r, acc, e => match dcT mg mt mk mv d e with
    | some (some (k, y), e1) => if acc.length < sizeLine then dcL mg mt mk mv vs r (putG acc k y) (wpE e1 vs) else none
    | some (none, e1) => dcL mg mt mk mv vs r acc (wpE e1 vs)
    | none => none
def m_dc (mi : OM (List D)) (mg : X → En → Option En) (mt : OM Bool) (mk mv : OM D) (vs : List Nat) : OM X := fun ê => bnd (mi ê) fun ds e => dcL mg mt mk mv vs ds [] (wpE e vs)
/-- a dict's comprehension, turn by turn -/
theorem turns_dc {J : It} {n : Nat} {G : Hp → Prop} {Y : Nat → Hp → V → Hp → Prop} (w : Walk J n G Y) {g : TG} {tt : TT} {tk tv : TE} {vs : List Nat} {σ : L2.St} {H1 : Hp} {D : Addr} {Z : Hp → Prop} (Pv : Nat → Hp → Prop) (h0 : Pv 0 (upd H1 D (.dK []))) (hG : ∀ i H, i ≤ n → Pv i H → G H)
    (hs : ∀ i x H H', i < n → Pv i H → Y i H x H' → g x (L2.wipe σ vs) H' fun σ2 H2 => L2.wipe σ2 vs = L2.wipe σ vs ∧ tt σ2 H2 fun b H3 =>
      if b = true then tk σ2 H3 fun y H4 => tv σ2 H4 fun z H5 => ∃ kvs k, y = kV k ∧ H5 D = some (.dK kvs) ∧ kvs.length < sizeLine ∧ Pv (i + 1) (upd H5 D (.dK (putK kvs k z))) else Pv (i + 1) H3) (hd : ∀ H, Pv n H → Z H) :
    ∃ W : Nat → Nat → Hp → Prop, (∃ m, W 0 m (upd H1 D (.dK []))) ∧ ∀ i m H, W i m H →
      (J.stop i H ∧ Z H) ∨ (J.go i H ∧ ∃ Nx : Hp → Prop, (∀ H', Nx H' → ∃ m', m' < m ∧ W (i + 1) m' H') ∧ ∀ x H', J.yld i H x H' → g x (L2.wipe σ vs) H' fun σ2 H2 => L2.wipe σ2 vs = L2.wipe σ vs ∧ tt σ2 H2 fun b H3 =>
        if b = true then tk σ2 H3 fun y H4 => tv σ2 H4 fun z H5 => ∃ kvs k, y = kV k ∧ H5 D = some (.dK kvs) ∧ kvs.length < sizeLine ∧ Nx (upd H5 D (.dK (putK kvs k z))) else Nx H3) := by
  refine ⟨fun i m H => i + m = n ∧ Pv i H, ⟨n, Nat.zero_add n, h0⟩, fun i m H ⟨e, p⟩ => ?_⟩
  cases m with
  | zero =>
    obtain rfl : i = n := e
    exact .inl ⟨w.stops H (hG i H (Nat.le_refl _) p), hd H p⟩
  | succ m =>
    have hl : i < n := by omega
    have q := hG i H (Nat.le_of_lt hl) p
    exact .inr ⟨w.goes i H hl q, Pv (i + 1), fun H' p' => ⟨m, Nat.lt_succ_self _, by omega, p'⟩, fun x H' y => hs i x H H' hl p (w.yields i H x H' hl q y)⟩
theorem dc_X {ts vs : List Nat} {wi : TI} {g : TG} {tt : TT} {tk tv : TE} {mi : OM (List D)} {mg : X → En → Option En} {mt : OM Bool} {mk mv : OM D} (hi : OkI K W Lk wi mi) (hg : OkTg K ts g mg) (ht : OkT K W0 Lk tt mt) (hk : OkD K W0 Lk tk mk) (hv : OkD K W0 Lk tv mv) (hts : ∀ j ∈ ts, j ∈ vs) :
    OkX K W Lk (tDc wi g tt tk tv vs) (m_dc mi mg mt mk mv vs) := by
  intro L R F H σ ê r Q hL hE hm hP
  refine hi.run hL hE hm hP fun J ds ex F1 H1 e1 s1 hx hE hm hP D nD => ?_
  obtain ⟨⟨w⟩, rfl⟩ := hx
  obtain ⟨fp, hs, hh⟩ := hE
  obtain ⟨fq, hs1, hsub⟩ := hs.wipe vs
  have hh1 := (hh.sub hsub).new (o := .dK []) nD
  refine turns_dc w (fun i H' => ∃ F' e' va acc fp', L2.Same F1 F' ∧ (va.map (·.1) = acc.map (·.1) ∧ FzL K F' (va.map (·.2)) (acc.map (·.2))) ∧ SR K F' (L2.wipe σ vs) e' fp' ∧ Hs L F' R ((D, .dK va) :: fp') H' ∧ dcL mg mt mk mv vs (ds.drop i) acc e' = some r) ⟨F1, _, [], [], fq, .refl _, ⟨rfl, .nil⟩, hs1, hh1, hm⟩ (fun i H' _ h => ?_) (fun i x H' H2 hlt h hy => ?_) (fun H' h => ?_)
  · obtain ⟨F', e', va, acc, fp', s, _, _, b, _⟩ := h
    exact ⟨L, b.f.sameL s⟩
  · obtain ⟨F', e', va, acc, fp', s, hacc, hsr, b, hm⟩ := h
    obtain ⟨d, hd, hy⟩ := hy
    obtain ⟨F2, s2, h2, hz⟩ := hy L F' R _ s b
    have hdr : ds.drop i = d :: ds.drop (i + 1) := by
      obtain ⟨h1, h2⟩ := List.getElem?_eq_some_iff.mp hd
      rw [← h2, List.getElem_cons_drop]
    rw [hdr] at hm
    unfold dcL at hm
    have hR : R D = none := (h2.c (D, .dK va) List.mem_cons_self).2.2
    have h2g : Hs L F2 (plus [(D, .dK va)] R) fp' H2 := Hs.give (fp := [(D, .dK va)]) h2
    have back : ∀ {F3 H3 : Hp} {fq : Cells}, Hs L F3 (plus [(D, .dK va)] R) fq H3 → Hs L F3 R ((D, .dK va) :: fq) H3 := fun h3 => Hs.take (fp := [(D, .dK va)]) (by simp) (fun p hp => by rw [List.mem_singleton.mp hp]; exact hR) h3
    cases hT : dcT mg mt mk mv d e' with
    | none => rw [hT] at hm; cases hm
    | some pr =>
      rw [hT] at hm
      unfold dcT at hT
      split at hT
      · cases hT
      · rename_i ea hea
        refine hg L (plus [(D, .dK va)] R) F2 H2 (L2.wipe σ vs) e' ea x _ [] _ (.fz hz) ⟨fp', hsr.rx (.of s2), h2g⟩ hea fun σ2 F3 s3 hE3 c3 => ?_
        have hw := c3.wipe hts
        refine ⟨hw, ?_⟩
        have fin : ∀ {F4 H4 : Hp} {e4 : En}, L2.Same F3 F4 → ER K L (plus [(D, .dK va)] R) F4 H4 [] σ2 e4 → ∃ fp4, SR K F4 (L2.wipe σ vs) (wpE e4 vs) fp4 ∧ Hs L F4 R ((D, .dK va) :: fp4) H4 := fun s4 hE4 => by
          obtain ⟨fp4, a4, b4⟩ := hE4
          obtain ⟨fq4, c4, d4⟩ := a4.wipe vs
          rw [hw] at c4
          exact ⟨fq4, c4, back (b4.sub d4)⟩
        have s13 := (s.trans s2).trans s3
        split at hT
        · rename_i e2 h2t
          split at hT
          · rename_i y e3 h3t
            split at hT
            · rename_i k z e4 hky h4t
              obtain rfl := Option.some.inj hT
              simp only at hm
              split at hm
              · rename_i hlen
                refine ht L _ F3 H2 σ2 ea _ _ hL hE3 h2t fun b0 H4 F4 ex4 s4 hb hE4 => ?_
                obtain ⟨rfl, rfl⟩ := hb
                refine iteT (hk L _ F4 H4 σ2 e2 _ _ hL hE4 h3t fun v5 H5 F5 ex5 s5 hv5 hE5 => ?_)
                obtain ⟨hv5, rfl⟩ := hv5
                refine hv L _ F5 H5 σ2 e3 _ _ hL hE5 h4t fun v6 H6 F6 ex6 s6 hv6 hE6 => ?_
                obtain ⟨hv6, rfl⟩ := hv6
                obtain ⟨fp5, a5, b5⟩ := fin ((s4.trans s5).trans s6) hE6
                have sall := ((s13.trans s4).trans s5).trans s6
                obtain ⟨r1, r2⟩ := put_rel (k := k) hv6 hacc.1 (hacc.2.mono ((s2.trans s3).trans ((s4.trans s5).trans s6)))
                refine ⟨va, k, toK_some hky hv5, (b5.c (D, .dK va) List.mem_cons_self).1, by rw [keys_len hacc.1]; exact hlen, F6, wpE e4 vs, putK va k v6, putG acc k z, fp5, sall, ⟨r1, r2⟩, a5, b5.write, hm⟩
              · cases hm
            · cases hT
          · cases hT
        · rename_i e2 h2t
          obtain rfl := Option.some.inj hT
          simp only at hm
          refine ht L _ F3 H2 σ2 ea _ _ hL hE3 h2t fun b0 H4 F4 ex4 s4 hb hE4 => ?_
          obtain ⟨rfl, rfl⟩ := hb
          refine iteF ?_
          obtain ⟨fp4, a4, b4⟩ := fin s4 hE4
          exact ⟨F4, wpE e2 vs, va, acc, fp4, s13.trans s4, ⟨hacc.1, hacc.2.mono ((s2.trans s3).trans s4)⟩, a4, b4, hm⟩
        · cases hT
  · obtain ⟨F', e', va, acc, fp', s, hacc, hsr, b, hm⟩ := h
    rw [List.drop_length] at hm
    obtain rfl := Option.some.inj hm
    exact hP (.ref D) H' F' [(D, .dK va)] s (.od hacc.1 hacc.2) ⟨fp', hsr.unwipe vs, b⟩
/-- xs * n -/
theorem FzL.rep {vs : List V} {ds : List D} (h : FzL K F vs ds) : ∀ n : Nat, FzL K F (List.replicate n vs).flatten (List.replicate n ds).flatten
  | 0 => .nil
  | n + 1 => by
    rw [List.replicate_succ, List.replicate_succ, List.flatten_cons, List.flatten_cons]
    exact h.app (h.rep n)
/-- f(e, .., k=e, ..) -/
def kcallN (n : Nat) (mF : List X → Option Rf) (gD : List D → List D → List D) (a b : Nat) (ds es : List D) (e : En) : Option (Rs X) :=
  if ds.length = a ∧ es.length = b then kcall n mF (gD ds es) e else none
def kcallN1 (n : Nat) (mF : List X → Option Rf) (gD : List D → List D → List D) (a b : Nat) (mk : OM (List D)) (ds : List D) (e : En) : Option (Rs X) := bnd (mk e) (kcallN n mF gD a b ds)
def m_callN (n : Nat) (mF : List X → Option Rf) (gD : List D → List D → List D) (a b : Nat) (ma mk : OM (List D)) : OM X := fun ê => bnd (ma ê) (kcallN1 n mF gD a b mk)
theorem callN_X {n a b : Nat} {mF : List X → Option Rf} {gD : List D → List D → List D} {gV : List V → List V → List V} {t u : TA} {ma mk : OM (List D)} (hgV : ∀ {F : Hp} {vs zs : List V} {ds es : List D}, vs.length = a → zs.length = b → FzL K F vs ds → FzL K F zs es → FzL K F (gV vs zs) (gD ds es)) (hLk : ∀ L, Lk L → Lk' L) (ha : OkA K W Lk t ma) (hk : OkA K W Lk u mk) :
    OkX K W Lk (rFN a b (spF K Lk' n [] mF) gV W t u) (m_callN n mF gD a b ma mk) := by
  intro L R F H σ ê r Q hL hE hm hP
  refine ha.run hL hE hm hP fun vs ds ex F1 H1 e1 s1 hz hE1 hm1 hP1 => ?_
  obtain ⟨hz, rfl⟩ := hz
  refine hk.run hL hE1 hm1 hP1 fun zs es ex2 F2 H2 e2 s2 hz2 hE2 hm2 hP2 => ?_
  obtain ⟨hz2, rfl⟩ := hz2
  unfold kcallN at hm2
  split at hm2
  · rename_i hab
    have la : vs.length = a := by rw [hz.length]; exact hab.1
    have lb : zs.length = b := by rw [hz2.length]; exact hab.2
    refine ⟨la, lb, ?_⟩
    have h2 := hgV la lb (hz.mono s2) hz2
    unfold kcall at hm2
    split at hm2
    · rename_i hn
      obtain ⟨fp, hs, hh⟩ := hE2
      obtain ⟨o1, o2⟩ := Hs.over (a := []) hh
      have hl : (gV vs zs).length = n := by rw [h2.length]; exact hn
      split at hm2
      · rename_i x hx
        obtain rfl := Option.some.inj hm2
        refine ⟨hl, L, _, F2, _, [], _, hLk L hL, XRL.fz h2, o1, hx, fun v H' F' ex fq s hx' hy hh' => ?_⟩
        cases hy
        exact hP2 v H' F' ex s hx' ⟨fp, hs.rx (.of s), by have := o2 hh'; rwa [List.append_nil] at this⟩
      · rename_i x hx
        obtain rfl := Option.some.inj hm2
        refine ⟨hl, L, _, F2, _, [], _, hLk L hL, XRL.fz h2, o1, hx, fun cls d H' F' fq s hx' hy hh' => ?_⟩
        cases hy
        exact hP2 cls d H' F' s hx' ⟨fp, hs.rx (.of s), o2 hh'⟩
      · cases hm2
    · cases hm2
  · cases hm2
/-- dict(pairs) -/
def pairK : D → Option (Key × D)
  | .tup [k, v] => (toK k).map fun k => (k, v)
  | .tuw [k, v] => (toK k).map fun k => (k, v)
  | _ => none
def pairsK : List D → Option (List (Key × D))
  | [] => some []
  | d :: r => match pairK d, pairsK r with
    | some p, some ps => some (p :: ps)
    | _, _ => none
def mergeG (kds more : List (Key × D)) : List (Key × D) := more.foldl (fun acc kv => putG acc kv.1 kv.2) kds
def dictPG : D → Option X
  | .lst ds => (pairsK ds).map fun ps => .od (mergeG [] ps)
  | _ => none
theorem merge_rel : ∀ {more : List (Key × V)} {mds : List (Key × D)} {kvs : List (Key × V)} {kds : List (Key × D)}, more.map (·.1) = mds.map (·.1) → FzL K F (more.map (·.2)) (mds.map (·.2)) → kvs.map (·.1) = kds.map (·.1) → FzL K F (kvs.map (·.2)) (kds.map (·.2)) →
    (mergeK kvs more).map (·.1) = (mergeG kds mds).map (·.1) ∧ FzL K F ((mergeK kvs more).map (·.2)) ((mergeG kds mds).map (·.2))
  | [], [], _, _, _, _, e, h => ⟨e, h⟩
  | [], _ :: _, _, _, e, _, _, _ => nomatch e
  | _ :: _, [], _, _, e, _, _, _ => nomatch e
  | (p1, p2) :: r, (q1, q2) :: s, kvs, kds, e, h, e2, h2 => by
    obtain ⟨a, b⟩ := List.cons.inj e
    obtain rfl : p1 = q1 := a
    cases h with
    | cons h1 t1 =>
      obtain ⟨r1, r2⟩ := put_rel (k := p1) h1 e2 h2
      exact merge_rel (kvs := putK kvs p1 p2) (kds := putG kds p1 q2) b t1 r1 r2
theorem pairs_rel {H : Hp} (s : Rx F H) : ∀ {vs : List V} {ds : List D} {ps : List (Key × D)}, FzL K F vs ds → pairsK ds = some ps → ∃ (as : List Addr) (kvs : List (Key × V)), vs = as.map V.ref ∧ Paired (fun p kv => SqT K H p [kV kv.1, kv.2]) as kvs ∧ kvs.map (·.1) = ps.map (·.1) ∧ FzL K F (kvs.map (·.2)) (ps.map (·.2))
  | _, _, ps, .nil, e => by
    obtain rfl := Option.some.inj e
    exact ⟨[], [], rfl, .nil, rfl, .nil⟩
  | _, _, ps, .cons (v := v) (d := d) h t, e => by
    unfold pairsK at e
    split at e
    · rename_i p qs ep eq
      obtain rfl := Option.some.inj e
      obtain ⟨as, kvs, rfl, h1, h2, h3⟩ := pairs_rel s t eq
      have fin : ∀ (a : Addr) (vs : List V) (x y : D), v = .ref a → SqT K H a vs → FzL K F vs [x, y] → (toK x).map (fun k => (k, y)) = some p → ∃ (as' : List Addr) (kvs' : List (Key × V)), v :: as.map V.ref = as'.map V.ref ∧ Paired (fun p kv => SqT K H p [kV kv.1, kv.2]) as' kvs' ∧ kvs'.map (·.1) = (p :: qs).map (·.1) ∧ FzL K F (kvs'.map (·.2)) ((p :: qs).map (·.2)) := fun a vs x y ev hs hl hk => by
        obtain ⟨k, ek, rfl⟩ := Option.map_eq_some_iff.mp hk
        cases hl with
        | cons g1 g2 =>
          cases g2 with
          | cons g2 g3 =>
            cases g3
            rename_i u1 u2
            have := toK_some ek g1
            subst this
            exact ⟨a :: as, (k, u2) :: kvs, by rw [ev]; rfl, .cons hs h1, congrArg (k :: ·) h2, .cons g2 h3⟩
      unfold pairK at ep
      split at ep
      · cases h with
        | tup hf hl => exact fin _ _ _ _ rfl (s.tpf _ _ hf).sq hl ep
      · cases h with
        | tuw hf hl => exact fin _ _ _ _ rfl (s.sqT hf) hl ep
      · cases ep
    · cases e
theorem dictP_X {t : TE} {m : OM D} (h : OkD K W Lk t m) : OkX K W Lk (tCB (fun xs H Q => ∃ (a : Addr) (ps : List Addr) (kvs : List (Key × V)), xs = [.ref a] ∧ SqL K H a (ps.map V.ref) ∧ Paired (fun p kv => SqT K H p [kV kv.1, kv.2]) ps kvs ∧ ∀ p, H p = none → Q (.ref p) (upd H p (.dK (mergeK [] kvs)))) (tCons t tNil)) (m1 dictPG m) := by
  refine op1_G (rel := relX K) (rr := fun x H Q => ∃ (a : Addr) (ps : List Addr) (kvs : List (Key × V)), [x] = [.ref a] ∧ SqL K H a (ps.map V.ref) ∧ Paired (fun p kv => SqT K H p [kV kv.1, kv.2]) ps kvs ∧ ∀ p, H p = none → Q (.ref p) (upd H p (.dK (mergeK [] kvs)))) (fun x dx z L F R H fp Q hx hh hg q => ?_) h
  unfold dictPG at hg
  split at hg
  · obtain ⟨ps, e, rfl⟩ := Option.map_eq_some_iff.mp hg
    cases hx with
    | lst h t =>
      obtain ⟨as, kvs, rfl, h1, h2, h3⟩ := pairs_rel hh.f.rx t e
      obtain ⟨r1, r2⟩ := merge_rel (kvs := []) (kds := []) h2 h3 rfl .nil
      exact ⟨_, as, kvs, rfl, .of (hh.f.rx.lst _ _ h), h1, fun p np => q _ _ F _ (.refl _) (.od r1 r2) (hh.new np)⟩
  · cases hg
end
end GD
/-! own data layer: list * int, several values that are one's own, three names at once, the draws' state -/
namespace GD
open PySem PySem.Spec PyProof.Rows L2 GF
section
variable {K : PySem.W.Frag} {W : WX} {Lk Lk' : List Addr → Prop} {L : List Addr} {F F' R H H' : Hp} {io : List Nat}
theorem o_repL : Op2 K (relX K) rRep repL := by
  intro x y dx dy z L F R H fp Q hx hy hh hg q
  unfold repL at hg
  split at hg
  · split at hg
    · rename_i hz
      obtain rfl := Option.some.inj hg
      cases hx with
      | lst h t =>
        have := hy.toInt
        subst this
        exact ⟨_, _, _, rfl, rfl, hh.f.rx.lst _ _ h, hz.1, hz.2.1, by rw [t.length]; exact hz.2.2, fun p np => q _ _ F _ (.refl _) (.ol (t.rep _)) (hh.new np)⟩
    · cases hg
  · cases hg
def relXs (K : PySem.W.Frag) : Hp → List V → List X → Cells → Prop := fun F vs xs ex => XRL K F vs xs ex
def kXs2 (x : X) (xs : List X) (e : En) : Option (Rs (List X)) := some (.ok (x :: xs) e)
def kXs (mr : OM (List X)) (x : X) (e : En) : Option (Rs (List X)) := bnd (mr e) (kXs2 x)
def m_consX (ma : OM X) (mr : OM (List X)) : OM (List X) := fun ê => bnd (ma ê) (kXs mr)
def m_nilX : OM (List X) := fun ê => some (.ok [] ê)
theorem nil_Xs : OkG K W Lk (relXs K) tNil m_nilX := by
  intro L R F H σ ê r Q hL hE hm hP
  obtain rfl := Option.some.inj hm
  exact hP [] H F [] (.refl _) .nil hE
theorem cons_Xs {ta : TE} {tr : TA} {ma : OM X} {mr : OM (List X)} (ha : OkX K W Lk ta ma) (hr : OkG K W Lk (relXs K) tr mr) : OkG K W Lk (relXs K) (tCons ta tr) (m_consX ma mr) := by
  intro L R F H σ ê r Q hL hE hm hP
  refine ha.run hL hE hm hP fun v x ex F1 H1 e1 s1 hx hE1 hm1 hP1 => ?_
  obtain ⟨fp, hs, hh⟩ := hE1
  have hgv := hh.give
  have nd := hh.nodup
  have nR : ∀ p ∈ ex, R p.1 = none := fun p hp => hh.notR p (List.mem_append_left _ hp)
  unfold kXs at hm1
  cases h2 : mr e1 with
  | none => rw [h2] at hm1; cases hm1
  | some r2 =>
    cases r2 with
    | ex y e =>
      rw [h2] at hm1
      obtain rfl := Option.some.inj hm1
      refine hr L (plus ex R) F1 H1 σ e1 _ _ hL ⟨fp, hs, hgv⟩ h2 fun cls d H' F' s hx' hE' => ?_
      obtain ⟨fq, a, b⟩ := hE'
      exact hP1 cls d H' F' s hx' ⟨fq, a, (Hs.take nd nR b).sub (List.sublist_append_right _ _)⟩
    | ok ys e =>
      rw [h2] at hm1
      obtain rfl := Option.some.inj hm1
      refine hr L (plus ex R) F1 H1 σ e1 _ _ hL ⟨fp, hs, hgv⟩ h2 fun ws H2 F2 ex2 s2 hy hE2 => ?_
      obtain ⟨fq, a, b⟩ := hE2
      have b2 : Hs L F2 R (ex ++ (ex2 ++ fq)) H2 := Hs.take nd nR b
      exact hP1 _ H2 F2 (ex ++ ex2) s2 (.cons (hx.rx (.of s2)) hy) ⟨fq, a, by rw [List.append_assoc]; exact b2⟩
/-- the first of the values apart goes into its slot -/
theorem ER.putL {R F H : Hp} {ex ex2 : Cells} {σ : L2.St} {e : En} {i : Nat} {v : V} {x : X} (hx : XR K F v x ex) (h : ER K L R F H (ex ++ ex2) σ e) : ER K L R F H ex2 (σ.set i (some v)) (st' e i (some x)) := by
  obtain ⟨fq, a, b⟩ := h
  have c1 : Hs L F R (ex2 ++ (ex ++ fq)) H := b.perm (by
    rw [← List.append_assoc]
    exact List.perm_append_comm.append_right fq)
  have nd2 := c1.nodup
  have nR2 : ∀ p ∈ ex2, R p.1 = none := fun p hp => c1.notR p (List.mem_append_left _ hp)
  obtain ⟨fr, a3, b3⟩ : ER K L (plus ex2 R) F H [] (σ.set i (some v)) (st' e i (some x)) := ER.put hx ⟨fq, a, c1.give⟩
  exact ⟨fr, a3, Hs.take nd2 nR2 b3⟩
def kpar3 (i j l : Nat) (xs : List X) (e : En) : Option Ot := match xs with
  | [x, y, z] => some (.nx (st' (st' (st' e i (some x)) j (some y)) l (some z)))
  | _ => none
def m_par3 (i j l : Nat) (ma mb mc : OM X) : SM := fun ê => bndS (m_consX ma (m_consX mb (m_consX mc m_nilX)) ê) (kpar3 i j l)
theorem par3_S {i j l : Nat} (hi : i ∉ io) (hj : j ∉ io) (hl : l ∉ io) {ta tb tc : TE} {ma mb mc : OM X} (ha : OkX K W Lk ta ma) (hb : OkX K W Lk tb mb) (hc : OkX K W Lk tc mc) :
    OkS K W Lk io (tPar3 i j l (tCons ta (tCons tb (tCons tc tNil)))) (m_par3 i j l ma mb mc) := by
  intro L R F H σ ê o D hL hE hm hP
  refine (cons_Xs ha (cons_Xs hb (cons_Xs hc nil_Xs))).runS hL hE hm hP fun vs xs ex F1 H1 e1 s1 hx hE1 hm1 hP1 => ?_
  unfold kpar3 at hm1
  split at hm1
  · obtain rfl := Option.some.inj hm1
    cases hx with
    | cons h1 t1 => cases t1 with
      | cons h2 t2 => cases t2 with
        | cons h3 t3 =>
          cases t3
          refine ⟨_, _, _, rfl, hP1 _ H1 F1 (.refl _) ?_ (((Kp.set hi).trans (Kp.set hj)).trans (Kp.set hl))⟩
          have e1 := ER.putL (i := i) h1 hE1
          have e2 := ER.putL (i := j) h2 e1
          have e3 := ER.putL (i := l) h3 e2
          exact e3
  · cases hm1
/-- len of a dict, also of one that is being walked -/
theorem call_lenR {X : Cx} : CallR X (.builtin "len") (fun xs H Q => ∃ a kvs, xs = [V.ref a] ∧ Rd H a (.dK kvs) ∧ Q (.int kvs.length) H) := by
  intro pins z σ H xs us Q I r h
  obtain ⟨a, kvs, rfl, ha, q⟩ := h
  obtain ⟨u, rfl, ru⟩ := vals1 r
  cases ru
  exact d_len I ha fun t s' I' => ⟨.int kvs.length, H, I', ⟨t, rfl⟩, q⟩
theorem lenD_D {t : TE} {m : OM D} (h : OkD K W Lk t m) : OkD K W Lk (tCB (fun xs H Q => ∃ a kvs, xs = [V.ref a] ∧ Rd H a (.dK kvs) ∧ Q (.int kvs.length) H) (tCons t tNil)) (m1 lenDG m) := by
  refine op1_G (rel := relD K) (rr := fun x H Q => ∃ a kvs, [x] = [V.ref a] ∧ Rd H a (.dK kvs) ∧ Q (.int kvs.length) H) (fun x dx z L F R H fp Q hx hh hg q => ?_) h
  unfold lenDG at hg
  split at hg
  · obtain rfl := Option.some.inj hg
    cases hx with
    | dic h e t => exact ⟨_, _, rfl, hh.f.rx.rd _ _ h, q _ H F [] (.refl _) ⟨by rw [keys_len e]; exact .int _, rfl⟩ hh⟩
  · cases hg
theorem un_D {rr : V → Hp → VK → Prop} {g : D → Option D} {t : TE} {m : OM D} (o : Op1 K (relD K) rr g) (h : OkD K W Lk t m) : OkD K W Lk (tUn rr t) (m1 g m) := op1_G (rr := rr) o h
end
end GD
/-! own data layer: the draws' state -/
namespace GD
open PySem PySem.Spec PyProof.Rows L2 GF
def hashN (m c : Int) : Int := (m * 48271 + c + 12345) % 2147483647
def drawV (cs : List Int) (k m n : Int) : Int :=
  let c := cs.getD (k % cs.length).toNat 0
  if 10 ^ 18 ≤ c then c % n else hashN m c * hashN m c % 2147483629 / 16 % n
def drawS (cs : List Int) (k m n : Int) : X :=
  let c := cs.getD (k % cs.length).toNat 0
  if 10 ^ 18 ≤ c then .st (cs.set (k % cs.length).toNat (c / n)) k m else .st cs (k + 1) (hashN m c)
def drawF : List X → Option Rf
  | [.st cs k m, .fz (.int n)] => if 0 < n ∧ n.natAbs < B4 ∧ 0 < cs.length ∧ cs.length ≤ 63 ∧ m.natAbs < B4 then some (.ok (.fz (.int (drawV cs k m n))) [drawS cs k m n]) else none
  | _ => none
def appD (ds es : List D) : List D := ds ++ es
theorem callA_X {K : PySem.W.Frag} {W : WX} {Lk Lk' : List Addr → Prop} {n a b : Nat} {mF : List X → Option Rf} {t u : TA} {ma mk : OM (List D)} (hLk : ∀ L, Lk L → Lk' L) (ha : OkA K W Lk t ma) (hk : OkA K W Lk u mk) :
    OkX K W Lk (rFN a b (spF K Lk' n [] mF) (fun us ws => us ++ ws) W t u) (m_callN n mF appD a b ma mk) := callN_X (fun _ _ h1 h2 => h1.app h2) hLk ha hk
section
variable {K : PySem.W.Frag} {W : WX} {Lk Lk' : List Addr → Prop} {L : List Addr} {F F' R H H' : Hp} {io : List Nat}
/-- isinstance, of a name whose thing stays one's own -/
theorem isiV_D {i : Nat} (n : Tn) : OkD K W Lk (tCB (rIsi K) (tCons (tVar i) (tCons (tC (.ty n.s)) tNil))) (m_l1 (isiG n) i) := by
  intro L R F H σ ê r Q hL hE hm hP
  unfold m_l1 at hm
  split at hm
  · rename_i x hx
    obtain ⟨b, hb, rfl⟩ := un_some hm
    obtain ⟨v2, F2, k1, k2, k3, k4⟩ := hE.look hx
    obtain ⟨c, rfl, h1, h2⟩ := isi_kit hb
    exact ⟨v2, k1, _, _, _, _, c, rfl, .ty _, k3.tyx k4 h1, kit_ty h2, hP _ H F [] (.refl _) ⟨.bl c, rfl⟩ hE⟩
  · cases hm
theorem reprG_flat (a z : D) (h : reprG a = some z) : flatF z = true := by
  have go : ∀ d, showG d = some z → flatF z = true := fun d hs => by
    unfold showG at hs
    split at hs
    · split at hs
      · obtain rfl := Option.some.inj hs; rfl
      · cases hs
    · cases hs
  unfold reprG at h
  split at h <;> first | exact go _ h | cases h
theorem lk_repr : Lk1 K (GL.rRepr K) reprG := by
  intro x dx z F H Q hx s hg q
  have go : ∀ a, x = .ref a → showG dx = some z → GL.rRepr K [x] H Q := fun a ea hs => by
    unfold showG at hs
    split at hs
    · rename_i p ep
      split at hs
      · rename_i hc
        obtain rfl := Option.some.inj hs
        subst ea
        exact ⟨a, p, rfl, hx.dp s ep, hc.1, hc.2.1, hc.2.2.1, hc.2.2.2, q _ F (.str _)⟩
      · cases hs
    · cases hs
  unfold reprG at hg
  split at hg
  · have hx2 := hx
    cases hx2 with
    | lst h t => exact go _ rfl hg
  · have hx2 := hx
    cases hx2 with
    | tup h t => exact go _ rfl hg
  · cases hg
/-- a, b = x, y where a tuple is laid -/
def kparT (i j : Nat) (xs : List X) (e : En) : Option Ot := match xs with
  | [x, y] => some (.nx (st' (st' e i (some x)) j (some y)))
  | _ => none
def m_parT (i j : Nat) (ma mb : OM X) : SM := fun ê => bndS (m_consX ma (m_consX mb m_nilX) ê) (kparT i j)
theorem parT_S {i j : Nat} (hi : i ∉ io) (hj : j ∉ io) {ta tb : TE} {ma mb : OM X} (ha : OkX K W Lk ta ma) (hb : OkX K W Lk tb mb) :
    OkS K W Lk io (tAsg (tTupF (tCons ta (tCons tb tNil))) (gTup K 2 (gCons (gName i) (gCons (gName j) gNil)))) (m_parT i j ma mb) := by
  intro L R F H σ ê o D hL hE hm hP
  show tCons ta (tCons tb tNil) σ H (fun xs H1 => xs.length ≤ sizeLine ∧ ∀ p o, H1 p = none → o.dict = none → gTup K 2 (gCons (gName i) (gCons (gName j) gNil)) (.ref p) σ (upd H1 p (.frz o (.tup xs))) D.nx)
  refine (cons_Xs ha (cons_Xs hb nil_Xs)).runS hL hE hm hP fun vs xs ex F1 H1 e1 s1 hx hE1 hm1 hP1 => ?_
  unfold kparT at hm1
  split at hm1
  · obtain rfl := Option.some.inj hm1
    cases hx with
    | cons h1 t1 => cases t1 with
      | cons h2 t2 =>
        cases t2
        refine ⟨by show 2 ≤ sizeLine; decide, fun p o np hd => ?_⟩
        obtain ⟨fp, a, b⟩ := hE1
        obtain ⟨hn, s⟩ := b.newF (o := .frz o (.tup [_, _])) np
        have hE2 : ER K L R _ _ _ σ e1 := ⟨fp, a.rx (.of s), hn⟩
        have c1 := ER.putL (i := i) (h1.rx (.of s)) hE2
        have c2 := ER.putL (i := j) (h2.rx (.of s)) c1
        exact ⟨p, _, rfl, TupF.sq ⟨o, hd, upd_same⟩, rfl, _, _, rfl, _, _, rfl, rfl, hP1 _ _ _ s c2 ((Kp.set hi).trans (Kp.set hj))⟩
  · cases hm1
/-- [cells, k, m], the cells one's own -/
def kst (xs : List X) (e : En) : Option (Rs X) := match xs with
  | [.ol ds, .fz (.int k), .fz (.int m)] => match intsOf ds with
    | some cs => some (.ok (.st cs k m) e)
    | none => none
  | _ => none
def m_st (ma mb mc : OM X) : OM X := fun ê => bnd (m_consX ma (m_consX mb (m_consX mc m_nilX)) ê) kst
theorem st_X {ta tb tc : TE} {ma mb mc : OM X} (ha : OkX K W Lk ta ma) (hb : OkX K W Lk tb mb) (hc : OkX K W Lk tc mc) : OkX K W Lk (tLst (tCons ta (tCons tb (tCons tc tNil)))) (m_st ma mb mc) := by
  intro L R F H σ ê r Q hL hE hm hP
  show tCons ta (tCons tb (tCons tc tNil)) σ H (fun xs H1 => xs.length ≤ sizeLine ∧ ∀ p, H1 p = none → Q (.ref p) (upd H1 p (.lst xs)))
  refine (cons_Xs ha (cons_Xs hb (cons_Xs hc nil_Xs))).run hL hE hm hP fun vs xs ex F1 H1 e1 s1 hx hE1 hm1 hP1 => ?_
  unfold kst at hm1
  split at hm1
  · split at hm1
    · rename_i cs hcs
      obtain rfl := Option.some.inj hm1
      obtain rfl := intsOf_some hcs
      cases hx with
      | cons h1 t1 => cases t1 with
        | cons h2 t2 => cases t2 with
          | cons h3 t3 =>
            cases t3
            cases h1 with
            | ol h1 =>
              obtain rfl := h1.toInts
              cases h2 with
              | fz h2 => cases h3 with
                | fz h3 =>
                  have := h2.toInt
                  subst this
                  have := h3.toInt
                  subst this
                  refine ⟨by show 3 ≤ sizeLine; decide, fun p np => ?_⟩
                  obtain ⟨fp, a, b⟩ := hE1
                  exact hP1 _ _ F1 _ (.refl _) (.st p _ _ _ _) ⟨fp, a, b.new np⟩
    · cases hm1
  · cases hm1
end
end GD
/-! own: zip of any two things that are walked by an iterator of their own (a tuple beside a list, ..) -/
namespace GZM
open PySem PySem.Spec PyProof.Rows L2
/-- an iterator at c over the items xs, S i: it stands ahead of the i-th -/
structure Feed (P : Program) (w : World) (A : Around) (c l : Addr) (xs : Array Value) (S : Nat → Heap → Prop) : Prop where
  apart : l ≠ c
  keep : ∀ {i : Nat} {h h' : Heap}, S i h → (∀ o, h.get? c = some o → h'.get? c = some o) → (∀ o, h.get? l = some o → h'.get? l = some o) → S i h'
  low : ∀ {i : Nat} {h : Heap}, S i h → c < h.objs.size
  item : ∀ {s : Shared} {i : Nat} {x : Value} {Q E : Value → Shared → Prop}, S i s.heap → xs[i]? = some x → (∀ h', S (i + 1) h' → Heap.SameBut c s.heap h' → Q x { s with heap := h' }) → wpAny (model P w) A (Builtin.SmallTypes.nextOf (.ref c)) Q E s
  stop : A.handled = none → ∀ {s : Shared} {i : Nat} {Q E : Value → Shared → Prop}, S i s.heap → xs[i]? = none → (∀ h' e, Heap.ExtBut c s.heap h' → (∃ o, h'.get? e = some o ∧ o.cls = .type "StopIteration") → E (.ref e) { s with heap := h' }) → wpAny (model P w) A (Builtin.SmallTypes.nextOf (.ref c)) Q E s
abbrev SL (c l : Addr) (xs : Array Value) (i : Nat) (h : Heap) : Prop := h.IsListIter c l i ∧ h.IsList l xs
abbrev ST (c l : Addr) (xs : Array Value) (i : Nat) (h : Heap) : Prop := h.IsTupleIter c l i ∧ h.IsTuple l xs
section
variable {P : Program} {w : World} {A : Around} {E : Value → Shared → Prop} {s : Shared} {c l z TI TO i1 i2 l1 l2 : Addr} {xs ys : Array Value} {S1 S2 : Nat → Heap → Prop} {k1 k2 : Nat} {a b x y : Value}
theorem feed_list (n : l ≠ c) : Feed P w A c l xs (SL c l xs) where
  apart := n
  keep := fun ⟨p, ⟨o, q, r⟩⟩ f g => ⟨p.at f, ⟨o, g _ q, r⟩⟩
  low := fun ⟨⟨_, p, _⟩, _⟩ => Heap.lt_size p
  item := fun ⟨p, q⟩ e k => wpAny_nextOf_list_item p q e fun h' t sb => k h' ⟨t, q.extBut sb.extBut n⟩ sb
  stop := fun hh _ _ _ _ ⟨p, q⟩ e k => wpAny_nextOf_list_end hh p q e k
theorem feed_tup (n : l ≠ c) : Feed P w A c l xs (ST c l xs) where
  apart := n
  keep := fun ⟨p, ⟨o, q, r⟩⟩ f g => ⟨p.at f, ⟨o, g _ q, r⟩⟩
  low := fun ⟨⟨_, p, _⟩, _⟩ => Heap.lt_size p
  item := fun ⟨p, q⟩ e k => RZ.nextOf_tuple_item p q e fun h' t sb => k h' ⟨t, q.extBut sb.extBut n⟩ sb
  stop := fun hh _ _ _ _ ⟨p, q⟩ e k => RZ.nextOf_tuple_end hh p q e k
theorem Feed.off (f : Feed P w A c l xs S1) {d : Addr} {i : Nat} {h h' : Heap} (t : S1 i h) (e : Heap.ExtBut d h h') (n1 : c ≠ d) (n2 : l ≠ d) : S1 i h' := f.keep t (fun o q => e _ _ n1 q) (fun o q => e _ _ n2 q)
theorem next_item {Q : Value → Shared → Prop} (D : ZipApart z TI TO i1 i2 l1 l2) (f : Feed P w A i1 l1 xs S1) (g : Feed P w A i2 l2 ys S2) (hz : IsZip s.heap z TI TO .none) (pI : IsPair s.heap TI (.ref i1) (.ref i2)) (pO : IsPair s.heap TO a b)
    (t1 : S1 k1 s.heap) (t2 : S2 k2 s.heap) (ex : xs[k1]? = some x) (ey : ys[k2]? = some y)
    (q : ∀ h', IsZip h' z TI TO (rawInt s.heap.objs.size) → IsPair h' TO x y → S1 (k1 + 1) h' → S2 (k2 + 1) h' → IsPair h' s.heap.objs.size x y → h'.objs.size = s.heap.objs.size + 1 →
      (∀ c o, c ≠ z → c ≠ TO → c ≠ i1 → c ≠ i2 → s.heap.get? c = some o → h'.get? c = some o) → Q (.ref s.heap.objs.size) { s with heap := h' }) :
    wpAny (model P w) A (Builtin.«zip.__next__» ⟨[.ref z], []⟩) (fun r t => ∃ v, r = .done (.ret v) ∧ Q v t) E s := by
  show wpAny _ _ (field (.ref z) 2 >>= _) _ _ _; refine wpAny_bind (wpAny_field hz rfl (x := .bool false) rfl ?_)
  show wpAny _ _ (field (.ref z) 3 >>= _) _ _ _; refine wpAny_bind (wpAny_field hz rfl (x := .ref TI) rfl (wpAny_bind (wpAny_seqItems pI rfl ?_)))
  show wpAny _ _ (Builtin.SmallTypes.ownedTupleIsFree (.ref z) >>= _) _ _ _; refine wpAny_bind ?_; unfold Builtin.SmallTypes.ownedTupleIsFree
  refine wpAny_bind (wpAny_field hz rfl (x := .none) rfl (wpAny_pure ?_)); simp only [if_true]
  refine wpAny_bind (wpAny_rule (wpAny_bind (wpAny_field hz rfl (x := .ref TO) rfl (wpAny_bind (wpAny_setField_rec hz (by simp) fun g1 z1 s1 => wpAny_bind ?_)))))
  replace z1 : IsZip g1 z TI TO .ellipsis := z1
  simp only [List.zipIdx_cons, List.zipIdx_nil, List.forIn_cons, List.forIn_nil]
  -- of the first
  refine wpAny_bind (wpAny_bind (wpAny_onRaise ?_)); show wpAny _ _ (Builtin.SmallTypes.nextOf (.ref i1) >>= _) _ _ _
  refine wpAny_bind (f.item (f.off t1 s1.extBut D.i1z D.l1z) ex fun g2 u1 s2 => wpAny_pure ?_)
  have p2 : IsPair g2 TO a b := s2.extBut _ _ D.TOi1 (s1.extBut _ _ D.TOz pO)
  refine wpAny_bind (wpAny_seqItems p2 rfl (wpAny_bind (wpAny_updateSeq_pair p2 fun g3 p3 s3 => ?_)))
  replace p3 : IsPair g3 TO x b := p3
  refine wpAny_bind (wpAny_letGo (wpAny_pure ?_))
  -- of the second
  refine wpAny_bind (wpAny_bind (wpAny_onRaise ?_)); show wpAny _ _ (Builtin.SmallTypes.nextOf (.ref i2) >>= _) _ _ _
  have v2 : S2 k2 g3 := g.off (g.off (g.off t2 s1.extBut D.i2z D.l2z) s2.extBut D.i12.symm D.l2i1) s3.extBut D.TOi2.symm D.l2TO
  refine wpAny_bind (g.item v2 ey fun g4 u2 s4 => wpAny_pure ?_)
  have p4 : IsPair g4 TO x b := s4.extBut _ _ D.TOi2 p3
  refine wpAny_bind (wpAny_seqItems p4 rfl (wpAny_bind (wpAny_updateSeq_pair p4 fun g5 p5 s5 => ?_)))
  replace p5 : IsPair g5 TO x y := p5
  refine wpAny_bind (wpAny_letGo (wpAny_pure (wpAny_pure (wpAny_bind (wpAny_seqItems p5 rfl (wpAny_bind (wpAny_newTuple ?_)))))))
  -- what it comes to
  have sz : g5.objs.size = s.heap.objs.size := by rw [s5.1, s4.1, s3.1, s2.1, s1.1]
  have z5 : IsZip g5 z TI TO .ellipsis := s5.extBut _ _ D.TOz.symm (s4.extBut _ _ D.i2z.symm (s3.extBut _ _ D.TOz.symm (s2.extBut _ _ D.i1z.symm z1)))
  have all5 : ∀ c o, c ≠ z → c ≠ TO → c ≠ i1 → c ≠ i2 → s.heap.get? c = some o → g5.get? c = some o := fun c o n1 n2 n3 n4 e => s5.extBut _ _ n2 (s4.extBut _ _ n4 (s3.extBut _ _ n2 (s2.extBut _ _ n3 (s1.extBut _ _ n1 e))))
  have w1 : S1 (k1 + 1) g5 := f.off (f.off (f.off u1 s3.extBut D.TOi1.symm D.l1TO) s4.extBut D.i12 D.l1i2) s5.extBut D.TOi1.symm D.l1TO
  have w2 : S2 (k2 + 1) g5 := g.off u2 s5.extBut D.TOi2.symm D.l2TO
  have zl : z < g5.objs.size := Heap.lt_size z5
  show wpAny _ _ (Builtin.SmallTypes.ownedTupleHandOut (.ref z) (.ref g5.objs.size) >>= _) _ _ _; refine wpAny_bind ?_; unfold Builtin.SmallTypes.ownedTupleHandOut
  have z6 : IsZip (g5.push { cls := .type "tuple", data := .seq #[x, y] }) z TI TO .ellipsis := Heap.get?_push_of_some _ z5
  refine wpAny_bind (wpAny_setField_rec z6 (by simp) fun g7 z7 s7 => ?_)
  replace z7 : IsZip g7 z TI TO (rawInt g5.objs.size) := z7
  refine wpAny_setField_rec z7 (by simp) fun g8 z8 s8 => ?_
  replace z8 : IsZip g8 z TI TO (rawInt g5.objs.size) := z8
  have on : ∀ c o, c ≠ z → g5.get? c = some o → g8.get? c = some o := fun c o n e => s8.extBut _ _ n (s7.extBut _ _ n (Heap.get?_push_of_some _ e))
  have p8 : IsPair g8 g5.objs.size x y := s8.extBut _ _ (Nat.ne_of_gt zl) (s7.extBut _ _ (Nat.ne_of_gt zl) (Heap.get?_push_size _ rfl))
  have sz8 : g8.objs.size = g5.objs.size + 1 := by rw [s8.1, s7.1, Heap.size_push]
  rw [sz] at z8 p8 sz8
  refine wpAny_pure ⟨_, rfl, ?_⟩
  show Q (.ref g5.objs.size) _
  rw [sz]
  exact q g8 z8 (on _ _ D.TOz p5) (f.keep w1 (fun o e => on _ o D.i1z e) fun o e => on _ o D.l1z e) (g.keep w2 (fun o e => on _ o D.i2z e) fun o e => on _ o D.l2z e) p8 sz8 fun c o n1 n2 n3 n4 e => on c o n1 (all5 c o n1 n2 n3 n4 e)
theorem next_stop {Q : Fin → Shared → Prop} (hh : A.handled = none) (D : ZipApart z TI TO i1 i2 l1 l2) (f : Feed P w A i1 l1 xs S1) (g : Feed P w A i2 l2 ys S2) (hz : IsZip s.heap z TI TO .none) (pI : IsPair s.heap TI (.ref i1) (.ref i2)) (pO : IsPair s.heap TO a b)
    (t1 : S1 k1 s.heap) (t2 : S2 k2 s.heap) (en : xs[k1]? = none ∨ ys[k2]? = none)
    (q : ∀ h' e, (∀ c o, c ≠ z → c ≠ TO → c ≠ i1 → c ≠ i2 → s.heap.get? c = some o → h'.get? c = some o) → (∃ o, h'.get? e = some o ∧ o.cls = .type "StopIteration") → E (.ref e) { s with heap := h' }) :
    wpAny (model P w) A (Builtin.«zip.__next__» ⟨[.ref z], []⟩) Q E s := by
  show wpAny _ _ (field (.ref z) 2 >>= _) _ _ _; refine wpAny_bind (wpAny_field hz rfl (x := .bool false) rfl ?_)
  show wpAny _ _ (field (.ref z) 3 >>= _) _ _ _; refine wpAny_bind (wpAny_field hz rfl (x := .ref TI) rfl (wpAny_bind (wpAny_seqItems pI rfl ?_)))
  show wpAny _ _ (Builtin.SmallTypes.ownedTupleIsFree (.ref z) >>= _) _ _ _; refine wpAny_bind ?_; unfold Builtin.SmallTypes.ownedTupleIsFree
  refine wpAny_bind (wpAny_field hz rfl (x := .none) rfl (wpAny_pure ?_)); simp only [if_true]
  refine wpAny_bind (wpAny_rule (wpAny_bind (wpAny_field hz rfl (x := .ref TO) rfl (wpAny_bind (wpAny_setField_rec hz (by simp) fun g1 z1 s1 => wpAny_bind ?_)))))
  replace z1 : IsZip g1 z TI TO .ellipsis := z1
  simp only [List.zipIdx_cons, List.zipIdx_nil, List.forIn_cons, List.forIn_nil]
  refine wpAny_bind (wpAny_bind (wpAny_onRaise ?_)); show wpAny _ _ (Builtin.SmallTypes.nextOf (.ref i1) >>= _) _ _ _
  have v1 : S1 k1 g1 := f.off t1 s1.extBut D.i1z D.l1z
  cases ex : xs[k1]? with
  | none =>
    refine wpAny_bind (f.stop hh v1 ex fun g2 e s2 he => ?_)
    obtain ⟨oe, he1, he2⟩ := he
    have z2 : IsZip g2 z TI TO .ellipsis := s2 _ _ D.i1z.symm z1
    have ne : e ≠ z := fun y => by subst y; rw [z2] at he1; cases he1; simp at he2
    exact wpAny_setField_rec z2 (by simp) fun g3 _ s3 => q g3 e (fun c o n1 _ n3 _ y => s3.extBut _ _ n1 (s2 _ _ n3 (s1.extBut _ _ n1 y))) ⟨oe, s3.extBut _ _ ne he1, he2⟩
  | some x =>
    have ey : ys[k2]? = none := en.elim (fun h => by rw [ex] at h; cases h) id
    refine wpAny_bind (f.item v1 ex fun g2 u1 s2 => wpAny_pure ?_)
    have p2 : IsPair g2 TO a b := s2.extBut _ _ D.TOi1 (s1.extBut _ _ D.TOz pO)
    refine wpAny_bind (wpAny_seqItems p2 rfl (wpAny_bind (wpAny_updateSeq_pair p2 fun g3 p3 s3 => ?_)))
    refine wpAny_bind (wpAny_letGo (wpAny_pure (wpAny_bind (wpAny_bind (wpAny_onRaise ?_)))))
    show wpAny _ _ (Builtin.SmallTypes.nextOf (.ref i2) >>= _) _ _ _
    have v2 : S2 k2 g3 := g.off (g.off (g.off t2 s1.extBut D.i2z D.l2z) s2.extBut D.i12.symm D.l2i1) s3.extBut D.TOi2.symm D.l2TO
    refine wpAny_bind (g.stop hh v2 ey fun g4 e s4 he => ?_)
    obtain ⟨oe, he1, he2⟩ := he
    have z4 : IsZip g4 z TI TO .ellipsis := s4 _ _ D.i2z.symm (s3.extBut _ _ D.TOz.symm (s2.extBut _ _ D.i1z.symm z1))
    have ne : e ≠ z := fun y => by subst y; rw [z4] at he1; cases he1; simp at he2
    exact wpAny_setField_rec z4 (by simp) fun g5 _ s5 => q g5 e (fun c o n1 n2 n3 n4 y => s5.extBut _ _ n1 (s4 _ _ n4 (s3.extBut _ _ n2 (s2.extBut _ _ n3 (s1.extBut _ _ n1 y))))) ⟨oe, s5.extBut _ _ ne he1, he2⟩
theorem py_item {Q : Option Value → Shared → Prop} (D : ZipApart z TI TO i1 i2 l1 l2) (f : Feed P w A.in1 i1 l1 xs S1) (g : Feed P w A.in1 i2 l2 ys S2) (hz : IsZip s.heap z TI TO .none) (pI : IsPair s.heap TI (.ref i1) (.ref i2)) (pO : IsPair s.heap TO a b)
    (t1 : S1 k1 s.heap) (t2 : S2 k2 s.heap) (ex : xs[k1]? = some x) (ey : ys[k2]? = some y)
    (q : ∀ h', IsZip h' z TI TO (rawInt s.heap.objs.size) → IsPair h' TO x y → S1 (k1 + 1) h' → S2 (k2 + 1) h' → IsPair h' s.heap.objs.size x y → h'.objs.size = s.heap.objs.size + 1 →
      (∀ c o, c ≠ z → c ≠ TO → c ≠ i1 → c ≠ i2 → s.heap.get? c = some o → h'.get? c = some o) → Q (some (.ref s.heap.objs.size)) { s with heap := h' }) : wpAny (model P w) A (pyNext (.ref z)) Q E s := by
  have ty : s.TypeIs (.ref z) "zip" := ⟨_, hz, rfl⟩
  unfold pyNext
  exact wpAny_bind (wpAny_attempt (wpAny_callSpecial?_slot (name := Str.ofString "__next__") ty F.slot_zip_next (wpAny_call_entry F.slot_zip_next ty F.entry_zip_next
    (next_item D f g hz pI pO t1 t2 ex ey fun h' b1 b2 b3 b4 b5 b6 b7 => wpAny_pure (q h' b1 b2 b3 b4 b5 b6 b7)) (F.args_zip_next_1 _))))
theorem py_stop {Q : Option Value → Shared → Prop} (hh : A.handled = none) (D : ZipApart z TI TO i1 i2 l1 l2) (f : Feed P w A.in1 i1 l1 xs S1) (g : Feed P w A.in1 i2 l2 ys S2) (hz : IsZip s.heap z TI TO .none) (pI : IsPair s.heap TI (.ref i1) (.ref i2)) (pO : IsPair s.heap TO a b)
    (t1 : S1 k1 s.heap) (t2 : S2 k2 s.heap) (en : xs[k1]? = none ∨ ys[k2]? = none)
    (q : ∀ h', (∀ c o, c ≠ z → c ≠ TO → c ≠ i1 → c ≠ i2 → s.heap.get? c = some o → h'.get? c = some o) → Q none { s with heap := h' }) : wpAny (model P w) A (pyNext (.ref z)) Q E s := by
  have ty : s.TypeIs (.ref z) "zip" := ⟨_, hz, rfl⟩
  unfold pyNext
  refine wpAny_bind (wpAny_attempt (wpAny_callSpecial?_slot (name := Str.ofString "__next__") ty F.slot_zip_next (wpAny_call_entry F.slot_zip_next ty F.entry_zip_next
    (next_stop hh D f g hz pI pO t1 t2 en fun h' e n he => ?_) (F.args_zip_next_1 _))))
  exact wpAny_bind (wpAny_isInstance (T := "StopIteration") (b := true) he isSubtype_stop (wpAny_pure (q _ n)))
end
/-! ### zip(tuple, list) -/
def M1 (h : Heap) (a : Addr) : Heap := h.push { cls := .type "tuple_iterator", data := .fields #[.ref a, .int 0 0] }
def M2 (h : Heap) (a b : Addr) : Heap := (M1 h a).push { cls := .type "list_iterator", data := .fields #[.ref b, .int 0 0] }
def M3 (h : Heap) (a b : Addr) : Heap := (M2 h a b).push { cls := .type "tuple", data := .seq #[.ref h.objs.size, .ref (M1 h a).objs.size] }
def M4 (h : Heap) (a b : Addr) : Heap := (M3 h a b).push { cls := .type "tuple", data := .seq #[.none, .none] }
def M5 (h : Heap) (a b : Addr) : Heap := (M4 h a b).push { cls := .type "zip", data := .fields #[.none, .bool false, .bool false, .ref (M2 h a b).objs.size, .ref (M3 h a b).objs.size] }
theorem meets_mixed (a b : Addr) (xs ys : Array Value) : Meets (Builtin.«zip.__new__» ⟨[.type "zip", .ref a, .ref b], []⟩) (fun _ R t => t.heap.IsTuple a xs ∧ t.heap.IsList b ys ∧ R (.ok (.ret (.ref (M4 t.heap a b).objs.size))) { t with heap := M5 t.heap a b }) :=
  .of_wp fun P w A R t k => by
    obtain ⟨hp, gs, d, tk, os⟩ := t
    obtain ⟨q1, q2, k⟩ := k
    have hsub := sub_zip
    have qa : Heap.IsTuple (Shared.heap ⟨hp, gs, d, tk, os⟩) a xs := q1
    have qb : Heap.IsList (Shared.heap ⟨M1 hp a, gs, d, tk, os⟩) b ys := Heap.IsList.push q2 _
    unfold M1 at qb
    wp_walk using wpAny_pyIter_tuple qa, wpAny_pyIter_list qb
    exact ⟨_, rfl, k⟩
section
variable {P : Program} {w : World} {A : Around} {E : Value → Shared → Prop} {s : Shared}
theorem call_mixed {a b : Addr} {xs ys : Array Value} {Q : Value → Shared → Prop} (qa : s.heap.IsTuple a xs) (qb : s.heap.IsList b ys)
    (k : ∀ h', IsZip h' (s.heap.objs.size + 4) (s.heap.objs.size + 2) (s.heap.objs.size + 3) .none → IsPair h' (s.heap.objs.size + 2) (.ref s.heap.objs.size) (.ref (s.heap.objs.size + 1)) → IsPair h' (s.heap.objs.size + 3) .none .none →
      h'.IsTupleIter s.heap.objs.size a 0 → h'.IsListIter (s.heap.objs.size + 1) b 0 → (∀ c o, s.heap.get? c = some o → h'.get? c = some o) → Q (.ref (s.heap.objs.size + 4)) { s with heap := h' }) :
    wpAny (model P w) A (call (.type "zip") [.ref a, .ref b]) Q E s := by
  refine callType_new F.called_zip (by decide) (F.typeCall_zip_2 _ _) (F.newCall_zip_2 _ _) (fun o => F.args_object_init_3 o _ _) F.entry_zip_new (meets_mixed a b xs ys) ⟨qa, qb, ?_⟩
  have n1 : (M1 s.heap a).objs.size = s.heap.objs.size + 1 := Heap.size_push ..
  have n2 : (M2 s.heap a b).objs.size = s.heap.objs.size + 2 := by unfold M2; rw [Heap.size_push, n1]
  have n3 : (M3 s.heap a b).objs.size = s.heap.objs.size + 3 := by unfold M3; rw [Heap.size_push, n2]
  have n4 : (M4 s.heap a b).objs.size = s.heap.objs.size + 4 := by unfold M4; rw [Heap.size_push, n3]
  have c5 : (M5 s.heap a b).get? (M4 s.heap a b).objs.size = some _ := Heap.get?_push_size _ rfl
  have c4 : (M5 s.heap a b).get? (M3 s.heap a b).objs.size = some _ := Heap.get?_push_of_some _ (Heap.get?_push_size _ rfl)
  have c3 : (M5 s.heap a b).get? (M2 s.heap a b).objs.size = some _ := Heap.get?_push_of_some _ (Heap.get?_push_of_some _ (Heap.get?_push_size _ rfl))
  have c2 : (M5 s.heap a b).get? (M1 s.heap a).objs.size = some _ := Heap.get?_push_of_some _ (Heap.get?_push_of_some _ (Heap.get?_push_of_some _ (Heap.get?_push_size _ rfl)))
  have c1 : (M5 s.heap a b).get? s.heap.objs.size = some _ := Heap.get?_push_of_some _ (Heap.get?_push_of_some _ (Heap.get?_push_of_some _ (Heap.get?_push_of_some _ (Heap.get?_push_size _ rfl))))
  have up : ∀ c o, s.heap.get? c = some o → (M5 s.heap a b).get? c = some o := fun c o e => Heap.get?_push_of_some _ (Heap.get?_push_of_some _ (Heap.get?_push_of_some _ (Heap.get?_push_of_some _ (Heap.get?_push_of_some _ e))))
  show _ ∧ _
  rw [n2, n3, n4] at c5
  rw [n1, n2] at c3
  rw [n3] at c4
  rw [n1] at c2
  rw [n4]
  exact ⟨⟨_, c5, rfl⟩, k _ c5 c3 c4 ⟨_, c1, rfl, rfl⟩ ⟨_, c2, rfl, rfl⟩ up⟩
end
/-- a tuple's items and a list's, in new pairs -/
def ItM (K : PySem.W.Frag) (a b : Addr) : It where
  go i H := ∃ (xs ys : List V) (x y : V), SqT K H a xs ∧ SqL K H b ys ∧ xs[i]? = some x ∧ ys[i]? = some y
  yld i H v H' := ∃ T x y, v = .ref T ∧ H T = none ∧ H' = upd H T (.tup [x, y]) ∧ (∀ xs, SqT K H a xs → xs[i]? = some x) ∧ ∀ ys, SqL K H b ys → ys[i]? = some y
  stop i H := ∃ xs ys : List V, SqT K H a xs ∧ SqL K H b ys ∧ (xs.length ≤ i ∨ ys.length ≤ i)
/-- where the zip stands -/
def At (z TI TO i1 i2 a b : Addr) (i : Nat) (h : Heap) : Prop := IsZip h z TI TO .none ∧ IsPair h TI (.ref i1) (.ref i2) ∧ (∃ x y, IsPair h TO x y) ∧ h.IsTupleIter i1 a i ∧ h.IsListIter i2 b i
theorem five {c z TI TO i1 i2 : Addr} (h : c ∈ [z, TI, TO, i1, i2]) : c = z ∨ c = TI ∨ c = TO ∨ c = i1 ∨ c = i2 := by simpa using h
theorem At.low {z TI TO i1 i2 a b : Addr} {i : Nat} {h : Heap} (t : At z TI TO i1 i2 a b i h) {c : Addr} (m : c ∈ [z, TI, TO, i1, i2]) : c < h.objs.size := by
  obtain ⟨p1, p2, ⟨x, y, p3⟩, ⟨_, p4, _⟩, ⟨_, p5, _⟩⟩ := t
  rcases five m with q | q | q | q | q <;> (subst q; first | exact Heap.lt_size p1 | exact Heap.lt_size p2 | exact Heap.lt_size p3 | exact Heap.lt_size p4 | exact Heap.lt_size p5)
theorem turn_mixed {P : Program} {w : World} {K : PySem.W.Frag} {elts : List Expr} {kk : Nat} {tpos : Pos} {a b z TI TO i1 i2 : Addr} (D : ZipApart z TI TO i1 i2 a b) : Turn P w K (.Tuple elts kk tpos) (ItM K a b) [z, TI, TO, i1, i2] z (At z TI TO i1 i2 a b) where
  mem := List.mem_cons_self
  obj := fun i h t c m => by
    obtain ⟨p1, p2, ⟨x, y, p3⟩, ⟨o4, p4, _, d4⟩, ⟨o5, p5, _, d5⟩⟩ := t
    rcases five m with q | q | q | q | q <;> subst q
    · exact ⟨_, p1, fun v r => nomatch r⟩
    · exact ⟨_, p2, fun v r => nomatch r⟩
    · exact ⟨_, p3, fun v r => nomatch r⟩
    · exact ⟨o4, p4, fun v r => by rw [d4] at r; cases r⟩
    · exact ⟨o5, p5, fun v r => by rw [d5] at r; cases r⟩
  keep := fun i h h' t k => by
    obtain ⟨p1, p2, ⟨x, y, p3⟩, p4, p5⟩ := t
    exact ⟨k _ (by simp) _ p1, k _ (by simp) _ p2, ⟨x, y, k _ (by simp) _ p3⟩, p4.at fun o r => k _ (by simp) o r, p5.at fun o r => k _ (by simp) o r⟩
  item := by
    intro X e1 e2 e3 hc i pins s σ H E I hf t hg
    subst e1 e2 e3
    have tlow := fun c m => t.low (c := c) m
    obtain ⟨p1, p2, ⟨x0, y0, p3⟩, p4, p5⟩ := t
    obtain ⟨xs, ys, x, y, qa, qb, ex, ey⟩ := hg
    obtain ⟨us, ru, pu, _⟩ := I.tuple qa
    obtain ⟨vs, rv, pv, _⟩ := I.list qb
    obtain ⟨u, eu, hu⟩ := ru.get ex
    obtain ⟨v, ev, hv⟩ := rv.get ey
    have n1 : a ≠ i1 := D.l1i1
    have n2 : b ≠ i2 := D.l2i2
    refine py_item D (feed_tup (xs := us.toArray) n1) (feed_list (xs := vs.toArray) n2) p1 p2 p3 ⟨p4, pu⟩ ⟨p5, pv.isList⟩ (x := u) (y := v) (by simpa using eu) (by simpa using ev) fun h' r1 r2 r3 r4 r5 _ kk => ?_
    refine ⟨_, rfl, wpAny_letOwnedTupleGo_zip (s := { s with heap := h' }) r1 fun g r6 sb => ?_⟩
    have zl : z < s.heap.objs.size := Heap.lt_size p1
    have pT : g.get? s.heap.objs.size = some { cls := .type "tuple", data := .seq #[u, v] } := (sb.2 _ (Nat.ne_of_gt zl)).trans r5
    have new : ObjOk X.prog X.w (upd H s.heap.objs.size (.tup [x, y])) g s.heap.objs.size (.tup [x, y]) := ⟨by show 2 ≤ sizeLine; decide, [u, v], .cons hu (.cons hv .nil), ⟨_, pT, rfl, _, rfl⟩⟩
    have J : Inv X pins σ (upd H s.heap.objs.size (.tup [x, y])) { s with heap := g } := I.turnedNew (t' := s.toks) (ch := [z, TI, TO, i1, i2]) (fun c o hb q => by
      have nz : c ≠ z := fun q' => hb (by simp [q'])
      exact (sb.2 c nz).trans (kk c o nz (fun q' => hb (by simp [q'])) (fun q' => hb (by simp [q'])) (fun q' => hb (by simp [q'])) q)) hf (Nat.le_refl _) new
    refine ⟨.ref s.heap.objs.size, _, J, rfl, ⟨_, x, y, rfl, I.hok.fresh (Nat.le_refl _), rfl, fun l hl => by rw [I.tuple_inj hl qa]; exact ex, fun l hl => by rw [I.list_inj hl qb]; exact ey⟩, ⟨r6, (sb.2 _ D.TIz).trans (kk _ _ D.TIz D.TITO D.TIi1 D.TIi2 p2), ⟨u, v, (sb.2 _ D.TOz).trans r2⟩, r3.1.at fun o q => (sb.2 _ D.i1z).trans q, r4.1.at fun o q => (sb.2 _ D.i2z).trans q⟩, fun c m => ?_⟩
    rw [upd_ne (Nat.ne_of_lt (tlow c m))]
    exact (hf c m).1
  done := by
    intro X e1 e2 e3 hc i pins s σ H E I hf t hg
    subst e1 e2 e3
    obtain ⟨p1, p2, ⟨x0, y0, p3⟩, p4, p5⟩ := t
    obtain ⟨xs, ys, qa, qb, en⟩ := hg
    obtain ⟨us, ru, pu, _⟩ := I.tuple qa
    obtain ⟨vs, rv, pv, _⟩ := I.list qb
    have l1 := ru.length
    have l2 := rv.length
    refine py_stop (I.ok.hd hc) D (feed_tup (xs := us.toArray) D.l1i1) (feed_list (xs := vs.toArray) D.l2i2) p1 p2 p3 ⟨p4, pu⟩ ⟨p5, pv.isList⟩ (en.imp (fun q => by simp; omega) fun q => by simp; omega) fun h' kk => ?_
    exact ⟨rfl, I.turnedL (t' := s.toks) (ch := [z, TI, TO, i1, i2]) (fun c o hb q => kk c o (fun q' => hb (by simp [q'])) (fun q' => hb (by simp [q'])) (fun q' => hb (by simp [q'])) (fun q' => hb (by simp [q'])) q) hf⟩
  self := fun A i s Q E t k => wpAny_pyIter_zip t.1 k
def iZipM (K : PySem.W.Frag) (t : TA) : TI := fun σ H R => t σ H fun vs H1 => ∃ a b xs ys, vs = [.ref a, .ref b] ∧ SqT K H1 a xs ∧ SqL K H1 b ys ∧ R (ItM K a b) H1
theorem pi_zipM {X : Cx} {e e2 : Expr} {t : TA} {p pos tpos : Pos} {elts : List Expr} {kk : Nat} (hg : Gl X "zip") (hm : X.mg "zip" = none) (ha : PA X [e, e2] t)
    (h1 : starEach [e, e2] X.env = (false, eval e X.env) :: starEach [e2] X.env := by rfl) (h2 : (backTo pos (starEach [e2] X.env)).any (·.1) = false := by rfl) : PI X (.Tuple elts kk tpos) (.Call (.Name "zip" p) [e, e2] [] pos) (iZipM X.K t) := by
  constructor
  intro pins s σ H R I h
  refine Call_ (ld_blt I hg hm PyProof.Rows.boot_zip (PyProof.Rows.callWith_type1 (thn (ha.run pos pins s σ H _ I h) ?_) h1 h2))
  rintro us s1 ⟨vs, H1, J, r1, a, b, xs, ys, rfl, qa, qb, q⟩
  cases r1 with
  | cons r rr =>
    cases rr with
    | cons r' rr =>
      cases rr
      cases r
      cases r'
      obtain ⟨ua, _, pa, _⟩ := J.tuple qa
      obtain ⟨ub, _, pb, _⟩ := J.list qb
      have la : a < s1.heap.objs.size := by obtain ⟨_, e, _⟩ := id pa; exact Heap.lt_size e
      refine call_mixed (xs := ua.toArray) (ys := ub.toArray) pa pb.isList fun h' r1 r2 r3 r4 r5 kk => wpAny_pyIter_zip r1 ?_
      refine ⟨s1.heap.objs.size + 4, [s1.heap.objs.size + 4, s1.heap.objs.size + 2, s1.heap.objs.size + 3, s1.heap.objs.size, s1.heap.objs.size + 1], _, _, H1, rfl, J.kept (t' := s1.toks) kk, turn_mixed (PySem.W.ktu_apart s1.heap.objs.size a b la pb.lt), ⟨r1, r2, ⟨_, _, r3⟩, r4, r5⟩, fun c m => ?_, q⟩
      have le : s1.heap.objs.size ≤ c := by rcases five m with q | q | q | q | q <;> (subst q; first | exact Nat.le_refl _ | exact Nat.le_add_right _ _)
      exact J.fpOk le (J.hok.fresh le)
theorem walk_mixed {K : PySem.W.Frag} {a b : Addr} {xs ys : List V} {n : Nat} (hn : n = min xs.length ys.length) : Walk (ItM K a b) n (fun H => SqT K H a xs ∧ SqL K H b ys) (YPair (fun i => xs[i]?) (fun i => ys[i]?)) := by
  subst hn
  refine ⟨fun i _ hi q => ?_, fun _ q => ⟨xs, ys, q.1, q.2, by omega⟩, ?_⟩
  · exact ⟨xs, ys, xs[i]'(by omega), ys[i]'(by omega), q.1, q.2, List.getElem?_eq_getElem _, List.getElem?_eq_getElem _⟩
  · intro i H v H' hi q y
    obtain ⟨T, x, y, rfl, nT, rfl, f1, f2⟩ := y
    exact ⟨T, x, y, rfl, nT, rfl, f1 xs q.1, f2 ys q.2⟩
end GZM
/-! own data layer: zip of a tuple and a list -/
namespace GD
open PySem PySem.Spec PyProof.Rows L2 GF
section
variable {K : PySem.W.Frag} {W : WX} {Lk Lk' : List Addr → Prop} {L : List Addr} {F F' R H H' : Hp} {io : List Nat}
def kzipM : List D → Option (List D)
  | [.tup ds, .lst es] => some ((ds.zip es).map fun p => .tuw [p.1, p.2])
  | _ => none
theorem zipM_I {t : TA} {m : OM (List D)} (h : OkA K W Lk t m) : OkI K W Lk (GZM.iZipM K t) (mA kzipM m) := by
  refine opA_G (rel := relI K) (rr := fun vs H1 R => ∃ a b xs ys, vs = [.ref a, .ref b] ∧ SqT K H1 a xs ∧ SqL K H1 b ys ∧ R (GZM.ItM K a b) H1) (fun x dx z L F R H fp Q hx hh hg q => ?_) h
  unfold kzipM at hg
  split at hg
  · obtain rfl := Option.some.inj hg
    cases hx with
    | cons a t =>
      cases t with
      | cons b t =>
        cases t
        cases a with
        | tup h t =>
          cases b with
          | lst h2 t2 =>
            refine ⟨_, _, _, _, rfl, (hh.f.rx.tpf _ _ h).sq, .of (hh.f.rx.lst _ _ h2), q _ H F [] (.refl _) ⟨wd_pair (GZM.walk_mixed rfl) (fun L H s => ⟨(s.rx.tpf _ _ h).sq, .of (s.rx.lst _ _ h2)⟩) (by simp [t.length, t2.length]) (fun i v hi e => t.getV e) (fun i v hi e => t2.getV e), rfl⟩ hh⟩
  · cases hg
end
end GD
/-! own data layer: an instance made of a dict that stays one's own -/
namespace GD
open PySem PySem.Spec PyProof.Rows L2 GF
section
variable {K : PySem.W.Frag} {W : WX} {Lk Lk' : List Addr → Prop} {L : List Addr} {F F' R H H' : Hp} {io : List Nat}
mutual
/-- nothing frozen within but what is flat -/
def flatX : X → Bool
  | .fz d => flatF d
  | .ol ds => ds.all flatF
  | .od kds => (kds.map (·.2)).all flatF
  | .odt kds => (kds.map (·.2)).all flatF
  | .st _ _ _ => true
  | .oi _ fs => flatXs fs
def flatXs : List (Str × X) → Bool
  | [] => true
  | p :: r => flatX p.2 && flatXs r
end
mutual
theorem XR.flat_any {F0 : Hp} : ∀ {v : V} {x : X} {fp : Cells}, XR K F0 v x fp → flatX x = true → ∀ F, XR K F v x fp
  | _, _, _, .fz h, f, F => .fz (GD.flat_any h (by rw [flatX] at f; exact f) F)
  | _, _, _, .ol t, f, F => .ol (t.flat_any (by rw [flatX] at f; exact f) F)
  | _, _, _, .od e t, f, F => .od e (t.flat_any (by rw [flatX] at f; exact f) F)
  | _, _, _, .odt e t, f, F => .odt e (t.flat_any (by rw [flatX] at f; exact f) F)
  | _, _, _, .st S C cs k m, _, _ => .st S C cs k m
  | _, _, _, .oi (fxs := fxs) e t, f, F => .oi e (XRL.flat_any t (by rw [flatX] at f; exact f) F)
theorem XRL.flat_any {F0 : Hp} : ∀ {vs : List V} {fs : List (Str × X)} {fp : Cells}, XRL K F0 vs (fs.map (·.2)) fp → flatXs fs = true → ∀ F, XRL K F vs (fs.map (·.2)) fp
  | _, [], _, .nil, _, _ => .nil
  | _, p :: r, _, .cons h t, f, F => by
    rw [flatXs, Bool.and_eq_true] at f
    exact .cons (XR.flat_any h f.1 F) (XRL.flat_any (fs := r) t f.2 F)
end
def offL (L : List Addr) (p : Addr) : List Addr := L.filter fun b => b != p
theorem offL_mem {L : List Addr} {p b : Addr} : b ∈ offL L p ↔ b ∈ L ∧ b ≠ p := by
  unfold offL
  rw [List.mem_filter]
  simp
theorem sub_off {p : Addr} (h : Sub L F H) (n : ∀ o, F p = some o → H p = some o) : Sub (offL L p) F H := fun b o e => by
  by_cases hb : b = p
  · subst hb; exact .inl (n o e)
  · exact (h b o e).imp id fun ⟨m, z⟩ => ⟨offL_mem.mpr ⟨m, hb⟩, z⟩
theorem sub_on {p : Addr} (h : Sub (offL L p) F H) : Sub L F H := fun b o e => (h b o e).imp id fun ⟨m, z⟩ => ⟨(offL_mem.mp m).1, z⟩
/-- a cell that was lent out as frozen is one's own again -/
theorem Hs.unborrow {p : Addr} {o : HO} {fp ex : Cells} {F1 H1 : Hp} (k4 : Hs L F1 R ((p, o) :: fp) H1) (s : L2.Same (plus [(p, o)] F1) F') (h1 : Hs (offL L p) F' R (ex ++ fp) H') : Hs L F1 R (ex ++ ((p, o) :: fp)) H' := by
  have sF : L2.Same F1 (plus [(p, o)] F1) := (k4.fr.left (a := [(p, o)]) (b := fp)).same
  have hp : F' p = some o := s _ _ (show upd F1 p o p = some o from upd_same)
  have hp2 : H' p = some o := (h1.f p o hp).elim id fun ⟨m, _⟩ => absurd rfl (offL_mem.mp m).2
  refine ⟨fun b u e => sub_on h1.f b u (s _ _ (sF _ _ e)), h1.r, k4.d, fun q hq => ?_, ?_⟩
  · rcases List.mem_append.mp hq with hq | hq
    · obtain ⟨a1, a2, a3⟩ := h1.c q (List.mem_append_left _ hq)
      refine ⟨a1, ?_, a3⟩
      cases e : F1 q.1 with
      | none => rfl
      | some u => rw [s _ _ (sF _ _ e)] at a2; cases a2
    · rcases List.mem_cons.mp hq with rfl | hq
      · exact ⟨hp2, (k4.c _ List.mem_cons_self).2⟩
      · obtain ⟨a1, a2, a3⟩ := h1.c q (List.mem_append_right _ hq)
        exact ⟨a1, (k4.c q (List.mem_cons_of_mem _ hq)).2.1, a3⟩
  · have n1 := h1.n
    rw [List.map_append] at n1 ⊢
    obtain ⟨b1, b2, b3⟩ := List.nodup_append.mp n1
    refine List.nodup_append.mpr ⟨b1, k4.n, fun x hx y hy e => ?_⟩
    rcases List.mem_cons.mp hy with hy | hy
    · obtain ⟨q, hq, rfl⟩ := List.mem_map.mp hx
      have : y = p := hy
      rw [this] at e
      have a2 := (h1.c q (List.mem_append_left _ hq)).2.1
      rw [e, hp] at a2
      cases a2
    · exact b3 x hx y hy e
def kmakeB (C : Addr) (n : Nat) (mF : List X → Option Rf) (i : Nat) (d : D) (e : En) : Option (Rs X) := match gt e i with
  | some (.od kds) => if 3 = n ∧ (kds.map (·.2)).all flatF = true then match mF [.oi C [], .fz d, .fz (.dic kds)] with
    | some (.ok (.fz .non) [y]) => if flatX y = true then some (.ok y e) else none
    | _ => none else none
  | _ => none
def m_makeB (C : Addr) (n : Nat) (mF : List X → Option Rf) (i : Nat) (ma : OM D) : OM X := fun ê => bnd (ma ê) (kmakeB C n mF i)
theorem makeB_X {C : Addr} {n i : Nat} {mF : List X → Option Rf} {ta : TE} {ma : OM D} (hLk : ∀ L, Lk' L) (ha : OkD K W Lk ta ma) : OkX K W Lk (rN C (spF K Lk' n [0] mF) W (tCons ta (tCons (tVar i) tNil))) (m_makeB C n mF i ma) := by
  intro L R F H σ ê r Q hL hE hm hP
  refine ha.run hL hE hm hP fun v d ex F1 H1 e1 s1 hz hE2 hm2 hP2 => ?_
  obtain ⟨hz, rfl⟩ := hz
  unfold kmakeB at hm2
  split at hm2
  · rename_i kds hx
    split at hm2
    · rename_i hn
      obtain ⟨hn, hf⟩ := hn
      subst hn
      obtain ⟨v0, a, fp, k1, k2, k3, k4⟩ := hE2.at hx
      refine ⟨v0, k1, fun x dx nx ndx hne => ?_⟩
      cases k2 with
      | @od p kvs _ e t =>
        have k5 : Hs L F1 R ((p, .dK kvs) :: fp) H1 := k4
        have f1 : Fr F1 [(p, .dK kvs)] := k4.fr.left
        have sF : L2.Same F1 (plus [(p, .dK kvs)] F1) := f1.same
        have pF : plus [(p, .dK kvs)] F1 p = some (.dK kvs) := upd_same
        have hz2 : FzL K (plus [(p, .dK kvs)] F1) [v, .ref p] [d, .dic kds] := .cons (hz.mono sF) (.cons (.dic (.inl pF) e (t.mono sF)) .nil)
        have kf0 : Hs L (plus [(p, .dK kvs)] F1) R fp H1 := k4.freeze
        have kf : Hs (offL L p) (plus [(p, .dK kvs)] F1) R fp H1 := ⟨sub_off kf0.f fun o z => by
          rw [pF] at z
          obtain rfl := Option.some.inj z
          exact (k5.c _ List.mem_cons_self).1, kf0.r, kf0.d, kf0.c, kf0.n⟩
        have h1 : Hs (offL L p) (plus [(p, .dK kvs)] F1) R ((dx, .own x) :: fp) (upd H1 dx (.own x)) := kf.new ndx
        have h2 : Hs (offL L p) (plus [(p, .dK kvs)] F1) R ((x, .ins C dx []) :: (dx, .own x) :: fp) (upd (upd H1 dx (.own x)) x (.ins C dx [])) := h1.new (by rw [upd_ne (fun z => hne z.symm)]; exact nx)
        obtain ⟨o1, o2⟩ := Hs.over (a := [(x, .ins C dx []), (dx, .own x)]) h2
        have hxs : XRL K (plus [(p, .dK kvs)] F1) [.ref x, v, .ref p] [.oi C [], .fz d, .fz (.dic kds)] ([(x, .ins C dx []), (dx, .own x)] ++ []) := .cons (.oi (fs := []) (fxs := []) rfl .nil) (XRL.fz hz2)
        split at hm2
        · rename_i y hres
          split at hm2
          · rename_i hy0
            obtain rfl := Option.some.inj hm2
            refine ⟨rfl, _, _, _, _, _, _, hLk _, hxs, o1, hres, fun w H' F' ex fq s hx' hy hh' => ?_⟩
            cases hx' with
            | fz hv =>
              refine ⟨hv.toNon, ?_⟩
              cases hy with
              | cons hy1 hy2 =>
                cases hy2
                rename_i b
                rw [List.append_nil, List.nil_append] at hh'
                have hb := Hs.unborrow k5 s (o2 hh')
                obtain ⟨c, j1, j2⟩ := SR.back (XR.od e t) _ _ _ _ k3 k1
                refine hP2 _ H' F1 b (.refl _) (hy1.flat_any hy0 F1) ⟨c, ?_, hb.perm ((List.Perm.refl b).append j2.symm)⟩
                have : st' e1 i (some (.od kds)) = e1 := st'_id hx
                rw [← this]
                exact j1
          · cases hm2
        · cases hm2
    · cases hm2
  · cases hm2
end
end GD
/-! own data layer: how mirrors run -/
namespace GD
open PySem PySem.Spec PyProof.Rows L2 GF
theorem mA_ok {γ : Type} {g : List D → Option γ} {m : OM (List D)} {ê e : En} {ds : List D} {b : γ} (h : m ê = some (.ok ds e)) (hg : g ds = some b) : mA g m ê = some (.ok b e) := by
  unfold mA un?; rw [h, bnd_ok]; simp only [hg]
theorem ret_ok {ê e : En} {m : OM X} {x : X} (h : m ê = some (.ok x e)) : m_ret m ê = some (.rt x e) := by unfold m_ret; rw [h]; rfl
theorem call_ok {n : Nat} {f : List X → Option Rf} {m : OM (List D)} {ê e : En} {ds : List D} {x : X} (h : m ê = some (.ok ds e)) (hn : ds.length = n) (hf : f (ds.map .fz) = some (.ok x [])) : m_call n f m ê = some (.ok x e) := by
  unfold m_call; rw [h, bnd_ok]; unfold kcall; rw [if_pos hn, hf]
theorem set_ok {ê e e2 : En} {m : OM X} {x : X} {g : X → En → Option En} (h : m ê = some (.ok x e)) (h2 : g x e = some e2) : m_set m g ê = some (.nx e2) := by
  unfold m_set; rw [h]; show kset g x e = _; unfold kset; rw [h2]
theorem drop_ok {ê e : En} {m : OM X} {x : X} (h : m ê = some (.ok x e)) : m_drop m ê = some (.nx e) := by unfold m_drop; rw [h]; rfl
theorem if_t {ê e : En} {c : OM Bool} {a b : SM} {o : Option Ot} (h : c ê = some (.ok true e)) (h2 : a e = o) : m_if c a b ê = o := by unfold m_if; rw [h]; exact h2
theorem if_f {ê e : En} {c : OM Bool} {a b : SM} {o : Option Ot} (h : c ê = some (.ok false e)) (h2 : b e = o) : m_if c a b ê = o := by unfold m_if; rw [h]; exact h2
theorem nil_ok {ê : En} : m_nil ê = some (.ok [] ê) := rfl
theorem cons_ok {ê e e2 : En} {a : OM D} {r : OM (List D)} {d : D} {ds : List D} (h : a ê = some (.ok d e)) (h2 : r e = some (.ok ds e2)) : m_cons a r ê = some (.ok (d :: ds) e2) := by
  unfold m_cons
  rw [h, bnd_ok]
  unfold kc
  rw [h2]
  rfl
theorem append_ok {i : Nat} {m : OM D} {ê e : En} {d : D} {ds ds0 : List D} (h : m ê = some (.ok d e)) (h0 : gt ê i = some (.ol ds0)) (h1 : gt e i = some (.ol ds)) (hl : ds.length < sizeLine) : m_append i m ê = some (.ok (.fz .non) (st' e i (some (.ol (ds ++ [d]))))) := by
  unfold m_append ifOl
  rw [h0]
  show bnd (m ê) (kap i) = _
  rw [h, bnd_ok]
  unfold kap
  rw [h1]
  show (if ds.length < sizeLine then _ else none) = _
  rw [if_pos hl]
theorem fr_fz {ê e : En} {m : OM X} {d : D} (h : m ê = some (.ok (.fz d) e)) : m_fr m ê = some (.ok d e) := by unfold m_fr; rw [h]; rfl
theorem m1_ok {γ : Type} {g : D → Option γ} {m : OM D} {ê e : En} {a : D} {b : γ} (h : m ê = some (.ok a e)) (hg : g a = some b) : m1 g m ê = some (.ok b e) := by
  unfold m1 un?; rw [h, bnd_ok]; simp only [hg]
theorem up_ok {ê e : En} {m : OM D} {d : D} (h : m ê = some (.ok d e)) : m_up m ê = some (.ok (.fz d) e) := by unfold m_up; rw [h]; rfl
theorem on_ok {γ : Type} {p : D → Bool} {g : D → D → Option γ} {mo m : OM D} {ê e1 e : En} {o a : D} {c : γ} (h : mo ê = some (.ok o e1)) (hp : p o = true) (h2 : m e1 = some (.ok a e)) (hg : g o a = some c) : m_on p g mo m ê = some (.ok c e) := by
  unfold m_on
  rw [h, bnd_ok]
  unfold kon2
  simp only [hp, h2, bnd_ok]
  unfold un?
  simp only [hg]
theorem m2_ok {γ : Type} {g : D → D → Option γ} {ma mb : OM D} {ê e e2 : En} {a b : D} {c : γ} (h : ma ê = some (.ok a e)) (h2 : mb e = some (.ok b e2)) (hg : g a b = some c) : m2 g ma mb ê = some (.ok c e2) := by
  unfold m2
  rw [h, bnd_ok]
  unfold k2
  rw [h2, bnd_ok]
  unfold un?
  simp only [hg]
theorem seq_rt {ê e : En} {a b : SM} {x : X} (h : a ê = some (.rt x e)) : m_seq a b ê = some (.rt x e) := by unfold m_seq; rw [h]; rfl
theorem seq_nx {ê e : En} {a b : SM} (h : a ê = some (.nx e)) : m_seq a b ê = b e := by unfold m_seq; rw [h]; rfl
theorem for_ok {mi : OM (List D)} {mg : X → En → Option En} {mb : SM} {ê e : En} {ds : List D} {o : Option Ot} (h : mi ê = some (.ok ds e)) (h2 : forL mg mb ds e = o) : m_for mi mg mb ê = o := by unfold m_for; rw [h]; exact h2
theorem var_ok {ê : En} {i : Nat} {d : D} (h : gt ê i = some (.fz d)) : m_var i ê = some (.ok d ê) := by
  unfold m_var
  rw [h]
  show some (Rs.ok d (st' ê i (some (.fz d)))) = _
  rw [st'_id h]
theorem mv_ok {ê : En} {i : Nat} {d : D} (h : gt ê i = some (.fz d)) : m_mv i ê = some (.ok (.fz d) ê) := by
  unfold m_mv
  rw [h]
/-! ### what is compared -/
theorem eqD_int (n : Bool) (a b : Int) : eqD n (.int a) (.int b) = some (.bl (xor n (decide (a = b)))) := by
  unfold eqD
  simp only [toP]
  rw [if_pos ⟨by rfl, by rfl⟩, PyData.eqv]
  rfl
theorem kseq_l (ds : List D) : kseq (.lst ds) = some ds := rfl
theorem kseq_t (ds : List D) : kseq (.tup ds) = some ds := rfl
theorem kifS_congr {a b : SM} {c c' : Bool} {e e' : En} (h : c = c') (h2 : e = e') : kifS a b c e = kifS a b c' e' := by rw [h, h2]
theorem kif_congr {α : Type} {a b : OM α} {c c' : Bool} {e e' : En} (h : c = c') (h2 : e = e') : kif a b c e = kif a b c' e' := by rw [h, h2]
theorem m_while_congr {mc : OM Bool} {mb : SM} {n : Nat} {e e' : En} (h : e = e') : m_while n mc mb e = m_while n mc mb e' := by rw [h]
theorem m_for_congr {mi : OM (List D)} {mg : X → En → Option En} {mb : SM} {e e' : En} (h : e = e') : m_for mi mg mb e = m_for mi mg mb e' := by rw [h]
theorem m_lc_congr {mi : OM (List D)} {mg : X → En → Option En} {mt : OM Bool} {me : OM D} {vs : List Nat} {e e' : En} (h : e = e') : m_lc mi mg mt me vs e = m_lc mi mg mt me vs e' := by rw [h]
theorem m_dc_congr {mi : OM (List D)} {mg : X → En → Option En} {mt : OM Bool} {mk mv : OM D} {vs : List Nat} {e e' : En} (h : e = e') : m_dc mi mg mt mk mv vs e = m_dc mi mg mt mk mv vs e' := by rw [h]
theorem m_seq_congr {a b : SM} {e e' : En} (h : e = e') : m_seq a b e = m_seq a b e' := by rw [h]
theorem m_if_congr {c : OM Bool} {a b : SM} {e e' : En} (h : e = e') : m_if c a b e = m_if c a b e' := by rw [h]
theorem m_ite_congr {α : Type} {c : OM Bool} {a b : OM α} {e e' : En} (h : e = e') : m_ite c a b e = m_ite c a b e' := by rw [h]
theorem lcL_congr {mg : X → En → Option En} {mt : OM Bool} {me : OM D} {vs : List Nat} {ds ds' acc acc' : List D} {e e' : En} (h : ds = ds') (h2 : acc = acc') (h3 : e = e') : lcL mg mt me vs ds acc e = lcL mg mt me vs ds' acc' e' := by rw [h, h2, h3]
theorem forL_congr {mg : X → En → Option En} {mb : SM} {ds ds' : List D} {e e' : En} (h : ds = ds') (h3 : e = e') : forL mg mb ds e = forL mg mb ds' e' := by rw [h, h3]
theorem whL_congr {mc : OM Bool} {mb : SM} {n : Nat} {e e' : En} (h3 : e = e') : whL mc mb n e = whL mc mb n e' := by rw [h3]
theorem dcL_congr {mg : X → En → Option En} {mt : OM Bool} {mk mv : OM D} {vs : List Nat} {ds ds' : List D} {acc acc' : List (Key × D)} {e e' : En} (h : ds = ds') (h2 : acc = acc') (h3 : e = e') : dcL mg mt mk mv vs ds acc e = dcL mg mt mk mv vs ds' acc' e' := by rw [h, h2, h3]


/-! ### comprehensions -/
theorem lc_pure {mg : X → En → Option En} {mt : OM Bool} {me : OM D} {vs : List Nat} {e0 : En} (f : D → Option D) : ∀ (ds acc : List D), (∀ d ∈ ds, ∃ e1, lcT mg mt me d e0 = some (f d, e1) ∧ wpE e1 vs = e0) → acc.length + ds.length ≤ sizeLine → lcL mg mt me vs ds acc e0 = some (.ok (.ol (acc ++ ds.filterMap f)) e0)
  | [], acc, _, _ => by rw [lcL, List.filterMap_nil, List.append_nil]
  | d :: r, acc, h, hl => by
    obtain ⟨e1, h1, h2⟩ := h d List.mem_cons_self
    rw [lcL, h1]
    rw [List.length_cons] at hl
    cases hf : f d with
    | none =>
      show lcL mg mt me vs r acc (wpE e1 vs) = _
      rw [h2, lc_pure f r acc (fun d hd => h d (List.mem_cons_of_mem _ hd)) (by omega), List.filterMap_cons_none hf]
    | some y =>
      show (if acc.length < sizeLine then lcL mg mt me vs r (acc ++ [y]) (wpE e1 vs) else none) = _
      rw [if_pos (by omega), h2, lc_pure f r (acc ++ [y]) (fun d hd => h d (List.mem_cons_of_mem _ hd)) (by rw [List.length_append]; simp; omega), List.filterMap_cons_some hf, List.append_assoc]
      rfl
theorem lc_map {mg : X → En → Option En} {mt : OM Bool} {me : OM D} {vs : List Nat} {e0 : En} (f : D → D) (ds : List D) (h : ∀ d ∈ ds, ∃ e1, lcT mg mt me d e0 = some (some (f d), e1) ∧ wpE e1 vs = e0) (hl : ds.length ≤ sizeLine) : lcL mg mt me vs ds [] e0 = some (.ok (.ol (ds.map f)) e0) := by
  rw [lc_pure (fun d => some (f d)) ds [] h (by rw [List.length_nil]; omega), List.nil_append, List.filterMap_eq_map']
theorem lc_filter {mg : X → En → Option En} {mt : OM Bool} {me : OM D} {vs : List Nat} {e0 : En} (p : D → Bool) (ds : List D) (h : ∀ d ∈ ds, ∃ e1, lcT mg mt me d e0 = some (if p d = true then some d else none, e1) ∧ wpE e1 vs = e0) (hl : ds.length ≤ sizeLine) : lcL mg mt me vs ds [] e0 = some (.ok (.ol (ds.filter p)) e0) := by
  rw [lc_pure (fun d => if p d = true then some d else none) ds [] h (by rw [List.length_nil]; omega), List.nil_append]
  congr 3
  clear h hl
  induction ds with
  | nil => rfl
  | cons d r ih => rw [List.filterMap_cons, List.filter_cons, ih]; split <;> (rename_i h; split at h <;> simp_all)
/-- with a state that goes on -/
theorem lc_run {mg : X → En → Option En} {mt : OM Bool} {me : OM D} {vs : List Nat} (I : En → Prop) (Rl : D → D → Prop) : ∀ (ds acc : List D) (e : En), I e → (∀ d ∈ ds, ∀ e, I e → ∃ y e1, lcT mg mt me d e = some (some y, e1) ∧ I (wpE e1 vs) ∧ Rl d y) → acc.length + ds.length ≤ sizeLine →
    ∃ ys e', lcL mg mt me vs ds acc e = some (.ok (.ol (acc ++ ys)) e') ∧ I e' ∧ Paired Rl ds ys
  | [], acc, e, hi, _, _ => ⟨[], e, by rw [lcL, List.append_nil], hi, .nil⟩
  | d :: r, acc, e, hi, h, hl => by
    obtain ⟨y, e1, h1, h2, h3⟩ := h d List.mem_cons_self e hi
    rw [List.length_cons] at hl
    obtain ⟨ys, e', k1, k2, k3⟩ := lc_run I Rl r (acc ++ [y]) (wpE e1 vs) h2 (fun d hd => h d (List.mem_cons_of_mem _ hd)) (by rw [List.length_append]; simp; omega)
    refine ⟨y :: ys, e', ?_, k2, .cons h3 k3⟩
    rw [lcL, h1]
    show (if acc.length < sizeLine then lcL mg mt me vs r (acc ++ [y]) (wpE e1 vs) else none) = _
    rw [if_pos (by omega), k1, List.append_assoc]
    rfl
/-! ### texts -/
abbrev strD (ns : List Str) : List D := ns.map D.str
theorem toPs_str : ∀ ns : List Str, toPs (strD ns) = some (ns.map PyData.str)
  | [] => by rw [strD, List.map_nil, toPs]; rfl
  | n :: r => by rw [strD, List.map_cons, toPs, toP, toPs_str r]; rfl
theorem eqD_strs (n : Bool) {a b : List Str} (ha : ∀ y ∈ a, PyData.strOk y = true) (hb : ∀ y ∈ b, PyData.strOk y = true) : eqD n (.lst (strD a)) (.lst (strD b)) = some (.bl (xor n (decide (a = b)))) := by
  unfold eqD
  rw [toP, toP, toPs_str, toPs_str]
  show (if SeqAt.shaped (.list (a.map PyData.str)) = true ∧ SeqAt.shaped (.list (b.map PyData.str)) = true then some (D.bl (xor n (PyData.eqv (.list (a.map PyData.str)) (.list (b.map PyData.str))))) else none) = _
  rw [if_pos ⟨GL.shaped_list ha, GL.shaped_list hb⟩, GL.eqv_lists]
theorem eqD_tups (n : Bool) {a b : List Str} (ha : ∀ y ∈ a, PyData.strOk y = true) (hb : ∀ y ∈ b, PyData.strOk y = true) : eqD n (.tup (strD a)) (.tup (strD b)) = some (.bl (xor n (decide (a = b)))) := by
  unfold eqD
  rw [toP, toP, toPs_str, toPs_str]
  show (if SeqAt.shaped (.tuple (a.map PyData.str)) = true ∧ SeqAt.shaped (.tuple (b.map PyData.str)) = true then some (D.bl (xor n (PyData.eqv (.tuple (a.map PyData.str)) (.tuple (b.map PyData.str))))) else none) = _
  rw [if_pos ⟨GL.shaped_tup ha, GL.shaped_tup hb⟩, GL.eqv_tups]
theorem flat_strs (ns : List Str) : (strD ns).all flatF = true := by
  rw [List.all_eq_true]
  intro d hd
  obtain ⟨x, _, rfl⟩ := List.mem_map.mp hd
  rfl
theorem any_strs (ns : List Str) (x : Str) : ((strD ns).any fun y => eqV (toV y) (toV (.str x))) = decide (x ∈ ns) := by
  induction ns with
  | nil => rfl
  | cons n r ih =>
    rw [strD, List.map_cons, List.any_cons, ih]
    show ((n == x) || decide (x ∈ r)) = _
    by_cases h : n = x
    · subst h; simp
    · have h2 : ¬ x = n := fun z => h z.symm
      rw [beq_false_of_ne h]
      simp [h2]
theorem inF_lst (n : Bool) (x : Str) (ns : List Str) : inF n (.str x) (.lst (strD ns)) = some (.bl (xor n (decide (x ∈ ns)))) := by
  unfold inF
  simp only
  rw [if_pos ⟨rfl, flat_strs ns⟩, any_strs]
theorem inF_tup (n : Bool) (x : Str) (ns : List Str) : inF n (.str x) (.tup (strD ns)) = some (.bl (xor n (decide (x ∈ ns)))) := by
  unfold inF
  simp only
  rw [if_pos ⟨rfl, flat_strs ns⟩, any_strs]
theorem blsOf_rep : ∀ bs : List Bool, blsOf (bs.map D.bl) = some bs
  | [] => rfl
  | b :: r => by rw [List.map_cons, blsOf, blsOf_rep r]; rfl
theorem all_true_bl (ds : List D) : allG (.lst (ds.map fun _ => D.bl true)) = some (.bl true) := by
  unfold allG
  simp only
  rw [show (ds.map fun _ => D.bl true) = (List.replicate ds.length true).map D.bl from by
    induction ds with
    | nil => rfl
    | cons d r ih => rw [List.map_cons, ih, List.length_cons, List.replicate_succ, List.map_cons], blsOf_rep, Option.map_some, GL.all_rep]
theorem strsOf_strs : ∀ ns : List Str, strsOf (strD ns) = some ns
  | [] => rfl
  | n :: r => by rw [strD, List.map_cons, strsOf, strsOf_strs r]; rfl
theorem atI_map {α β : Type} (f : α → β) (xs : List α) (i : Int) : atI (xs.map f) i = (atI xs i).map f := by
  unfold atI
  rw [List.length_map]
  cases ixN xs.length i with
  | none => rfl
  | some j => exact List.getElem?_map
theorem cut_map {α β : Type} (f : α → β) (xs : List α) (lo hi : Option Int) : cutG (xs.map f) lo hi = (cutG xs lo hi).map f := by
  unfold cutG
  rw [List.length_map, List.map_take, List.map_drop]
theorem cutG_take {α : Type} (xs : List α) (k : Nat) : cutG xs none (some (k : Int)) = xs.take k := by
  unfold cutG
  have e : HT.sIx xs.length 0 none = 0 := rfl
  rw [e, List.drop_zero, Nat.sub_zero]
  have e2 : HT.sIx xs.length xs.length (some (k : Int)) = min k xs.length := by
    unfold HT.sIx
    simp
    omega
  rw [e2, GL.take_min]
theorem cutG_drop {α : Type} (xs : List α) (k : Nat) : cutG xs (some (k : Int)) none = xs.drop k := by
  unfold cutG
  have e2 : HT.sIx xs.length 0 (some (k : Int)) = min k xs.length := by
    unfold HT.sIx
    simp
    omega
  have e : HT.sIx xs.length xs.length none = xs.length := rfl
  rw [e, e2, GL.drop_min, List.take_of_length_le (by rw [List.length_drop]; omega)]

theorem idxF {ns : List Str} {x : Str} (h : x ∈ ns) : (ns.findIdx? fun y => y == x) = some (ns.idxOf x) := by
  induction ns with
  | nil => cases h
  | cons n r ih =>
    rw [List.findIdx?_cons, List.idxOf_cons]
    by_cases e : n = x
    · subst e
      simp
    · have hb : (n == x) = false := beq_false_of_ne e
      rw [hb]
      simp only [Bool.false_eq_true, if_false, cond_false]
      rw [ih ((List.mem_cons.mp h).resolve_left fun z => e z.symm)]
      rfl
theorem idxL_ok {ns : List Str} {x : Str} (h : x ∈ ns) : idxL (.lst (strD ns)) (.str x) = some (.int (ns.idxOf x : Nat)) := by
  show idxG (strD ns) (.str x) = _
  unfold idxG
  rw [if_pos ⟨rfl, flat_strs ns⟩]
  have : ((strD ns).findIdx? fun y => eqV (toV y) (toV (.str x))) = ns.findIdx? fun y => y == x := by
    rw [strD, List.findIdx?_map]
    rfl
  rw [this, idxF h]
  rfl
theorem idxT_ok {ns : List Str} {x : Str} (h : x ∈ ns) : idxT (.tup (strD ns)) (.str x) = some (.int (ns.idxOf x : Nat)) := by
  unfold idxT
  simp only [strsOf_strs, idxF h]
  rfl
theorem last_l (found : List Str) (x : Str) : ixL (.lst (strD (found ++ [x]))) (.int (-1)) = some (.str x) := by
  unfold ixL
  simp only
  rw [strD, atI_map]
  have : atI (found ++ [x]) (-1) = some x := by
    have h0 : ixN (found ++ [x]).length (-1) = some found.length := by
      unfold ixN
      rw [if_neg (by decide), List.length_append, List.length_singleton, if_pos (by omega)]
      congr 1
      omega
    unfold atI
    rw [h0]
    simp
  rw [this]
  rfl
theorem last_t (found : List Str) (x : Str) : ixT (.tup (strD (found ++ [x]))) (.int (-1)) = some (.str x) := last_l found x
theorem at_ok {ns : List Str} {j : Nat} {x : Str} (h : ns[j]? = some x) : atI (strD ns) (j : Int) = some (.str x) := by
  rw [strD, atI_map, GL.atI_at rfl h]
  rfl
def seqD (b : Bool) (ds : List D) : D := match b with | false => .lst ds | true => .tup ds
theorem kseq_ok (b : Bool) (ds : List D) : kseq (seqD b ds) = some ds := by cases b <;> rfl
theorem lenA_ok (b : Bool) (ds : List D) : lenA (seqD b ds) = some (.int ds.length) := by cases b <;> rfl
theorem inF_ok (b n : Bool) (x : Str) (ns : List Str) : inF n (.str x) (seqD b (strD ns)) = some (.bl (xor n (decide (x ∈ ns)))) := by
  cases b
  · exact inF_lst n x ns
  · exact inF_tup n x ns
theorem lastD (b : Bool) (found : List Str) (x : Str) : ixA (seqD b (strD (found ++ [x]))) (.int (-1)) = some (.str x) := by
  cases b
  · exact last_l found x
  · exact last_t found x
end GD
/-! what is shown of data is a text that can be laid -/
namespace GShow
open PySem PySem.Builtin PySem.Builtin.Str PySem.Str
theorem okA (a b : Str) : PyData.strOk (a ++ b) = (PyData.strOk a && PyData.strOk b) := by
  show (a.cps ++ b.cps).all _ = _
  rw [Array.all_append]
  rfl
theorem okL (s : String) : PyData.strOk (s : Str) = true := by
  rw [Str.ofString_eq_toList]
  unfold PyData.strOk
  show (s.toList.map Char.toNat).toArray.all _ = true
  rw [List.all_toArray, List.all_eq_true]
  intro n hn
  obtain ⟨c, _, rfl⟩ := List.mem_map.mp hn
  have h := c.valid
  simp only [UInt32.isValidChar, Nat.isValidChar] at h
  have ht : c.toNat = c.val.toNat := rfl
  rw [ht]
  exact decide_eq_true (by omega)
theorem okJ {sep : Str} (hs : PyData.strOk sep = true) : ∀ ts : List Str, (∀ t ∈ ts, PyData.strOk t = true) → PyData.strOk (Str.join sep ts) = true
  | [], _ => by show PyData.strOk Str.empty = true; decide +kernel
  | [t], h => h t List.mem_cons_self
  | t :: u :: r, h => by
    show PyData.strOk (t ++ sep ++ Str.join sep (u :: r)) = true
    rw [okA, okA, h t List.mem_cons_self, hs, okJ hs (u :: r) fun y hy => h y (List.mem_cons_of_mem _ hy)]
    rfl
theorem ok_char {q c : Nat} (hq : q < 0x110000) (hc : c < 0x110000) : ∀ d ∈ reprChar q c, d < 0x110000 := by
  have hx : ∀ w : Nat, ∀ d ∈ List.replicate (w - ((Nat.toDigits 16 c).map Char.toNat).length) 48 ++ (Nat.toDigits 16 c).map Char.toNat, d < 0x110000 := fun w d hd => by
    rcases List.mem_append.mp hd with h | h
    · rw [(List.mem_replicate.mp h).2]; decide
    · obtain ⟨x, _, rfl⟩ := List.mem_map.mp h
      have h := x.valid
      simp only [UInt32.isValidChar, Nat.isValidChar] at h
      have ht : x.toNat = x.val.toNat := rfl
      omega
  intro d hd
  unfold reprChar at hd
  dsimp only at hd
  split at hd
  · simp at hd; omega
  · split at hd
    · simp at hd; omega
    · split at hd
      · simp at hd; omega
      · split at hd
        · simp at hd; omega
        · split at hd
          · simp at hd; omega
          · split at hd
            · rcases List.mem_append.mp hd with h | h
              · simp at h; omega
              · exact hx 2 d h
            · split at hd
              · rcases List.mem_append.mp hd with h | h
                · simp at h; omega
                · exact hx 4 d h
              · rcases List.mem_append.mp hd with h | h
                · simp at h; omega
                · exact hx 8 d h
theorem ok_fold {q : Nat} (hq : q < 0x110000) : ∀ (l : List Nat) (acc : Array Nat), (∀ c ∈ l, c < 0x110000) → (∀ d ∈ acc.toList, d < 0x110000) → ∀ d ∈ (l.foldl (fun out c => out ++ (reprChar q c).toArray) acc).toList, d < 0x110000
  | [], acc, _, ha => ha
  | c :: r, acc, h, ha => by
    rw [List.foldl_cons]
    refine ok_fold hq r _ (fun d hd => h d (List.mem_cons_of_mem _ hd)) fun d hd => ?_
    rw [Array.toList_append] at hd
    rcases List.mem_append.mp hd with hd | hd
    · exact ha d hd
    · exact ok_char hq (h c List.mem_cons_self) d hd
theorem ok_iff {x : Str} : PyData.strOk x = true ↔ ∀ c ∈ x.cps.toList, c < 0x110000 := by
  unfold PyData.strOk
  rw [← Array.all_toList, List.all_eq_true]
  exact ⟨fun h c hc => of_decide_eq_true (h c hc), fun h c hc => decide_eq_true (h c hc)⟩
theorem okR {x : Str} (h : PyData.strOk x = true) : PyData.strOk (reprText x) = true := by
  have hq : reprQuote x < 0x110000 := by unfold reprQuote; split <;> decide
  rw [ok_iff]
  unfold reprText
  intro c hc
  rw [Array.toList_push] at hc
  rcases List.mem_append.mp hc with hc | hc
  · rw [← Array.foldl_toList] at hc
    exact ok_fold hq x.cps.toList _ (ok_iff.mp h) (fun d hd => by rw [List.mem_singleton.mp hd]; exact hq) c hc
  · rw [List.mem_singleton.mp hc]; exact hq
mutual
theorem ok_shown : ∀ d : PyData, d.canLay0 = true → PyData.strOk d.shown = true
  | .none, _ => by rw [PyData.shown_none]; exact okL _
  | .bool b, _ => by rw [PyData.shown_bool]; cases b <;> exact okL _
  | .int i, _ => by rw [PyData.shown_int]; exact okL _
  | .str x, h => by
    rw [PyData.shown_str]
    exact okR (by simpa [PyData.canLay0] using h)
  | .list xs, h => by
    rw [PyData.shown_list, okA, okA, okL, okL, okJ (okL _) _ (ok_shownAll xs (by simpa [PyData.canLay0] using h))]
    rfl
  | .tuple xs, h => by
    rw [PyData.shown_tuple, okA, okA, okL, okL, okJ (okL _) _ (ok_shownAll xs (by simpa [PyData.canLay0] using h))]
    rfl
  | .dict _, h => by simp [PyData.canLay0] at h
theorem ok_shownAll : ∀ xs : List PyData, PyData.canLayAll0 xs = true → ∀ t ∈ PyData.shownAll xs, PyData.strOk t = true
  | [], _ => fun t ht => by rw [PyData.shownAll_nil] at ht; cases ht
  | x :: xs, h => fun t ht => by
    have h' : x.canLay0 = true ∧ PyData.canLayAll0 xs = true := by simpa [PyData.canLayAll0] using h
    rw [PyData.shownAll_cons] at ht
    rcases List.mem_cons.mp ht with rfl | ht
    · exact ok_shown x h'.1
    · exact ok_shownAll xs h'.2 t ht
end
end GShow
/-! own: a law told by its mirror -/
namespace GD
open PySem PySem.Spec PyProof.Rows L2 GF
theorem fg_weak {P : Program} {w : World} {K : PySem.W.Frag} {mg : Str → Option Value} {base : Heap} {k : Nat} {f : Addr} {fd : FuncData} {ps : List Str} {sp sp' : Sp} (g : FG P w K mg base k f fd ps sp) (h : ∀ vs H Q E, sp' vs H Q E → sp vs H Q E) : FG P w K mg base k f fd ps sp' :=
  ⟨fun vs H Q E q => g.arity vs H Q E (h _ _ _ _ q), fun A os z G ar xs ys Q E r c e b v q => g.goes A os z G ar xs ys Q E r c e b v (h _ _ _ _ q)⟩
theorem law_sp {K : PySem.W.Frag} {m : List X → Option Rf} (hm : ∀ ns : List Int, ns.length ≤ 63 → m [.fz (.scr ns)] = some (.ok (.fz (.bl true)) [])) : ∀ vs H Q E, GL.spLaw K vs H Q E → spF K Lk0 1 [] m vs H Q E := by
  rintro vs H Q E ⟨a, ns, rfl, hS, hl, hQ⟩
  refine ⟨rfl, [], fun _ => none, H, [.fz (.scr ns)], [] ++ [], _, ?_, .cons (.fz (.scr hS)) .nil, ⟨fun b o h => .inl h, fun b o h => (nomatch h), fun b o h => (nomatch h), fun p hp => (nomatch hp), List.nodup_nil⟩, hm ns hl, ?_⟩
  · trivial
  · intro v H' F' ex fq s hx hy hh
    cases hx with
    | fz h =>
      rw [h.toBl]
      exact hQ H'
end GD
/-! Own rule: y = {k: v for ..}, the block's own name a local of the def too. -/
namespace L2
open PySem PySem.Spec PyProof.Rows
section
variable {X : Cx}
theorem ps_setDc {i : Nat} {y : Str} {py : Pos} {kx vx tg iter : Expr} {ifs : List Expr} {scope : Scope} {own : List (Str × Nat)} {pos spos : Pos} {wi : TI} {g : TG} {tt : TT} {tk tv : TE} (hc : X.calm = true) (hN : X.N.Nodup) (hy : X.N[i]? = some y) (hyl : X.env.scope.names.lookup y = some .local)
    (hsw : swapsWith (.DictComp kx vx [⟨tg, iter, ifs, 0⟩] scope pos) (some (.Name y py)) spos.line X.env = pure true) (hi : PI X tg iter wi) (ok : BlkOk X.N X.env.scope scope own)
    (hg : ∀ (s : Shared) (H : Hp) (C : Addr) (cl : List (Str × Addr)) (fp : List Addr), PG (X.blk s H scope (compEnvC scope cl C X.env) fp) tg g) (ht : ∀ (s : Shared) (H : Hp) (C : Addr) (cl : List (Str × Addr)) (fp : List Addr), PTs (X.blk s H scope (compEnvC scope cl C X.env) fp) ifs tt)
    (hk : ∀ (s : Shared) (H : Hp) (C : Addr) (cl : List (Str × Addr)) (fp : List Addr), PE (X.blk s H scope (compEnvC scope cl C X.env) fp) kx tk)
    (he : ∀ (s : Shared) (H : Hp) (C : Addr) (cl : List (Str × Addr)) (fp : List Addr), PE (X.blk s H scope (compEnvC scope cl C X.env) fp) vx tv) (hs : ∀ x, foldedSetIterable iter X.env x = pure x := by intro _; rfl) :
    PS X (.Assign [.Name y py] (.DictComp kx vx [⟨tg, iter, ifs, 0⟩] scope pos) spos) (tAsg (tDc wi g tt tk tv (own.map (·.2))) (gName i)) := by
  refine ⟨fun pins s σ H D I h => ?_⟩
  rw [exec_Assign_Name_used _ _ _ _ hsw]
  refine wpAny_bind (wpAny_standAt (wpAny_bind ?_))
  show wpAny _ X.A (do let _ ← comprehension (.DictComp kx vx [⟨tg, iter, ifs, 0⟩] scope pos) scope X.env (firstIterPos [⟨tg, iter, ifs, 0⟩] pos) newDict false (eval iter X.env) (some (assign (.Name y py) X.env))) _ _ s
  have h : tDc wi g tt tk tv (own.map (·.2)) σ H (fun x H1 => gName i x σ H1 D.nx) := h
  refine wpAny_bind (thn (dc_core (Qf := fun _ s' => SP X pins D .next s') hc hN I hi ok hg ht hk he hs h fun L C s' m H' I' q hn f => ?_) fun _ s' hq => wpAny_pure (wpAny_pure hq))
  show wpAny _ _ (assign (.Name y py) X.env (.ref L)) _ _ _
  refine wpAny_assign_Name (store_ok2 (v := V.ref L) I' hN hy (.inl hyl) rfl (fun s2 I2 ⟨a, sb, ha⟩ => ?_) (.inr hyl))
  obtain ⟨f0, f1, f2, f3, f4, f5⟩ := f
  have haC : C ≠ a := by
    rcases ha with z | z
    · rw [z]; exact f1
    · exact fun e => f4 y a z e.symm
  refine ⟨m, hn.sameBut sb haC, fun h3 sb3 => ?_⟩
  exact ⟨_, H', I2.turned (t' := s2.toks) (fun b o hb e => (sb3.2 b hb).trans e) f0 f1 f3 f4 f5, q⟩
theorem swd_true {kx vx : Expr} {gs : List Comprehension} {scope : Scope} {pos py : Pos} {y : Str} {l : Nat} {env : Env} (hk : env.scope.kind = .function) (hy : env.scope.names.lookup y = some .local) (hl : (py.line == pos.line) = true)
    (ha : (scope.names.any fun (n, k) => n == y && (k == .local || k == .cell)) = false) : swapsWith (.DictComp kx vx gs scope pos) (some (.Name y py)) l env = pure true := by
  have ky : env.kindOf y = some .local := hy
  have hb : env.blockKind = .function := by unfold Env.blockKind; rw [hk]; rfl
  unfold swapsWith
  simp only [hb, ky, ha, Expr.pos, hl]
  rfl
end
end L2
/-! Own rule: dict(zip(a, b)), two lists of one length. -/
namespace L2
open PySem PySem.Spec PyProof.Rows
variable {X : Cx}
theorem zip_kv {P : Program} {w : World} : ∀ {ks : List Key} {xs : List V} {us vs : List Value}, Vals (ks.map kV) us → Vals xs vs → ks.length = xs.length →
    KV (ks.zip xs) (ks.zip vs) ∧ (ks.zip vs).length = ks.length ∧ us.length = ks.length ∧ vs.length = ks.length ∧ ∀ (i : Nat) (u v : Value), us[i]? = some u → vs[i]? = some v → ∃ k, (ks.zip vs)[i]? = some (k, v) ∧ (mixKind P w).is k u = true
  | [], [], _, _, .nil, .nil, _ => ⟨.nil, rfl, rfl, rfl, fun i u v e _ => by simp at e⟩
  | k :: ks, x :: xs, _, _, .cons (b := u) (l₂ := us) r1 t1, .cons (b := v) (l₂ := vs) r2 t2, h => by
    obtain ⟨a, b, b1, b2, c⟩ := zip_kv (P := P) (w := w) t1 t2 (by simpa using h)
    refine ⟨.cons ⟨rfl, r2⟩ a, by simpa using b, by simpa using b1, by simpa using b2, fun i u' v' e1 e2 => ?_⟩
    cases i with
    | zero =>
      have e1 : u = u' := Option.some.inj e1
      have e2 : v = v' := Option.some.inj e2
      subst e1
      subst e2
      exact ⟨k, rfl, kV_is (P := P) (w := w) r1⟩
    | succ i =>
      obtain ⟨k', d1, d2⟩ := c i u' v' (by simpa using e1) (by simpa using e2)
      exact ⟨k', by simpa using d1, d2⟩
  | [], _ :: _, _, _, _, _, h => by simp at h
  | _ :: _, [], _, _, _, _, h => by simp at h
def tDictZip (K : PySem.W.Frag) (ta : TA) : TE := fun σ H Q => ta σ H fun vs H1 => ∃ (a b : Addr) (ks : List Key) (xs : List V), vs = [.ref a, .ref b] ∧ SqL K H1 a (ks.map kV) ∧ SqL K H1 b xs ∧ ks.length = xs.length ∧ ∀ q, H1 q = none → Q (.ref q) (upd H1 q (.dK (mergeK [] (ks.zip xs))))
theorem pe_dictZip {e e2 : Expr} {ta : TA} {p p2 pos pos2 : Pos} (hc : X.calm = true) (hm : X.mg "dict" = none) (hm2 : X.mg "zip" = none) (ha : PA X [e, e2] ta) (hg : Gl X "dict" := by rfl) (hg2 : Gl X "zip" := by rfl)
    (hs : starEach [e, e2] X.env = (false, eval e X.env) :: starEach [e2] X.env := by rfl) (hpl : (backTo pos2 (starEach [e2] X.env)).any (·.1) = false := by rfl)
    (na : starEach [.Call (.Name "zip" p2) [e, e2] [] pos2] X.env = (false, eval (.Call (.Name "zip" p2) [e, e2] [] pos2) X.env) :: starEach [] X.env := by rfl) :
    PE X (.Call (.Name "dict" p) [.Call (.Name "zip" p2) [e, e2] [] pos2] [] pos) (tDictZip X.K ta) := by
  refine ⟨fun pins s σ H Q I h => ?_⟩
  have hr : wpAny (model X.prog X.w) X.A (eval (.Call (.Name "zip" p2) [e, e2] [] pos2) X.env) (fun x s' => ∃ (s1 : Shared) (h' : Heap) (a b : Addr) (ks : List Key) (xs : List V) (us vs : List Value) (H1 : Hp), x = .ref (s1.heap.objs.size + 4) ∧ s' = { s1 with heap := h' } ∧ Inv X pins σ H1 s1 ∧
      (∀ c o, s1.heap.get? c = some o → h'.get? c = some o) ∧ s1.heap.objs.size + 5 ≤ h'.objs.size ∧
      ZipApart (s1.heap.objs.size + 4) (s1.heap.objs.size + 2) (s1.heap.objs.size + 3) s1.heap.objs.size (s1.heap.objs.size + 1) a b ∧
      (IsZip h' (s1.heap.objs.size + 4) (s1.heap.objs.size + 2) (s1.heap.objs.size + 3) .none ∧ IsPair h' (s1.heap.objs.size + 2) (.ref s1.heap.objs.size) (.ref (s1.heap.objs.size + 1)) ∧ (∃ y z, IsPair h' (s1.heap.objs.size + 3) y z) ∧ h'.IsListIter s1.heap.objs.size a 0 ∧ h'.IsListIter (s1.heap.objs.size + 1) b 0 ∧ h'.IsList a us.toArray ∧ h'.IsList b vs.toArray) ∧
      Vals (ks.map kV) us ∧ Vals xs vs ∧ ks.length = xs.length ∧ xs.length ≤ sizeLine ∧ ∀ q, H1 q = none → Q (.ref q) (upd H1 q (.dK (mergeK [] (ks.zip xs))))) X.xe s := by
    refine Call_ (ld_blt I hg2 hm2 PyProof.Rows.boot_zip (PyProof.Rows.callWith_type1 (thn (ha.run pos2 pins s σ H _ I h) fun us s1 ⟨vs, H1, I1, r1, q1⟩ => ?_) hs hpl))
    obtain ⟨a, b, ks, xs, ex, hqx, hqy, hlen, q⟩ := q1
    subst ex
    cases r1 with
    | cons r rr =>
      cases rr with
      | cons r' rr =>
        cases rr
        cases r
        cases r'
        obtain ⟨its, rv, p1, _⟩ := I1.list hqx
        obtain ⟨its2, rv2, q2, z2⟩ := I1.list hqy
        have la : a < s1.heap.objs.size := p1.lt
        have lb : b < s1.heap.objs.size := q2.lt
        refine call_zip_2 p1.isList q2.isList fun h' hz hTI hTO h1 h2 hsz hk => ?_
        refine ⟨s1, h', a, b, ks, xs, its, its2, H1, rfl, rfl, I1, hk, ?_, PySem.W.ktu_apart s1.heap.objs.size a b la lb, ⟨hz, hTI, ⟨_, _, hTO⟩, h1, h2, p1.isList.at fun o e => hk _ o e, q2.isList.at fun o e => hk _ o e⟩, rv, rv2, hlen, z2, q⟩
        exact Heap.lt_size hz
  refine Call_ (ld_blt I hg hm boot_dict (callWith_type1 (args_cons (thn hr fun x s' ⟨s1, h', a, b, ks, xs, us, vs, H1, ex, es, I1, hk, hsz, D, ok, rv, rv2, hlen, z2, q⟩ => args_nil ?_) na) na))
  subst ex
  subst es
  obtain ⟨kv, kl, ul, vl, have'⟩ := zip_kv (P := X.prog) (w := X.w) rv rv2 hlen
  have I2 : Inv X pins σ H1 { s1 with heap := h' } := I1.kept (t' := s1.toks) hk
  have hn : min us.toArray.size vs.toArray.size = ks.length := by rw [List.size_toArray, List.size_toArray, ul, vl, Nat.min_self]
  refine PySem.call_dict_pairs (knd := mixKind X.prog X.w) (kvs := ks.zip vs) (PySem.PairArg.zip _ _ _ _ _ a b D us.toArray vs.toArray) (I2.ok.hd hc) ok ⟨by rw [hn]; exact kl, fun i key v ⟨e1, e2⟩ => have' i key v (by simpa using e1) (by simpa using e2)⟩ (by rw [hn, hlen]; exact z2) fun h'' tk hd' keep => ?_
  have hle : s1.heap.objs.size ≤ h'.objs.size := by omega
  have hm' : (h'.objs.size == sysModules) = false := beq_eq_false_iff_ne.mpr (Nat.ne_of_gt I2.big)
  have hlen' : (mergeK [] (ks.zip xs)).length ≤ sizeLine := by
    refine Nat.le_trans (length_mergeK _ []) ?_
    rw [List.length_nil, Nat.zero_add, List.length_zip]
    exact Nat.le_trans (Nat.min_le_right _ _) z2
  refine ⟨.ref h'.objs.size, upd H1 h'.objs.size (.dK (mergeK [] (ks.zip xs))), I1.laid (t' := tk) (fun c o e => keep c o (fun hw => ?_) (hk c o e)) hle (show ObjOk X.prog X.w _ _ _ (.dK (mergeK [] (ks.zip xs))) from ⟨hlen', hm', merged [] (ks.zip vs), KV.merge kv .nil, hd'⟩), rfl, q _ (I1.hok.fresh hle)⟩
  have lt := Heap.lt_size e
  simp only [List.mem_cons, List.not_mem_nil, or_false] at hw
  rcases hw with z | z | z | z
  · exact absurd lt (Nat.not_lt_of_le (by rw [z]; exact Nat.le_add_right _ _))
  · exact absurd lt (Nat.not_lt_of_le (by rw [z]; exact Nat.le_add_right _ _))
  · exact absurd lt (Nat.not_lt_of_le (by rw [z]; exact Nat.le_refl _))
  · exact absurd lt (Nat.not_lt_of_le (by rw [z]; exact Nat.le_add_right _ _))
end L2
/-! own: math.lcm, repr of dicts, dict(zip), d.clear() -/
namespace GL
open PySem PySem.Spec PyProof.Rows L2
def rLcm : List V → Hp → VK → Prop := fun vs H Q => ∃ a b : Int, vs = [.int a, .int b] ∧ a.natAbs < 2 ^ 64 ∧ b.natAbs < 2 ^ 64 ∧ Q (.int ((a.natAbs.lcm b.natAbs : Nat) : Int)) H
theorem cr_lcm {X : Cx} : CallR X (.builtin "math.lcm") rLcm := by
  intro pins s σ H vs us Q I r h
  obtain ⟨a, b, rfl, ha, hb, q⟩ := h
  obtain ⟨t, u, rfl⟩ := Vals.int2 r
  exact PySem.W.mc_lcm ha hb fun _ => ⟨.int _, H, I.tok _, ⟨_, rfl⟩, q⟩
/-! ### repr of a dict of flat things -/
def keyP : Key → PyData
  | .inl i => .int i
  | .inr x => .str x
def flatP : V → Option PyData
  | .non => some .none
  | .bl b => some (.bool b)
  | .int i => some (.int i)
  | .str x => some (.str x)
  | _ => none
def kvP : List (Key × V) → Option (List (PyData × PyData))
  | [] => some []
  | p :: r => match flatP p.2, kvP r with
    | some d, some ds => some ((keyP p.1, d) :: ds)
    | _, _ => none
theorem reads_flat {h : Heap} {v : V} {u : Value} {d : PyData} (r : RelV v u) (e : flatP v = some d) : Reads h u d [] := by
  cases v with
  | non => obtain rfl := Option.some.inj e; cases r; exact .none
  | bl b => obtain rfl := Option.some.inj e; cases r; exact .bool b
  | int i => obtain rfl := Option.some.inj e; obtain ⟨t, rfl⟩ := r; exact .int i t
  | str x => obtain rfl := Option.some.inj e; obtain ⟨t, rfl⟩ := r; exact .str x t
  | _ => cases e
theorem reads_key {h : Heap} {k : Key} {u : Value} (e : keyIs k u = true) : Reads h u (keyP k) [] := by
  rcases keyIs_shape e with ⟨i, t, rfl, rfl⟩ | ⟨x, t, rfl, rfl⟩
  · exact .int i t
  · exact .str x t
theorem reads_kv {P : Program} {w : World} {h : Heap} : ∀ {es : List DictEntry} {vs : List (Key × Value)} {kvs : List (Key × V)} {ps : List (PyData × PyData)}, PySem.Pairs (mixKind P w) es vs → KV kvs vs → kvP kvs = some ps →
    ReadsAll h (es.map (·.key)) (ps.map (·.1)) [] ∧ ReadsAll h (es.map (·.val)) (ps.map (·.2)) []
  | _, _, _, ps, .nil, .nil, e => by
    obtain rfl := Option.some.inj e
    exact ⟨.nil, .nil⟩
  | _, _, _, ps, .cons hk hv t, .cons r rs, e => by
    unfold kvP at e
    split at e
    · rename_i d ds e1 e2
      obtain rfl := Option.some.inj e
      obtain ⟨a, b⟩ := reads_kv (h := h) t rs e2
      refine ⟨?_, ?_⟩
      · rw [r.1]
        exact .cons (as := []) (bs := []) (reads_key hk) a
      · refine .cons (as := []) (bs := []) ?_ b
        show Reads h _ d []
        have := reads_flat (h := h) r.2 e1
        rw [← hv] at this
        exact this
    · cases e
def rReprD (K : PySem.W.Frag) : List V → Hp → VK → Prop := fun xs H Q => ∃ (a : Addr) (kvs : List (Key × V)) (ps : List (PyData × PyData)), xs = [.ref a] ∧ Rd H a (.dK kvs) ∧ kvP kvs = some ps ∧ (PyData.dict ps).showable = true ∧ (PyData.dict ps).depth ≤ 60 ∧ (PyData.dict ps).shown.length ≤ sizeLine ∧ Q (.str (PyData.dict ps).shown) H
theorem call_reprD {X : Cx} (hu : X.A.units + 64 < cLine) (hg : X.A.guards = some []) : CallR X (.builtin "repr") (rReprD X.K) := by
  intro pins s σ H xs us Q I r h
  obtain ⟨a, kvs, ps, rfl, hd, hk, hs, hdp, hsz, q⟩ := h
  obtain ⟨u, rfl, e⟩ := vals1 r
  have e2 : u = Value.ref a := e
  subst e2
  obtain ⟨_, hne, vs, rk, o, es, ep, ho, hx, hdt, _, hp, _⟩ := dk_rd I.hok hd
  obtain ⟨r1, r2⟩ := reads_kv (h := s.heap) hp rk hk
  have rd : Reads s.heap (.ref a) (.dict ps) (a :: [] ++ []) := .dict ho hx.1 hdt r1 r2
  refine repr_of_reads' rd hs (fun _ hm => ?_) hg (by omega) (fun _ _ e => e) (fun h' t tk hk => ?_) hsz
  · simp at hm
    rw [hm] at hne
    simp at hne
  · exact ⟨.str _, H, I.kept hk, ⟨_, rfl⟩, q⟩
end GL
namespace GD
open PySem PySem.Spec PyProof.Rows L2 GF
section
variable {K : PySem.W.Frag} {W : WX} {Lk : List Addr → Prop} {L : List Addr} {F F' R H H' : Hp}
def lcm2 := intOp fun i j => if i.natAbs ≤ 1000000 ∧ j.natAbs ≤ 1000000 then some (.int ((i.natAbs.lcm j.natAbs : Nat) : Int)) else none
theorem lcm_D {t : TA} {m : OM (List D)} (h : OkA K W Lk t m) : OkD K W Lk (tCB GL.rLcm t) (mA (arg2 lcm2) m) := by
  refine opA_G (rel := relD K) (rr := GL.rLcm) (fun x dx z L F R H fp Q hx hh hg q => ?_) h
  unfold arg2 at hg
  split at hg
  · obtain ⟨i, j, rfl, rfl, e⟩ := intOp_some hg
    split at e
    · rename_i hc
      obtain rfl := Option.some.inj e
      cases hx with
      | cons h1 t1 => cases t1 with
        | cons h2 t2 =>
          cases t2
          have b : ∀ n : Nat, n ≤ 1000000 → n < 2 ^ 64 := fun n hn => Nat.lt_of_le_of_lt hn (by decide)
          exact ⟨i, j, by rw [h1.toInt, h2.toInt], b _ hc.1, b _ hc.2, q _ H F [] (.refl _) ⟨.int _, rfl⟩ hh⟩
    · cases e
  · cases hg
/-! ### a dict shown -/
def flatPD : D → Option PyData
  | .non => some .none
  | .bl b => some (.bool b)
  | .int i => some (.int i)
  | .str x => some (.str x)
  | _ => none
def kdP : List (Key × D) → Option (List (PyData × PyData))
  | [] => some []
  | p :: r => match flatPD p.2, kdP r with
    | some d, some ds => some ((GL.keyP p.1, d) :: ds)
    | _, _ => none
theorem flatPD_rel {v : V} {d : D} {p : PyData} (h : Fz K F v d) (e : flatPD d = some p) : GL.flatP v = some p := by
  cases d with
  | non => rw [h.toNon]; exact e
  | bl b => rw [h.toBl]; exact e
  | int i => rw [h.toInt]; exact e
  | str x => rw [h.toStr]; exact e
  | _ => cases e
theorem kdP_rel : ∀ {kvs : List (Key × V)} {kds : List (Key × D)} {ps : List (PyData × PyData)}, kvs.map (·.1) = kds.map (·.1) → FzL K F (kvs.map (·.2)) (kds.map (·.2)) → kdP kds = some ps → GL.kvP kvs = some ps
  | [], [], ps, _, _, e => e
  | [], _ :: _, _, e, _, _ => nomatch e
  | _ :: _, [], _, e, _, _ => nomatch e
  | p :: r, q :: s, ps, e, h, e2 => by
    obtain ⟨a, b⟩ := List.cons.inj e
    cases h with
    | cons h1 t1 =>
      unfold kdP at e2
      split at e2
      · rename_i d ds c1 c2
        obtain rfl := Option.some.inj e2
        unfold GL.kvP
        rw [flatPD_rel h1 c1, kdP_rel b t1 c2]
        simp only
        rw [show p.1 = q.1 from a]
      · cases e2
def reprDG : D → Option D
  | .dic kds => match kdP kds with
    | some ps => if (PyData.dict ps).showable = true ∧ (PyData.dict ps).depth ≤ 60 ∧ (PyData.dict ps).shown.length ≤ sizeLine then some (.str (PyData.dict ps).shown) else none
    | none => none
  | _ => none
theorem reprDG_flat (a z : D) (h : reprDG a = some z) : flatF z = true := by
  unfold reprDG at h
  split at h
  · split at h
    · split at h
      · obtain rfl := Option.some.inj h; rfl
      · cases h
    · cases h
  · cases h
theorem lk_reprD : Lk1 K (GL.rReprD K) reprDG := by
  intro x dx z F H Q hx s hg q
  unfold reprDG at hg
  split at hg
  · split at hg
    · rename_i ps ep
      split at hg
      · rename_i hc
        obtain rfl := Option.some.inj hg
        cases hx with
        | dic h e t => exact ⟨_, _, ps, rfl, s.rd _ _ h, kdP_rel e t ep, hc.1, hc.2.1, hc.2.2, q _ F (.str _)⟩
      · cases hg
    · cases hg
  · cases hg
/-- looks at a name's own dict -/
def lkOd (e : En) (i : Nat) : Option D := match gt e i with
  | some (.od kds) => some (.dic kds)
  | some (.fz d) => some d
  | _ => none
theorem lkOd_some {e : En} {i : Nat} {d : D} (h : lkOd e i = some d) : (∃ ds, gt e i = some (.od ds) ∧ d = .dic ds) ∨ gt e i = some (.fz d) := by
  unfold lkOd at h
  split at h
  · rename_i ds hx
    exact .inl ⟨ds, hx, (Option.some.inj h).symm⟩
  · rename_i d' hx
    obtain rfl := Option.some.inj h
    exact .inr hx
  · cases h
theorem ER.lookD {σ : L2.St} {e : En} {i : Nat} {d : D} (h : ER K L R F H [] σ e) (hx : lkOd e i = some d) : ∃ v F', σ[i]? = some (some v) ∧ L2.Same F F' ∧ Fz K F' v d ∧ Rx F' H := by
  rcases lkOd_some hx with ⟨ds, hx1, e1⟩ | hx1
  · obtain ⟨v, a, fp, h1, h2, h3, h4⟩ := h.at hx1
    have f1 := h4.fr.left
    subst e1
    exact ⟨v, plus a F, h1, f1.same, h2.freeze f1, h4.freeze.f.rx⟩
  · obtain ⟨v, a, fp, h1, h2, h3, h4⟩ := h.at hx1
    cases h2 with
    | fz h2 => exact ⟨v, F, h1, .refl _, h2, h4.f.rx⟩
def m_d1 (g : D → Option D) (i : Nat) : OM D := fun ê => match lkOd ê i with
  | some x => un? g x ê
  | none => none
theorem d1_D {rr : List V → Hp → VK → Prop} {g : D → Option D} {i : Nat} (o : Lk1 K rr g) (hf : ∀ a z, g a = some z → flatF z = true) : OkD K W Lk (tCB rr (tCons (tVar i) tNil)) (m_d1 g i) := by
  intro L R F H σ ê r Q hL hE hm hP
  unfold m_d1 at hm
  split at hm
  · rename_i x hx
    obtain ⟨b, hb, rfl⟩ := un_some hm
    obtain ⟨v2, F2, k1, k2, k3, k4⟩ := hE.lookD hx
    exact ⟨v2, k1, o v2 _ b F2 H Q k3 k4 hb fun c F0 hc => hP c H F [] (.refl _) ⟨flat_any hc (hf _ _ hb) F, rfl⟩ hE⟩
  · cases hm
/-! ### dict(zip(a, b)) -/
def keysD : List D → Option (List Key)
  | [] => some []
  | d :: r => match toK d, keysD r with
    | some k, some ks => some (k :: ks)
    | _, _ => none
theorem keysD_rel : ∀ {vs : List V} {ds : List D} {ks : List Key}, FzL K F vs ds → keysD ds = some ks → vs = ks.map kV
  | _, _, ks, .nil, e => by obtain rfl := Option.some.inj e; rfl
  | _, _, ks, .cons h t, e => by
    unfold keysD at e
    split at e
    · rename_i k ks' e1 e2
      obtain rfl := Option.some.inj e
      rw [toK_some e1 h, keysD_rel t e2]
      rfl
    · cases e
def dictZG : List D → Option X
  | [.lst as, .lst bs] => match keysD as with
    | some ks => if ks.length = bs.length then some (.od (mergeG [] (ks.zip bs))) else none
    | none => none
  | _ => none
theorem zip_fst {α β : Type} : ∀ {as : List α} {bs : List β}, as.length = bs.length → (as.zip bs).map (·.1) = as
  | [], [], _ => rfl
  | a :: r, b :: s, h => by rw [List.zip_cons_cons, List.map_cons, zip_fst (as := r) (bs := s) (by simpa using h)]
  | [], _ :: _, h => by simp at h
  | _ :: _, [], h => by simp at h
theorem zip_snd {α β : Type} : ∀ {as : List α} {bs : List β}, as.length = bs.length → (as.zip bs).map (·.2) = bs
  | [], [], _ => rfl
  | a :: r, b :: s, h => by rw [List.zip_cons_cons, List.map_cons, zip_snd (as := r) (bs := s) (by simpa using h)]
  | [], _ :: _, h => by simp at h
  | _ :: _, [], h => by simp at h
theorem dictZ_X {t : TA} {m : OM (List D)} (h : OkA K W Lk t m) : OkX K W Lk (tDictZip K t) (mA dictZG m) := by
  refine opA_G (rel := relX K) (rr := fun vs H1 Q => ∃ (a b : Addr) (ks : List Key) (xs : List V), vs = [.ref a, .ref b] ∧ SqL K H1 a (ks.map kV) ∧ SqL K H1 b xs ∧ ks.length = xs.length ∧ ∀ q, H1 q = none → Q (.ref q) (upd H1 q (.dK (mergeK [] (ks.zip xs))))) (fun x dx z L F R H fp Q hx hh hg q => ?_) h
  unfold dictZG at hg
  split at hg
  · rename_i as bs
    split at hg
    · rename_i ks ek
      split at hg
      · rename_i hl
        obtain rfl := Option.some.inj hg
        cases hx with
        | cons h1 t1 => cases t1 with
          | cons h2 t2 =>
            cases t2
            cases h1 with
            | lst f1 l1 => cases h2 with
              | @lst b vs _ f2 l2 =>
                have e1 := keysD_rel l1 ek
                subst e1
                have hl2 : ks.length = vs.length := by rw [hl, l2.length]
                obtain ⟨r1, r2⟩ := merge_rel (kvs := []) (kds := []) (more := ks.zip vs) (mds := ks.zip bs) (by rw [zip_fst hl2, zip_fst hl]) (by rw [zip_snd hl2, zip_snd hl]; exact l2) rfl .nil
                exact ⟨_, _, ks, vs, rfl, .of (hh.f.rx.lst _ _ f1), .of (hh.f.rx.lst _ _ f2), hl2, fun p np => q _ _ F _ (.refl _) (.od r1 r2) (hh.new np)⟩
      · cases hg
    · cases hg
  · cases hg
def m_clearD (i : Nat) : OM X := fun ê => match gt ê i with
  | some (.od kds) => some (.ok (.fz .non) (st' ê i (some (.od []))))
  | _ => none
theorem clearD_X {i : Nat} : OkX K W Lk (tBM0 K "dict" rDClear (tVar i)) (m_clearD i) := by
  intro L R F H σ ê r Q hL hE hm hP
  unfold m_clearD at hm
  split at hm
  · rename_i ds hx
    obtain rfl := Option.some.inj hm
    obtain ⟨v, a, fp, h1, h2, h3, h4⟩ := hE.at hx
    cases h2 with
    | od e t => exact ⟨_, h1, .inr (.inr (.inl ⟨rfl, .inl ⟨_, (h4.c _ List.mem_cons_self).1⟩⟩)), _, _, rfl, rfl, (h4.c _ List.mem_cons_self).1, hP _ _ F [] (.refl _) (.fz .non) (ER.back h3 h1 (.od (kvs := []) (kds := []) rfl .nil) h4.write)⟩
  · cases hm
end
end GD
/-! own: a call where a keyword-only parameter lacks -/
namespace GD
open PySem PySem.Spec PyProof.Rows L2 GF
theorem kbn_one {K : PySem.W.Frag} {fd : FuncData} {ps : List Str} {n : Nat} {ks : List Str} {A : Addr} {x : Str} {v : V} {u : Value} (hu : PySem.W.nsIn K A x = some (some u)) (hr : RelV v u)
    (h : ∀ us ws : List Value, us.length = n → ws.length = ks.length → KwChain A [(x, u)] (bindArgs fd ⟨us, ks.zip ws⟩) (ps.zip (us ++ (u :: ws)))) :
    KBn K fd ps n ks (fun us ws => us ++ (u :: ws)) (fun us ws => us ++ (v :: ws)) :=
  ⟨fun s us ws X l1 l2 => BindsTo.of_looks fun M => KwChain.looks X (fun q hq => by
    rw [List.mem_singleton.mp hq]
    exact hu) (h us ws l1 l2), fun r1 r2 => r1.append (.cons hr r2)⟩
def appK (d : D) (ds es : List D) : List D := ds ++ (d :: es)
theorem callKd_X {K : PySem.W.Frag} {W : WX} {Lk Lk' : List Addr → Prop} {n a b : Nat} {v : V} {d : D} {mF : List X → Option Rf} {t u : TA} {ma mk : OM (List D)} (hv : ∀ F, Fz K F v d) (hLk : ∀ L, Lk L → Lk' L) (ha : OkA K W Lk t ma) (hk : OkA K W Lk u mk) :
    OkX K W Lk (rFN a b (spF K Lk' n [] mF) (fun us ws => us ++ (v :: ws)) W t u) (m_callN n mF (appK d) a b ma mk) := callN_X (fun _ _ h1 h2 => h1.app (.cons (hv _) h2)) hLk ha hk
end GD
/-! own data layer: single steps -/
namespace GD
open PySem PySem.Spec PyProof.Rows L2 GF
theorem lc_ok {mi : OM (List D)} {mg : X → En → Option En} {mt : OM Bool} {me : OM D} {vs : List Nat} {ê e : En} {ds : List D} {r : Option (Rs X)} (h : mi ê = some (.ok ds e)) (h2 : lcL mg mt me vs ds [] (wpE e vs) = r) : m_lc mi mg mt me vs ê = r := by
  unfold m_lc
  rw [h, bnd_ok]
  exact h2
theorem klist_ok {ê : En} {i : Nat} {ds : List D} (h : gt ê i = some (.fz (.lst ds))) : m1 klist (m_var i) ê = some (.ok ds ê) := m1_ok (var_ok h) rfl
theorem lct_ok {mg : X → En → Option En} {me : OM D} {d y : D} {e e1 e2 : En} (h : mg (.fz d) e = some e1) (h2 : me e1 = some (.ok y e2)) : lcT mg (m_k true) me d e = some (some y, e2) := by
  unfold lcT
  rw [h]
  show (match m_k true e1 with | some (.ok true e2) => (match me e2 with | some (.ok y e3) => some (some y, e3) | _ => none) | some (.ok false e2) => some (none, e2) | _ => none) = _
  show (match me e1 with | some (.ok y e3) => some (some y, e3) | _ => none) = _
  rw [h2]
theorem ite_t {α : Type} {c : OM Bool} {a b : OM α} {ê e : En} {r : Option (Rs α)} (h : c ê = some (.ok true e)) (h2 : a e = r) : m_ite c a b ê = r := by unfold m_ite; rw [h, bnd_ok]; exact h2
theorem ite_f {α : Type} {c : OM Bool} {a b : OM α} {ê e : En} {r : Option (Rs α)} (h : c ê = some (.ok false e)) (h2 : b e = r) : m_ite c a b ê = r := by unfold m_ite; rw [h, bnd_ok]; exact h2
end GD
/-! own: == of dicts, own ==, isinstance of own classes, .items() of a dict just made, list(range(n)) -/
namespace GL
open PySem PySem.Spec PyProof.Rows L2
/-! ### dicts compared -/
inductive KvP (K : PySem.W.Frag) (H : Hp) : List (Key × V) → List (Key × PyData) → Prop
  | nil : KvP K H [] []
  | cons {k : Key} {v : V} {d : PyData} {r : List (Key × V)} {q : List (Key × PyData)} : Dp K H v d → SeqAt.shaped d = true → KvP K H r q → KvP K H ((k, v) :: r) ((k, d) :: q)
def lookP (l : List (Key × PyData)) (k : Key) : Option PyData := (l.find? fun p => decide (p.1 = k)).map (·.2)
def hitsP (lb : List (Key × PyData)) : List (Key × PyData) → Bool
  | [] => true
  | p :: r => match lookP lb p.1 with
    | some d => PyData.eqv p.2 d && hitsP lb r
    | none => false
def eqKv (la lb : List (Key × PyData)) : Bool := la.length == lb.length && hitsP lb la
theorem KvP.length {K : PySem.W.Frag} {H : Hp} : ∀ {kvs : List (Key × V)} {ps : List (Key × PyData)}, KvP K H kvs ps → kvs.length = ps.length
  | _, _, .nil => rfl
  | _, _, .cons _ _ t => by rw [List.length_cons, List.length_cons, t.length]
theorem KvP.look {K : PySem.W.Frag} {H : Hp} (k : Key) : ∀ {kvs : List (Key × V)} {ps : List (Key × PyData)}, KvP K H kvs ps → (valV kvs k = none ∧ lookP ps k = none) ∨ ∃ v d, valV kvs k = some v ∧ lookP ps k = some d ∧ Dp K H v d ∧ SeqAt.shaped d = true
  | _, _, .nil => .inl ⟨rfl, rfl⟩
  | _, _, .cons (k := j) (v := v) (d := d) (r := r) (q := q) h hs t => by
    by_cases e : j = k
    · refine .inr ⟨v, d, valV_pos e, ?_, h, hs⟩
      unfold lookP
      rw [List.find?_cons]
      simp [e]
    · have e1 : lookP ((j, d) :: q) k = lookP q k := by
        unfold lookP
        rw [List.find?_cons]
        simp [e]
      rw [e1, valV_neg e]
      exact t.look k
theorem valueAt_none {P : Program} {w : World} {kvs : List (Key × V)} {vs : List (Key × Value)} (r : KV kvs vs) {k : Key} (h : valV kvs k = none) : valueAt vs k = none := by
  have := r.val k
  rw [h] at this
  cases e : valueAt vs k with
  | none => rfl
  | some u => rw [e] at this; exact this.elim
theorem hits_ok {X : Cx} {pins : List (Addr × Obj)} {σ : L2.St} {H : Hp} {s : Shared} (I : Inv X pins σ H s) (hu : X.A.units + 66 < cLine) {kvb : List (Key × V)} {vb : List (Key × Value)} {pb : List (Key × PyData)} (rb : KV kvb vb) (hb : KvP X.K H kvb pb) :
    ∀ {kvs : List (Key × V)} {vs : List (Key × Value)} {ps : List (Key × PyData)}, KV kvs vs → KvP X.K H kvs ps → PySem.W.KeqHits X.A.in1 s vb vs (hitsP pb ps)
  | [], _, _, .nil, .nil => .nil
  | (k, v) :: kr, (k', u) :: vr, (_, d) :: q, .cons r rs, .cons h hs t => by
    obtain ⟨ek, ru⟩ := r
    have ek : k = k' := ek
    subst ek
    have ih := hits_ok I hu rb hb rs t
    show PySem.W.KeqHits X.A.in1 s vb ((k, u) :: vr) (match lookP pb k with | some d' => PyData.eqv d d' && hitsP pb q | none => false)
    rcases hb.look k with ⟨e1, e2⟩ | ⟨v2, d2, e1, e2, h2, hs2⟩
    · rw [e2]
      exact .miss (valueAt_none (P := X.prog) (w := X.w) rb e1)
    · rw [e2]
      have rv := rb.val k
      rw [e1] at rv
      cases ev : valueAt vb k with
      | none => rw [ev] at rv; exact rv.elim
      | some u2 =>
        rw [ev] at rv
        obtain ⟨as, ra⟩ := Dp.reads I d v u h ru
        obtain ⟨bs, rb2⟩ := Dp.reads I d2 v2 u2 h2 rv
        exact .hit ev (PySem.W.keq_at ra rb2 hs hs2 (by show X.A.units + 1 + 64 < cLine; omega)) ih
def rEqK (K : PySem.W.Frag) : R2 := fun x y H Q => ∃ (a b : Addr) (ka kb : List (Key × V)) (pa pb : List (Key × PyData)), x = .ref a ∧ y = .ref b ∧ Rd H a (.dK ka) ∧ Rd H b (.dK kb) ∧ KvP K H ka pa ∧ KvP K H kb pb ∧ Q (.bl (eqKv pa pb)) H
def rNeK (K : PySem.W.Frag) : R2 := fun x y H Q => ∃ (a b : Addr) (ka kb : List (Key × V)) (pa pb : List (Key × PyData)), x = .ref a ∧ y = .ref b ∧ Rd H a (.dK ka) ∧ Rd H b (.dK kb) ∧ KvP K H ka pa ∧ KvP K H kb pb ∧ Q (.bl (!eqKv pa pb)) H
theorem u66 {k : Nat} {A : Around} (r : Room k A) : A.units + 66 < cLine := by have := r.un; omega
theorem op_eqK {X : Cx} (hu : X.A.units + 66 < cLine) : OpR X (compareOp .Eq) (rEqK X.K) := by
  intro pins s σ H x y v u Q I rx ry h
  obtain ⟨a, b, ka, kb, pa, pb, rfl, rfl, ha, hb, hpa, hpb, q⟩ := h
  cases rx
  cases ry
  obtain ⟨_, la, va, ra, da⟩ := dk_rd I.hok ha
  obtain ⟨_, lb, vb, rb, db⟩ := dk_rd I.hok hb
  refine PySem.W.keq_eq la lb da db (by omega) (fun _ => hits_ok I hu rb hpb ra hpa) ⟨.bl (eqKv pa pb), H, I, ?_, q⟩
  unfold eqKv
  rw [← hpa.length, ← hpb.length, Paired.length ra, Paired.length rb]
  rfl
theorem op_neK {X : Cx} (hu : X.A.units + 66 < cLine) : OpR X (compareOp .NotEq) (rNeK X.K) := by
  intro pins s σ H x y v u Q I rx ry h
  obtain ⟨a, b, ka, kb, pa, pb, rfl, rfl, ha, hb, hpa, hpb, q⟩ := h
  cases rx
  cases ry
  obtain ⟨_, la, va, ra, da⟩ := dk_rd I.hok ha
  obtain ⟨_, lb, vb, rb, db⟩ := dk_rd I.hok hb
  refine PySem.W.keq_ne la lb da db (by omega) (fun _ => hits_ok I hu rb hpb ra hpa) ⟨.bl (!eqKv pa pb), H, I, ?_, q⟩
  unfold eqKv
  rw [← hpa.length, ← hpb.length, Paired.length ra, Paired.length rb]
  rfl
/-! ### the items of a dict just made -/
def tLk (td : TE) : TE := fun σ H Q => td σ H fun x H1 => ∃ (d : Addr) (kvs : List (Key × V)), x = .ref d ∧ H1 d = some (.dK kvs) ∧ ∀ od, Q x (upd H1 d (.frz od (.dK kvs)))
theorem pe_lk {X : Cx} {e : Expr} {td : TE} (he : PE X e td) : PE X e (tLk td) := by
  refine ⟨fun pins s σ H Q I h => thn (he.run pins s σ H _ I h) fun v s1 ⟨x, H1, I1, r, d, kvs, ex, hd, q⟩ => ?_⟩
  obtain ⟨od, I2⟩ := I1.lock hd trivial
  exact ⟨x, _, I2, r, q od⟩
end GL
namespace GF
open PySem PySem.Spec PyProof.Rows L2
/-! ### an own == -/
def rEqM (C : Addr) (sp : Sp) : R2 := fun x y H Q => ∃ (a b dx dy : Addr) (fs gs : List (Str × V)), x = .ref a ∧ y = .ref b ∧ H a = some (.ins C dx fs) ∧ H b = some (.ins C dy gs) ∧ sp [x, y] H (fun v H1 => (∃ c, v = .bl c) ∧ Q v H1) (fun _ _ _ => False)
theorem op_eqM {X : Cx} {k : Nat} {C f : Addr} {fd : FuncData} {ps : List Str} {sp : Sp} (g : FG X.prog X.w X.K X.mg X.base k f fd ps sp) (r : Room k X.A) (c : Calm X.A) (m : Meth X.K C "__eq__" f) (hb : Binds X.K fd ps []) : OpR X (compareOp .Eq) (rEqM C sp) := by
  intro pins s σ H x y u v Q I rx ry d
  obtain ⟨a, b, dx, dy, fs, gs, rfl, rfl, ha, hb', hr⟩ := d
  cases rx
  cases ry
  obtain ⟨mA, J, _⟩ := ins_get I.hok ha
  obtain ⟨mB, J', _⟩ := ins_get I.hok hb'
  obtain ⟨od, J, _⟩ := J.look
  obtain ⟨od', J', _⟩ := J'.look
  obtain ⟨m', hF⟩ := I.fr
  obtain ⟨hms, hmf, _⟩ := m
  refine PySem.W.cmp_K (op := .Eq) (tb := .ref C) r.units0 hF I.ok.mod.kin J J'.type (by simp [PySem.W.notFirst]) hms hmf ?_
  have hl := g.arity _ _ _ _ hr
  have r2 : Vals [V.ref a, V.ref b] [Value.ref a, Value.ref b] := .cons rfl (.cons rfl .nil)
  have hbb := hb s [.ref a, .ref b] I.kIn (by simpa using hl)
  simp only [List.append_nil] at hbb
  refine wpAny_call (codeAny_mono (g.goes X.A X.stack s H ⟨[.ref a, .ref b], []⟩ [.ref a, .ref b] [.ref a, .ref b] _ _ r c I.env0 hbb r2 hr) fun z s' hq => ?_)
  cases z with
  | error e => exact (no_error hq).elim
  | ok fl =>
    cases fl with
    | ret w =>
      obtain ⟨z, H', I', rz, ⟨cb, ez⟩, q⟩ := I.after hq
      subst ez
      cases rz
      exact ⟨.bl cb, H', I', rfl, q⟩
    | next => exact False.elim hq
    | brk => exact False.elim hq
    | cont => exact False.elim hq
end GF
/-! own data layer: == of dicts, own ==, isinstance of own classes, .items() of a dict just made, list(range(n)) -/
namespace GD
open PySem PySem.Spec PyProof.Rows L2 GF
section
variable {K : PySem.W.Frag} {W : WX} {Lk Lk' : List Addr → Prop} {L : List Addr} {F F' R H H' : Hp}
def kpD : List (Key × D) → Option (List (Key × PyData))
  | [] => some []
  | p :: r => match toP p.2, kpD r with
    | some d, some q => if SeqAt.shaped d = true then some ((p.1, d) :: q) else none
    | _, _ => none
theorem kpD_rel (s : Rx F H) : ∀ {kvs : List (Key × V)} {kds : List (Key × D)} {ps : List (Key × PyData)}, kvs.map (·.1) = kds.map (·.1) → FzL K F (kvs.map (·.2)) (kds.map (·.2)) → kpD kds = some ps → GL.KvP K H kvs ps
  | [], [], ps, _, _, e => by obtain rfl := Option.some.inj e; exact .nil
  | [], _ :: _, _, e, _, _ => nomatch e
  | _ :: _, [], _, e, _, _ => nomatch e
  | (k, v) :: r, (k2, d2) :: q, ps, e, h, e2 => by
    obtain ⟨a, b⟩ := List.cons.inj e
    obtain rfl : k = k2 := a
    cases h with
    | cons h1 t1 =>
      unfold kpD at e2
      split at e2
      · rename_i d ds c1 c2
        split at e2
        · rename_i hs
          obtain rfl := Option.some.inj e2
          exact .cons (h1.dp s c1) hs (kpD_rel s b t1 c2)
        · cases e2
      · cases e2
def eqKD (neg : Bool) : D → D → Option D
  | .dic a, .dic b => match kpD a, kpD b with
    | some pa, some pb => some (.bl (xor neg (GL.eqKv pa pb)))
    | _, _ => none
  | _, _ => none
theorem o_eqK : Op2 K (relD K) (GL.rEqK K) (eqKD false) := by
  intro x y dx dy z L F R H fp Q hx hy hh hg q
  unfold eqKD at hg
  split at hg
  · split at hg
    · rename_i pa pb ea eb
      obtain rfl := Option.some.inj hg
      cases hx with
      | dic h1 k1 t1 => cases hy with
        | dic h2 k2 t2 => exact ⟨_, _, _, _, pa, pb, rfl, rfl, hh.f.rx.rd _ _ h1, hh.f.rx.rd _ _ h2, kpD_rel hh.f.rx k1 t1 ea, kpD_rel hh.f.rx k2 t2 eb, q _ H F [] (.refl _) ⟨by rw [Bool.false_xor]; exact .bl _, rfl⟩ hh⟩
    · cases hg
  · cases hg
theorem o_neK : Op2 K (relD K) (GL.rNeK K) (eqKD true) := by
  intro x y dx dy z L F R H fp Q hx hy hh hg q
  unfold eqKD at hg
  split at hg
  · split at hg
    · rename_i pa pb ea eb
      obtain rfl := Option.some.inj hg
      cases hx with
      | dic h1 k1 t1 => cases hy with
        | dic h2 k2 t2 => exact ⟨_, _, _, _, pa, pb, rfl, rfl, hh.f.rx.rd _ _ h1, hh.f.rx.rd _ _ h2, kpD_rel hh.f.rx k1 t1 ea, kpD_rel hh.f.rx k2 t2 eb, q _ H F [] (.refl _) ⟨by rw [Bool.true_xor]; exact .bl _, rfl⟩ hh⟩
    · cases hg
  · cases hg
/-! ### an own == -/
def keqM2 (C : Addr) (mF : List X → Option Rf) (a b : D) (e : En) : Option (Rs D) := match a, b with
  | .ins C1 fs, .ins C2 gs => if C1 = C ∧ C2 = C then match mF [.fz (.ins C1 fs), .fz (.ins C2 gs)] with
    | some (.ok (.fz (.bl c)) []) => some (.ok (.bl c) e)
    | _ => none else none
  | _, _ => none
def keqM (C : Addr) (mF : List X → Option Rf) (mb : OM D) (a : D) (e : En) : Option (Rs D) := bnd (mb e) (keqM2 C mF a)
def m_eqM (C : Addr) (mF : List X → Option Rf) (ma mb : OM D) : OM D := fun ê => bnd (ma ê) (keqM C mF mb)
theorem eqM_D {C : Addr} {mF : List X → Option Rf} {ta tb : TE} {ma mb : OM D} (hLk : ∀ L, Lk L → Lk' L) (ha : OkD K W Lk ta ma) (hb : OkD K W Lk tb mb) : OkD K W Lk (tOp (GF.rEqM C (spF K Lk' 2 [] mF)) ta tb) (m_eqM C mF ma mb) := by
  intro L R F H σ ê r Q hL hE hm hP
  refine ha.run hL hE hm hP fun x dx ex F1 H1 e1 s1 hz1 hE1 hm1 hP1 => ?_
  obtain ⟨hz1, rfl⟩ := hz1
  refine hb.run hL hE1 hm1 hP1 fun y dy ex2 F2 H2 e2 s2 hz2 hE2 hm2 hP2 => ?_
  obtain ⟨hz2, rfl⟩ := hz2
  unfold keqM2 at hm2
  split at hm2
  · rename_i C1 fs C2 gs
    split at hm2
    · rename_i hC
      obtain ⟨hC1, hC2⟩ := hC
      subst hC1
      subst hC2
      split at hm2
      · rename_i c hx
        obtain rfl := Option.some.inj hm2
        obtain ⟨fp, hs, hh⟩ := hE2
        have hz1' := hz1.mono s2
        have hzz : FzL K F2 [x, y] [.ins _ fs, .ins _ gs] := .cons hz1' (.cons hz2 .nil)
        cases hz1' with
        | @ins a da _ fv _ i1 k1 t1 => cases hz2 with
          | @ins b db _ gv _ i2 k2 t2 =>
            obtain ⟨o1, o2⟩ := Hs.over (a := []) hh
            refine ⟨a, b, da, db, fv, gv, rfl, rfl, hh.f.rx.ins _ _ _ _ i1, hh.f.rx.ins _ _ _ _ i2, rfl, L, _, F2, _, [], _, hLk L hL, XRL.fz hzz, o1, hx, fun v H' F' ex fq s hx' hy hh' => ?_⟩
            cases hy
            cases hx' with
            | fz hv =>
              have ev := hv.toBl
              subst ev
              exact ⟨⟨c, rfl⟩, hP2 _ H' F' [] s ⟨.bl c, rfl⟩ ⟨fp, hs.rx (.of s), by have := o2 hh'; rwa [List.append_nil] at this⟩⟩
      · cases hm2
    · cases hm2
  · cases hm2
/-! ### isinstance(x, C), x of the own class C -/
def isiC (C : Addr) : D → Option D
  | .ins C' _ => if C' = C then some (.bl true) else none
  | _ => none
theorem isiC_D {C : Addr} {t : TE} {m : OM D} (h : OkD K W Lk t m) : OkD K W Lk (tCB (fun xs H Q => ∃ a dx fs, xs = [.ref a, .ref C] ∧ H a = some (.ins C dx fs) ∧ Q (.bl true) H) (tCons t (tCons (tC (.ref C)) tNil))) (m1 (isiC C) m) := by
  refine op1_G (rel := relD K) (rr := fun x H Q => ∃ a dx fs, [x, .ref C] = [.ref a, .ref C] ∧ H a = some (.ins C dx fs) ∧ Q (.bl true) H) (fun x dx z L F R H fp Q hx hh hg q => ?_) h
  unfold isiC at hg
  split at hg
  · split at hg
    · rename_i hC
      subst hC
      obtain rfl := Option.some.inj hg
      cases hx with
      | ins i k t => exact ⟨_, _, _, rfl, hh.f.rx.ins _ _ _ _ i, q _ H F [] (.refl _) ⟨.bl _, rfl⟩ hh⟩
    · cases hg
  · cases hg
/-! ### the items of a dict just made -/
def keyD : Key → D
  | .inl i => .int i
  | .inr x => .str x
theorem keyD_z {k : Key} : Fz K F (kV k) (keyD k) := by
  cases k with
  | inl i => exact .int i
  | inr x => exact .str x
def kitems (x : X) (e : En) : Option (Rs (List D)) := match x with
  | .od kds => some (.ok (((kds.map fun p => keyD p.1).zip (kds.map (·.2))).map fun p => .tuw [p.1, p.2]) e)
  | _ => none
def m_items (m : OM X) : OM (List D) := fun ê => bnd (m ê) kitems
theorem items_I {t : TE} {m : OM X} (h : OkX K W Lk t m) : OkI K W Lk (iItems (GL.tLk t)) (m_items m) := by
  intro L R F H σ ê r Q hL hE hm hP
  refine h.run hL hE hm hP fun v x ex F1 H1 e1 s1 hx hE1 hm1 hP1 => ?_
  unfold kitems at hm1
  split at hm1
  · rename_i kds
    obtain rfl := Option.some.inj hm1
    cases hx with
    | @od p kvs _ ek hl =>
      obtain ⟨fp, hs, hh⟩ := hE1
      refine ⟨p, kvs, rfl, (hh.c _ List.mem_cons_self).1, fun od => ⟨p, od, kvs, rfl, upd_same, ?_⟩⟩
      have hw : Hs L F1 R ((p, .frz od (.dK kvs)) :: fp) (upd H1 p (.frz od (.dK kvs))) := Hs.write (fp := fp) hh
      have hf : Hs L (plus [(p, .frz od (.dK kvs))] F1) R fp (upd H1 p (.frz od (.dK kvs))) := Hs.freeze (fp := [(p, .frz od (.dK kvs))]) hw
      have sm : L2.Same F1 (plus [(p, .frz od (.dK kvs))] F1) := (Hs.fr (fp := (p, .frz od (.dK kvs)) :: fp) hw |>.left (a := [(p, .frz od (.dK kvs))])).same
      have hFp : (plus [(p, .frz od (.dK kvs))] F1) p = some (.frz od (.dK kvs)) := upd_same
      refine hP1 _ _ (plus [(p, .frz od (.dK kvs))] F1) [] sm ⟨wd_pair (walk_items (d := p) (o := od) (kvs := kvs)) (fun L' H' s => ?_) ?_ (fun i v hi e => ?_) (fun i v hi e => ?_), rfl⟩ ⟨fp, hs.rx (.of sm), hf⟩
      · rcases s p _ hFp with z | ⟨_, ⟨kk, z⟩, _⟩
        · exact z
        · cases z
      · have e2 := congrArg List.length ek
        simp only [List.length_map] at e2
        simp [e2]
      · obtain ⟨kv, hk, rfl⟩ := Option.map_eq_some_iff.mp e
        have e2 : (kds.map (·.1))[i]? = some kv.1 := by rw [← ek, List.getElem?_map, hk]; rfl
        rw [List.getElem?_map] at e2
        obtain ⟨kd, hk2, e3⟩ := Option.map_eq_some_iff.mp e2
        exact ⟨keyD kd.1, by rw [List.getElem?_map, hk2]; rfl, by rw [e3]; exact keyD_z⟩
      · have e2 : (kvs.map (·.2))[i]? = some v := by rw [List.getElem?_map]; exact e
        obtain ⟨d, h1, h2⟩ := hl.getV e2
        exact ⟨d, h1, h2.mono sm⟩
  · cases hm1
/-! ### list(range(n)) -/
def rgG : D → Option X
  | .int j => if 0 ≤ j ∧ j ≤ 100000 then some (.ol ((List.range j.toNat).map fun (i : Nat) => .int (i : Int))) else none
  | _ => none
theorem listRg_X {t : TE} {m : OM D} (h : OkD K W Lk t m) : OkX K W Lk (tLstRg (tRg1 t)) (m1 rgG m) := by
  refine op1_G (rel := relX K) (rr := fun x H Q => ∃ n, x = .int n ∧ (RgOk 0 n ∧ ∀ q, H q = none → Q (.ref q) (upd H q (.lst (rgV 0 n))))) (fun x dx z L F R H fp Q hx hh hg q => ?_) h
  unfold rgG at hg
  split at hg
  · split at hg
    · rename_i j hj
      obtain rfl := Option.some.inj hg
      refine ⟨j, hx.toInt, .of_le (Int.le_refl _) (by omega) (by omega) hj.1, fun p np => q _ _ F _ (.refl _) (.ol ?_) (hh.new np)⟩
      unfold rgV
      rw [Int.sub_zero]
      generalize List.range j.toNat = l
      induction l with
      | nil => exact .nil
      | cons a r ih =>
        rw [List.map_cons, List.map_cons, Int.zero_add]
        exact .cons (.int _) ih
    · cases hg
  · cases hg
end
end GD
namespace K31
open PySem PySem.Spec PyProof.Rows L2
def topS (i : Nat) : Stmt := PySem.Challenge.pw_goersay_k31_least_slips_that_do_alike.main.body.getD i (.Pass ⟨0, 0, 0, 0⟩)
abbrev s_is_number : Stmt := topS 11
abbrev N_is_number : List Str := ["thing"]
abbrev P_is_number : List Str := ["thing"]
theorem sc_is_number : FnScope N_is_number P_is_number (defScope s_is_number) := ⟨rfl, rfl, rfl, by decide +kernel, rfl, by decide +kernel, by decide +kernel⟩
abbrev s_is_name : Stmt := topS 12
abbrev N_is_name : List Str := ["thing", "sign"]
abbrev P_is_name : List Str := ["thing"]
theorem sc_is_name : FnScope N_is_name P_is_name (defScope s_is_name) := ⟨rfl, rfl, rfl, by decide +kernel, rfl, by decide +kernel, by decide +kernel⟩
abbrev s_is_names : Stmt := topS 17
abbrev N_is_names : List Str := ["thing", "name"]
abbrev P_is_names : List Str := ["thing"]
theorem sc_is_names : FnScope N_is_names P_is_names (defScope s_is_names) := ⟨rfl, rfl, rfl, by decide +kernel, rfl, by decide +kernel, by decide +kernel⟩
abbrev s_check_names : Stmt := topS 18
abbrev N_check_names : List Str := ["thing"]
abbrev P_check_names : List Str := ["thing"]
theorem sc_check_names : FnScope N_check_names P_check_names (defScope s_check_names) := ⟨rfl, rfl, rfl, by decide +kernel, rfl, by decide +kernel, by decide +kernel⟩
abbrev s_check_name : Stmt := topS 19
abbrev N_check_name : List Str := ["names", "thing"]
abbrev P_check_name : List Str := ["names", "thing"]
theorem sc_check_name : FnScope N_check_name P_check_name (defScope s_check_name) := ⟨rfl, rfl, rfl, by decide +kernel, rfl, by decide +kernel, by decide +kernel⟩
abbrev s_is_slips : Stmt := topS 20
abbrev N_is_slips : List Str := ["names", "thing", "name"]
abbrev P_is_slips : List Str := ["names", "thing"]
theorem sc_is_slips : FnScope N_is_slips P_is_slips (defScope s_is_slips) := ⟨rfl, rfl, rfl, by decide +kernel, rfl, by decide +kernel, by decide +kernel⟩
abbrev s_listed_behind : Stmt := topS 21
abbrev N_listed_behind : List Str := ["names", "name", "seat"]
abbrev P_listed_behind : List Str := ["names", "name"]
theorem sc_listed_behind : FnScope N_listed_behind P_listed_behind (defScope s_listed_behind) := ⟨rfl, rfl, rfl, by decide +kernel, rfl, by decide +kernel, by decide +kernel⟩
abbrev s_who_sit : Stmt := topS 22
abbrev N_who_sit : List Str := ["names", "goers", "name"]
abbrev P_who_sit : List Str := ["names", "goers"]
theorem sc_who_sit : FnScope N_who_sit P_who_sit (defScope s_who_sit) := ⟨rfl, rfl, rfl, by decide +kernel, rfl, by decide +kernel, by decide +kernel⟩
abbrev s_check_between : Stmt := topS 13
abbrev N_check_between : List Str := ["thing", "low", "high"]
abbrev P_check_between : List Str := ["thing", "low", "high"]
theorem sc_check_between : FnScope N_check_between P_check_between (defScope s_check_between) := ⟨rfl, rfl, rfl, by decide +kernel, rfl, by decide +kernel, by decide +kernel⟩
abbrev s_rests_told : Stmt := topS 25
abbrev N_rests_told : List Str := ["names", "goers", "rests", "t", "sitting"]
abbrev P_rests_told : List Str := ["names", "goers"]
theorem sc_rests_told : FnScope N_rests_told P_rests_told (defScope s_rests_told) := ⟨rfl, rfl, rfl, by decide +kernel, rfl, by decide +kernel, by decide +kernel⟩
abbrev s_is_goers : Stmt := topS 31
abbrev N_is_goers : List Str := ["names", "thing", "goer"]
abbrev P_is_goers : List Str := ["names", "thing"]
theorem sc_is_goers : FnScope N_is_goers P_is_goers (defScope s_is_goers) := ⟨rfl, rfl, rfl, by decide +kernel, rfl, by decide +kernel, by decide +kernel⟩
abbrev s_is_sighting : Stmt := topS 28
abbrev N_is_sighting : List Str := ["thing", "names", "goers", "then"]
abbrev P_is_sighting : List Str := ["thing"]
theorem sc_is_sighting : FnScope N_is_sighting P_is_sighting (defScope s_is_sighting) := ⟨rfl, rfl, rfl, by decide +kernel, rfl, by decide +kernel, by decide +kernel⟩
abbrev s_says : Stmt := topS 29
abbrev N_says : List Str := ["sighting", "names", "goers", "then", "rests", "name", "rest"]
abbrev P_says : List Str := ["sighting"]
theorem sc_says : FnScope N_says P_says (defScope s_says) := ⟨rfl, rfl, rfl, by decide +kernel, rfl, by decide +kernel, by decide +kernel⟩
abbrev s_sighting_of : Stmt := topS 30
abbrev N_sighting_of : List Str := ["ring", "begin", "many", "then", "names", "whole", "goers"]
abbrev P_sighting_of : List Str := ["ring", "begin", "many", "then"]
theorem sc_sighting_of : FnScope N_sighting_of P_sighting_of (defScope s_sighting_of) := ⟨rfl, rfl, rfl, by decide +kernel, rfl, by decide +kernel, by decide +kernel⟩
abbrev s_needs : Stmt := topS 33
abbrev N_needs : List Str := ["ring", "told", "begin", "name", "rest"]
abbrev P_needs : List Str := ["ring"]
theorem sc_needs : FnScope N_needs P_needs (defScope s_needs) := ⟨rfl, rfl, rfl, by decide +kernel, rfl, by decide +kernel, by decide +kernel⟩
abbrev s_least_of : Stmt := topS 34
abbrev N_least_of : List Str := ["ring", "slips", "name", "modulus"]
abbrev P_least_of : List Str := ["ring"]
theorem sc_least_of : FnScope N_least_of P_least_of (defScope s_least_of) := ⟨rfl, rfl, rfl, by decide +kernel, rfl, by decide +kernel, by decide +kernel⟩
abbrev s_l_begin : Stmt := topS 36
abbrev N_l_begin : List Str := ["_law_script", "_law_cell"]
abbrev P_l_begin : List Str := ["_law_script"]
theorem sc_l_begin : FnScope N_l_begin P_l_begin (defScope s_l_begin) := ⟨rfl, rfl, rfl, by decide +kernel, rfl, by decide +kernel, by decide +kernel⟩
abbrev s_l_draw : Stmt := topS 37
abbrev N_l_draw : List Str := ["_law_state", "_law_size", "_law_cells", "_law_at", "_law_cell"]
abbrev P_l_draw : List Str := ["_law_state", "_law_size"]
theorem sc_l_draw : FnScope N_l_draw P_l_draw (defScope s_l_draw) := ⟨rfl, rfl, rfl, by decide +kernel, rfl, by decide +kernel, by decide +kernel⟩
abbrev s_l_pick : Stmt := topS 38
abbrev N_l_pick : List Str := ["_law_state", "_law_some"]
abbrev P_l_pick : List Str := ["_law_state", "_law_some"]
theorem sc_l_pick : FnScope N_l_pick P_l_pick (defScope s_l_pick) := ⟨rfl, rfl, rfl, by decide +kernel, rfl, by decide +kernel, by decide +kernel⟩
abbrev s_l_mixed : Stmt := topS 39
abbrev N_l_mixed : List Str := ["_law_state", "_law_some", "_law_rest", "_law_found"]
abbrev P_l_mixed : List Str := ["_law_state", "_law_some"]
theorem sc_l_mixed : FnScope N_l_mixed P_l_mixed (defScope s_l_mixed) := ⟨rfl, rfl, rfl, by decide +kernel, rfl, by decide +kernel, by decide +kernel⟩
abbrev s_l_crew : Stmt := topS 40
abbrev N_l_crew : List Str := ["_law_state", "_law_many", "_law_own", "_law_letters", "_law_found", "_law_lap", "_law_size", "_law_way", "_law_said", "_law_others", "_law_sign", "_law_name"]
abbrev P_l_crew : List Str := ["_law_state", "_law_many"]
theorem sc_l_crew : FnScope N_l_crew P_l_crew (defScope s_l_crew) := ⟨rfl, rfl, rfl, by decide +kernel, rfl, by decide +kernel, by decide +kernel⟩
abbrev s_l_slip : Stmt := topS 41
abbrev N_l_slip : List Str := ["_law_state", "_law_kind", "_law_number", "_law_turn"]
abbrev P_l_slip : List Str := ["_law_state"]
theorem sc_l_slip : FnScope N_l_slip P_l_slip (defScope s_l_slip) := ⟨rfl, rfl, rfl, by decide +kernel, rfl, by decide +kernel, by decide +kernel⟩
abbrev s_l_marks : Stmt := topS 42
abbrev N_l_marks : List Str := ["_law_state", "_law_crew_here", "_law_found", "_law_name"]
abbrev P_l_marks : List Str := ["_law_state", "_law_crew_here"]
theorem sc_l_marks : FnScope N_l_marks P_l_marks (defScope s_l_marks) := ⟨rfl, rfl, rfl, by decide +kernel, rfl, by decide +kernel, by decide +kernel⟩
abbrev s_l_goes : Stmt := topS 43
abbrev N_l_goes : List Str := ["_law_crew_here", "_law_marks_here", "_law_begin_here", "_law_done", "_law_seat", "_law_rest", "_law_at", "_law_circle"]
abbrev P_l_goes : List Str := ["_law_crew_here", "_law_marks_here", "_law_begin_here"]
theorem sc_l_goes : FnScope N_l_goes P_l_goes (defScope s_l_goes) := ⟨rfl, rfl, rfl, by decide +kernel, rfl, by decide +kernel, by decide +kernel⟩
abbrev s_l_common : Stmt := topS 44
abbrev N_l_common : List Str := ["_law_this", "_law_that"]
abbrev P_l_common : List Str := ["_law_this", "_law_that"]
theorem sc_l_common : FnScope N_l_common P_l_common (defScope s_l_common) := ⟨rfl, rfl, rfl, by decide +kernel, rfl, by decide +kernel, by decide +kernel⟩
abbrev s_l_multiple : Stmt := topS 45
abbrev N_l_multiple : List Str := ["_law_this", "_law_that"]
abbrev P_l_multiple : List Str := ["_law_this", "_law_that"]
theorem sc_l_multiple : FnScope N_l_multiple P_l_multiple (defScope s_l_multiple) := ⟨rfl, rfl, rfl, by decide +kernel, rfl, by decide +kernel, by decide +kernel⟩
abbrev s_l_said_by : Stmt := topS 46
abbrev N_l_said_by : List Str := ["_law_crew_here", "_law_done", "_law_last", "_law_at", "_law_name"]
abbrev P_l_said_by : List Str := ["_law_crew_here", "_law_done"]
theorem sc_l_said_by : FnScope N_l_said_by P_l_said_by (defScope s_l_said_by) := ⟨rfl, rfl, rfl, by decide +kernel, rfl, by decide +kernel, by decide +kernel⟩
abbrev s_l_needed : Stmt := topS 47
abbrev N_l_needed : List Str := ["_law_crew_here", "_law_marks_here", "_law_found", "_law_begin_here", "_law_name", "_law_number"]
abbrev P_l_needed : List Str := ["_law_crew_here", "_law_marks_here"]
theorem sc_l_needed : FnScope N_l_needed P_l_needed (defScope s_l_needed) := ⟨rfl, rfl, rfl, by decide +kernel, rfl, by decide +kernel, by decide +kernel⟩
abbrev s_l_all_rounds : Stmt := topS 48
abbrev N_l_all_rounds : List Str := ["_law_crew_here", "_law_marks_here", "_law_begin_here"]
abbrev P_l_all_rounds : List Str := ["_law_crew_here", "_law_marks_here"]
theorem sc_l_all_rounds : FnScope N_l_all_rounds P_l_all_rounds (defScope s_l_all_rounds) := ⟨rfl, rfl, rfl, by decide +kernel, rfl, by decide +kernel, by decide +kernel⟩
abbrev s_l_with : Stmt := topS 49
abbrev N_l_with : List Str := ["_law_marks_here", "_law_name", "_law_number", "_law_found"]
abbrev P_l_with : List Str := ["_law_marks_here", "_law_name", "_law_number"]
theorem sc_l_with : FnScope N_l_with P_l_with (defScope s_l_with) := ⟨rfl, rfl, rfl, by decide +kernel, rfl, by decide +kernel, by decide +kernel⟩
abbrev s_l_none_less : Stmt := topS 50
abbrev N_l_none_less : List Str := ["_law_state", "_law_crew_here", "_law_lowest", "_law_rows", "_law_name", "_law_lesser", "_law_number"]
abbrev P_l_none_less : List Str := ["_law_state", "_law_crew_here", "_law_lowest", "_law_rows"]
theorem sc_l_none_less : FnScope N_l_none_less P_l_none_less (defScope s_l_none_less) := ⟨rfl, rfl, rfl, by decide +kernel, rfl, by decide +kernel, by decide +kernel⟩
abbrev s_law : Stmt := topS 51
abbrev N_law : List Str := ["_law_script", "_law_state", "_law_turn", "_law_crew_here", "_law_marks_here", "_law_made", "_law_due", "_law_told", "_law_found", "_law_lowest", "_law_rows", "_law_name"]
abbrev P_law : List Str := ["_law_script"]
theorem sc_law : FnScope N_law P_law (defScope s_law) := ⟨rfl, rfl, rfl, by decide +kernel, rfl, by decide +kernel, by decide +kernel⟩
abbrev s_Ring_init : Stmt := inClass (topS 23) 0
abbrev N_Ring_init : List Str := ["self", "names", "slips", "name"]
abbrev P_Ring_init : List Str := ["self", "names", "slips"]
theorem sc_Ring_init : FnScope N_Ring_init P_Ring_init (defScope s_Ring_init) := ⟨rfl, rfl, rfl, by decide +kernel, rfl, by decide +kernel, by decide +kernel⟩
abbrev s_Ring_names : Stmt := inClass (topS 23) 1
abbrev N_Ring_names : List Str := ["self"]
abbrev P_Ring_names : List Str := ["self"]
theorem sc_Ring_names : FnScope N_Ring_names P_Ring_names (defScope s_Ring_names) := ⟨rfl, rfl, rfl, by decide +kernel, rfl, by decide +kernel, by decide +kernel⟩
abbrev s_Ring_slips : Stmt := inClass (topS 23) 2
abbrev N_Ring_slips : List Str := ["self"]
abbrev P_Ring_slips : List Str := ["self"]
theorem sc_Ring_slips : FnScope N_Ring_slips P_Ring_slips (defScope s_Ring_slips) := ⟨rfl, rfl, rfl, by decide +kernel, rfl, by decide +kernel, by decide +kernel⟩
abbrev s_Ring_order : Stmt := inClass (topS 23) 4
abbrev N_Ring_order : List Str := ["self", "begin", "goers"]
abbrev P_Ring_order : List Str := ["self", "begin"]
theorem sc_Ring_order : FnScope N_Ring_order P_Ring_order (defScope s_Ring_order) := ⟨rfl, rfl, rfl, by decide +kernel, rfl, by decide +kernel, by decide +kernel⟩
abbrev s_Ring_next_of : Stmt := inClass (topS 23) 5
abbrev N_Ring_next_of : List Str := ["self", "begin", "last"]
abbrev P_Ring_next_of : List Str := ["self", "begin"]
theorem sc_Ring_next_of : FnScope N_Ring_next_of P_Ring_next_of (defScope s_Ring_next_of) := ⟨rfl, rfl, rfl, by decide +kernel, rfl, by decide +kernel, by decide +kernel⟩
abbrev s_Ring_counted_on : Stmt := inClass (topS 23) 9
abbrev N_Ring_counted_on : List Str := ["self", "goer", "row"]
abbrev P_Ring_counted_on : List Str := ["self", "goer", "row"]
theorem sc_Ring_counted_on : FnScope N_Ring_counted_on P_Ring_counted_on (defScope s_Ring_counted_on) := ⟨rfl, rfl, rfl, by decide +kernel, rfl, by decide +kernel, by decide +kernel⟩
abbrev s_Ring_eq : Stmt := inClass (topS 23) 7
abbrev N_Ring_eq : List Str := ["self", "other"]
abbrev P_Ring_eq : List Str := ["self", "other"]
theorem sc_Ring_eq : FnScope N_Ring_eq P_Ring_eq (defScope s_Ring_eq) := ⟨rfl, rfl, rfl, by decide +kernel, rfl, by decide +kernel, by decide +kernel⟩
/-- what the top has written -/
structure Tx (K : PySem.W.Frag) (mg : Str → Option Value) where
  a_Ring : Addr
  cl_Ring : Cls K a_Ring
  g_Ring : mg "Ring" = some (.ref a_Ring)
  n_Ring__names : NoAttr K a_Ring "_names"
  n_Ring__slips : NoAttr K a_Ring "_slips"
  a_is_number : Addr
  fd_is_number : FuncData
  F_is_number : Fun K "is_number" "is_number" s_is_number a_is_number fd_is_number
  b_is_number : Binds K fd_is_number P_is_number []
  g_is_number : mg "is_number" = some (.ref a_is_number)
  a_is_name : Addr
  fd_is_name : FuncData
  F_is_name : Fun K "is_name" "is_name" s_is_name a_is_name fd_is_name
  b_is_name : Binds K fd_is_name P_is_name []
  g_is_name : mg "is_name" = some (.ref a_is_name)
  a_is_names : Addr
  fd_is_names : FuncData
  F_is_names : Fun K "is_names" "is_names" s_is_names a_is_names fd_is_names
  b_is_names : Binds K fd_is_names P_is_names []
  g_is_names : mg "is_names" = some (.ref a_is_names)
  a_check_names : Addr
  fd_check_names : FuncData
  F_check_names : Fun K "check_names" "check_names" s_check_names a_check_names fd_check_names
  b_check_names : Binds K fd_check_names P_check_names []
  g_check_names : mg "check_names" = some (.ref a_check_names)
  a_check_name : Addr
  fd_check_name : FuncData
  F_check_name : Fun K "check_name" "check_name" s_check_name a_check_name fd_check_name
  b_check_name : Binds K fd_check_name P_check_name []
  g_check_name : mg "check_name" = some (.ref a_check_name)
  a_is_slips : Addr
  fd_is_slips : FuncData
  F_is_slips : Fun K "is_slips" "is_slips" s_is_slips a_is_slips fd_is_slips
  b_is_slips : Binds K fd_is_slips P_is_slips []
  g_is_slips : mg "is_slips" = some (.ref a_is_slips)
  a_listed_behind : Addr
  fd_listed_behind : FuncData
  F_listed_behind : Fun K "listed_behind" "listed_behind" s_listed_behind a_listed_behind fd_listed_behind
  b_listed_behind : Binds K fd_listed_behind P_listed_behind []
  g_listed_behind : mg "listed_behind" = some (.ref a_listed_behind)
  a_who_sit : Addr
  fd_who_sit : FuncData
  F_who_sit : Fun K "who_sit" "who_sit" s_who_sit a_who_sit fd_who_sit
  b_who_sit : Binds K fd_who_sit P_who_sit []
  g_who_sit : mg "who_sit" = some (.ref a_who_sit)
  a_check_between : Addr
  fd_check_between : FuncData
  F_check_between : Fun K "check_between" "check_between" s_check_between a_check_between fd_check_between
  b_check_between : Binds K fd_check_between P_check_between []
  g_check_between : mg "check_between" = some (.ref a_check_between)
  a_rests_told : Addr
  fd_rests_told : FuncData
  F_rests_told : Fun K "rests_told" "rests_told" s_rests_told a_rests_told fd_rests_told
  b_rests_told : Binds K fd_rests_told P_rests_told []
  g_rests_told : mg "rests_told" = some (.ref a_rests_told)
  a_is_goers : Addr
  fd_is_goers : FuncData
  F_is_goers : Fun K "_is_goers" "_is_goers" s_is_goers a_is_goers fd_is_goers
  b_is_goers : Binds K fd_is_goers P_is_goers []
  g_is_goers : mg "_is_goers" = some (.ref a_is_goers)
  a_is_sighting : Addr
  fd_is_sighting : FuncData
  F_is_sighting : Fun K "is_sighting" "is_sighting" s_is_sighting a_is_sighting fd_is_sighting
  b_is_sighting : Binds K fd_is_sighting P_is_sighting []
  g_is_sighting : mg "is_sighting" = some (.ref a_is_sighting)
  a_says : Addr
  fd_says : FuncData
  F_says : Fun K "says" "says" s_says a_says fd_says
  b_says : Binds K fd_says P_says []
  g_says : mg "says" = some (.ref a_says)
  a_sighting_of : Addr
  fd_sighting_of : FuncData
  F_sighting_of : Fun K "sighting_of" "sighting_of" s_sighting_of a_sighting_of fd_sighting_of
  g_sighting_of : mg "sighting_of" = some (.ref a_sighting_of)
  a_needs : Addr
  fd_needs : FuncData
  F_needs : Fun K "needs" "needs" s_needs a_needs fd_needs
  b_needs : Binds K fd_needs P_needs []
  g_needs : mg "needs" = some (.ref a_needs)
  a_least_of : Addr
  fd_least_of : FuncData
  F_least_of : Fun K "least_of" "least_of" s_least_of a_least_of fd_least_of
  b_least_of : Binds K fd_least_of P_least_of []
  g_least_of : mg "least_of" = some (.ref a_least_of)
  kb_least_of : KBn K fd_least_of P_least_of 0 ["ring"] (byPl [0]) (byPl [0])
  a_l_begin : Addr
  fd_l_begin : FuncData
  F_l_begin : Fun K "_law_begin" "_law_begin" s_l_begin a_l_begin fd_l_begin
  b_l_begin : Binds K fd_l_begin P_l_begin []
  g_l_begin : mg "_law_begin" = some (.ref a_l_begin)
  a_l_draw : Addr
  fd_l_draw : FuncData
  F_l_draw : Fun K "_law_draw" "_law_draw" s_l_draw a_l_draw fd_l_draw
  b_l_draw : Binds K fd_l_draw P_l_draw []
  g_l_draw : mg "_law_draw" = some (.ref a_l_draw)
  a_l_pick : Addr
  fd_l_pick : FuncData
  F_l_pick : Fun K "_law_pick" "_law_pick" s_l_pick a_l_pick fd_l_pick
  b_l_pick : Binds K fd_l_pick P_l_pick []
  g_l_pick : mg "_law_pick" = some (.ref a_l_pick)
  a_l_mixed : Addr
  fd_l_mixed : FuncData
  F_l_mixed : Fun K "_law_mixed" "_law_mixed" s_l_mixed a_l_mixed fd_l_mixed
  b_l_mixed : Binds K fd_l_mixed P_l_mixed []
  g_l_mixed : mg "_law_mixed" = some (.ref a_l_mixed)
  a_l_crew : Addr
  fd_l_crew : FuncData
  F_l_crew : Fun K "_law_crew" "_law_crew" s_l_crew a_l_crew fd_l_crew
  b_l_crew : Binds K fd_l_crew P_l_crew []
  g_l_crew : mg "_law_crew" = some (.ref a_l_crew)
  a_l_slip : Addr
  fd_l_slip : FuncData
  F_l_slip : Fun K "_law_slip" "_law_slip" s_l_slip a_l_slip fd_l_slip
  b_l_slip : Binds K fd_l_slip P_l_slip []
  g_l_slip : mg "_law_slip" = some (.ref a_l_slip)
  a_l_marks : Addr
  fd_l_marks : FuncData
  F_l_marks : Fun K "_law_marks" "_law_marks" s_l_marks a_l_marks fd_l_marks
  b_l_marks : Binds K fd_l_marks P_l_marks []
  g_l_marks : mg "_law_marks" = some (.ref a_l_marks)
  a_l_goes : Addr
  fd_l_goes : FuncData
  F_l_goes : Fun K "_law_goes" "_law_goes" s_l_goes a_l_goes fd_l_goes
  b_l_goes : Binds K fd_l_goes P_l_goes []
  g_l_goes : mg "_law_goes" = some (.ref a_l_goes)
  a_l_common : Addr
  fd_l_common : FuncData
  F_l_common : Fun K "_law_common" "_law_common" s_l_common a_l_common fd_l_common
  b_l_common : Binds K fd_l_common P_l_common []
  g_l_common : mg "_law_common" = some (.ref a_l_common)
  a_l_multiple : Addr
  fd_l_multiple : FuncData
  F_l_multiple : Fun K "_law_multiple" "_law_multiple" s_l_multiple a_l_multiple fd_l_multiple
  b_l_multiple : Binds K fd_l_multiple P_l_multiple []
  g_l_multiple : mg "_law_multiple" = some (.ref a_l_multiple)
  a_l_said_by : Addr
  fd_l_said_by : FuncData
  F_l_said_by : Fun K "_law_said_by" "_law_said_by" s_l_said_by a_l_said_by fd_l_said_by
  b_l_said_by : Binds K fd_l_said_by P_l_said_by []
  g_l_said_by : mg "_law_said_by" = some (.ref a_l_said_by)
  a_l_needed : Addr
  fd_l_needed : FuncData
  F_l_needed : Fun K "_law_needed" "_law_needed" s_l_needed a_l_needed fd_l_needed
  b_l_needed : Binds K fd_l_needed P_l_needed []
  g_l_needed : mg "_law_needed" = some (.ref a_l_needed)
  a_l_all_rounds : Addr
  fd_l_all_rounds : FuncData
  F_l_all_rounds : Fun K "_law_all_rounds" "_law_all_rounds" s_l_all_rounds a_l_all_rounds fd_l_all_rounds
  b_l_all_rounds : Binds K fd_l_all_rounds P_l_all_rounds []
  g_l_all_rounds : mg "_law_all_rounds" = some (.ref a_l_all_rounds)
  a_l_with : Addr
  fd_l_with : FuncData
  F_l_with : Fun K "_law_with" "_law_with" s_l_with a_l_with fd_l_with
  b_l_with : Binds K fd_l_with P_l_with []
  g_l_with : mg "_law_with" = some (.ref a_l_with)
  a_l_none_less : Addr
  fd_l_none_less : FuncData
  F_l_none_less : Fun K "_law_none_less" "_law_none_less" s_l_none_less a_l_none_less fd_l_none_less
  b_l_none_less : Binds K fd_l_none_less P_l_none_less []
  g_l_none_less : mg "_law_none_less" = some (.ref a_l_none_less)
  a_law : Addr
  fd_law : FuncData
  F_law : Fun K "law" "law" s_law a_law fd_law
  b_law : Binds K fd_law P_law []
  g_law : mg "law" = some (.ref a_law)
  a_Ring_init : Addr
  fd_Ring_init : FuncData
  F_Ring_init : Fun K "__init__" "Ring.__init__" s_Ring_init a_Ring_init fd_Ring_init
  b_Ring_init : Binds K fd_Ring_init P_Ring_init []
  M_Ring : Mk K a_Ring a_Ring_init
  a_Ring_names : Addr
  fd_Ring_names : FuncData
  F_Ring_names : Fun K "names" "Ring.names" s_Ring_names a_Ring_names fd_Ring_names
  b_Ring_names : Binds K fd_Ring_names P_Ring_names []
  mt_Ring_names : Meth K a_Ring "names" a_Ring_names
  a_Ring_slips : Addr
  fd_Ring_slips : FuncData
  F_Ring_slips : Fun K "slips" "Ring.slips" s_Ring_slips a_Ring_slips fd_Ring_slips
  b_Ring_slips : Binds K fd_Ring_slips P_Ring_slips []
  mt_Ring_slips : Meth K a_Ring "slips" a_Ring_slips
  a_Ring_order : Addr
  fd_Ring_order : FuncData
  F_Ring_order : Fun K "order" "Ring.order" s_Ring_order a_Ring_order fd_Ring_order
  b_Ring_order : Binds K fd_Ring_order P_Ring_order []
  mt_Ring_order : Meth K a_Ring "order" a_Ring_order
  a_Ring_next_of : Addr
  fd_Ring_next_of : FuncData
  F_Ring_next_of : Fun K "next_of" "Ring.next_of" s_Ring_next_of a_Ring_next_of fd_Ring_next_of
  b_Ring_next_of : Binds K fd_Ring_next_of P_Ring_next_of []
  mt_Ring_next_of : Meth K a_Ring "next_of" a_Ring_next_of
  a_Ring_counted_on : Addr
  fd_Ring_counted_on : FuncData
  F_Ring_counted_on : Fun K "_counted_on" "Ring._counted_on" s_Ring_counted_on a_Ring_counted_on fd_Ring_counted_on
  b_Ring_counted_on : Binds K fd_Ring_counted_on P_Ring_counted_on []
  mt_Ring_counted_on : Meth K a_Ring "_counted_on" a_Ring_counted_on
  a_Ring_eq : Addr
  fd_Ring_eq : FuncData
  F_Ring_eq : Fun K "__eq__" "Ring.__eq__" s_Ring_eq a_Ring_eq fd_Ring_eq
  b_Ring_eq : Binds K fd_Ring_eq P_Ring_eq []
  mt_Ring_eq : Meth K a_Ring "__eq__" a_Ring_eq
  tk_LETTERS : Tok
  g_LETTERS : mg "LETTERS" = some (.str "abcdefghijklmnopqrstuvwxyz" tk_LETTERS)
  tk_LONGEST_NAME : Tok
  g_LONGEST_NAME : mg "LONGEST_NAME" = some (.int 8 tk_LONGEST_NAME)
  tk_FEWEST : Tok
  g_FEWEST : mg "FEWEST" = some (.int 2 tk_FEWEST)
  tk_MOST : Tok
  g_MOST : mg "MOST" = some (.int 12 tk_MOST)
  tk_ALL : Tok
  g_ALL : mg "ALL" = some (.int 0 tk_ALL)
  m_abs : mg "abs" = none
  m_all : mg "all" = none
  m_bool : mg "bool" = none
  m_dict : mg "dict" = none
  m_enumerate : mg "enumerate" = none
  m_int : mg "int" = none
  m_isinstance : mg "isinstance" = none
  m_len : mg "len" = none
  m_list : mg "list" = none
  m_min : mg "min" = none
  m_range : mg "range" = none
  m_repr : mg "repr" = none
  m_set : mg "set" = none
  m_str : mg "str" = none
  m_tuple : mg "tuple" = none
  m_zip : mg "zip" = none
  i_lcm : mg "lcm" = some (.builtin "math.lcm")
  is_Ring : C8.InsC K a_Ring
  kd_sighting_of : ∃ u : Value, KBn K fd_sighting_of P_sighting_of 2 ["then"] (fun us ws => us ++ (u :: ws)) (fun us ws => us ++ ((.int 0 : V) :: ws))
end K31
namespace K31
open PySem PySem.Spec PyProof.Rows L2 GF GD
section
variable {P : Program} {w : World} {K : PySem.W.Frag} {mg : Str → Option Value} {base : Heap}
def mb_is_number (T : Tx K mg) : SM := (m_ret (m_up (m_ite (m1 kbool (m1 (isiG .int) (m_var 0))) (m1 knotD (m1 (isiG .bool) (m_var 0))) (m_k (.bl false)))))
def m_is_number (T : Tx K mg) : List X → Option Rf := bodyF 1 [] (mb_is_number T)
theorem ok_is_number (T : Tx K mg) : FG P w K mg base 1 T.a_is_number T.fd_is_number P_is_number (spF K Lk0 1 [] (m_is_number T)) :=
  fun_okF T.F_is_number sc_is_number (by decide) fun cdv A outer s H E hr hc => by
    exact ⟨_, (pss_one (ps_ret (pe_and (pe_callB call_isi (by rfl) T.m_isinstance (by decide +kernel) (pa_cons (pv 0) (pa_cons (pe_bltn (v := .ty "int") (by rfl) T.m_int (by decide +kernel) rfl) pa_nil))) (pe_one (pe_not (pe_callB call_isi (by rfl) T.m_isinstance (by decide +kernel) (pa_cons (pv 0) (pa_cons (pe_bltn (v := .ty "bool") (by rfl) T.m_bool (by decide +kernel) rfl) pa_nil)))))))),
      (ret_S (up_D (and_D (isi_D .int (var_D (i := 0))) (not_D (isi_D .bool (var_D (i := 0)))))))⟩
def el_is_name1 (T : Tx K mg) : OM D := (m2 (inSign false) (m_var 1) (m_c (.str "abcdefghijklmnopqrstuvwxyz")))
def mb_is_name (T : Tx K mg) : SM := (m_seq (m_if (m_ite (m_not (m1 kbool (m1 (isiG .str) (m_var 0)))) (m_k true) (m_not (m1 kbool (m_chain leI leI (m_c (.int 1)) (m1 lenS (m_var 0)) (m_c (.int 8))))))
      (m_ret (m_up (m_c (.bl false))))
      m_next)
      (m_ret (m_up (m1 allG (m_fr (m_lc (m1 kstr (m_var 0)) (g_nm 1) (m_k true) (el_is_name1 T) [1]))))))
def m_is_name (T : Tx K mg) : List X → Option Rf := bodyF 2 [] (mb_is_name T)
theorem ok_is_name (T : Tx K mg) : FG P w K mg base 1 T.a_is_name T.fd_is_name P_is_name (spF K Lk0 1 [] (m_is_name T)) :=
  fun_okF T.F_is_name sc_is_name (by decide) fun cdv A outer s H E hr hc => by
    exact ⟨_, (pss_cons (ps_if (PW.pt (pw_or (pt_not (pt_val (pe_callB call_isi (by rfl) T.m_isinstance (by decide +kernel) (pa_cons (pv 0) (pa_cons (pe_bltn (v := .ty "str") (by rfl) T.m_str (by decide +kernel) rfl) pa_nil))))) (pw_or1 (pt_not (pt_chain op_le op_le pe_int (pe_callB call_len_str (by rfl) T.m_len (by decide +kernel) (pa_cons (pv 0) pa_nil)) (pe_glob (v := .int 8) rfl T.g_LONGEST_NAME ⟨_, rfl⟩))))))
       (pss_one (ps_ret pe_bl))
       pss_nil)
      (pss_one (ps_ret (pe_callB (cr_all rfl) (by rfl) T.m_all (by decide +kernel) (pa_cons (pe_lc (own := [("sign", 1)]) (g := gName 1) (tt := tYes) rfl sc_is_name.nd (pi_str (pv 0)) (blkOk_by (N := N_is_name) (sc := defScope s_is_name) (by decide +kernel)) (fun _ _ _ _ _ => pg_name (i := 1) sc_is_name.nd rfl (Or.inl rfl)) (fun _ _ _ _ _ => pts_nil) (fun _ _ _ _ _ => (pe_cmpR op_in_sign (pv 1) (pe_glob (v := .str "abcdefghijklmnopqrstuvwxyz") rfl T.g_LETTERS ⟨_, rfl⟩) (by rfl)))) pa_nil))))),
      (seq_S (if_S (or_T (not_T (val_T (isi_D .str (var_D (i := 0))))) (not_T (test_T (chain_D trivial trivial (c_D (Fz.int _)) (op1_of_lk lk_lenS lenS_flat (var_D (i := 0))) (c_D (Fz.int _)))))) (ret_S (up_D (c_D (Fz.bl _)))) next_S)
      (ret_S (up_D (op1_of_lk lk_all allG_flat (fr_X (lc_X (str_I (var_D (i := 0))) (nm_G (i := 1)) yes_T (op2_G o_inSign (var_D (i := 1)) (c_D (Fz.str _))) (by decide)))))))⟩
def el_is_names1 (T : Tx K mg) : OM D := (m_fr (m_call 1 (m_is_name T) (m_cons (m_var 1) m_nil)))
def mb_is_names (T : Tx K mg) : SM := (m_seq (m_if (m_ite (m_not (m1 kbool (m1 isiLT (m_var 0)))) (m_k true) (m_not (m1 kbool (m_chain leI leI (m_c (.int 2)) (m1 lenA (m_var 0)) (m_c (.int 12))))))
      (m_ret (m_up (m_c (.bl false))))
      m_next)
      (m_seq (m_if (m_not (m1 kbool (m1 allG (m_fr (m_lc (m1 kseq (m_var 0)) (g_nm 1) (m_k true) (el_is_names1 T) [1])))))
      (m_ret (m_up (m_c (.bl false))))
      m_next)
      (m_ret (m_up (m2 (eqD false) (m1 setG (m_var 0)) (m1 lenA (m_var 0)))))))
def m_is_names (T : Tx K mg) : List X → Option Rf := bodyF 2 [] (mb_is_names T)
theorem ok_is_names (T : Tx K mg) : FG P w K mg base 2 T.a_is_names T.fd_is_names P_is_names (spF K Lk0 1 [] (m_is_names T)) :=
  fun_okF T.F_is_names sc_is_names (by decide) fun cdv A outer s H E hr hc => by
    exact ⟨_, (pss_cons (ps_if (PW.pt (pw_or (pt_not (pt_val (pe_callB call_isiT (by rfl) T.m_isinstance (by decide +kernel) (pa_cons (pv 0) (pa_cons (pe_tup (pa_cons (pe_bltn (v := .ty "list") (by rfl) T.m_list (by decide +kernel) rfl) (pa_cons (pe_bltn (v := .ty "tuple") (by rfl) T.m_tuple (by decide +kernel) rfl) pa_nil))) pa_nil))))) (pw_or1 (pt_not (pt_chain op_le op_le (pe_glob (v := .int 2) rfl T.g_FEWEST ⟨_, rfl⟩) (pe_callB call_len (by rfl) T.m_len (by decide +kernel) (pa_cons (pv 0) pa_nil)) (pe_glob (v := .int 12) rfl T.g_MOST ⟨_, rfl⟩))))))
       (pss_one (ps_ret pe_bl))
       pss_nil)
      (pss_cons (ps_if (pt_not (pt_val (pe_callB (cr_all rfl) (by rfl) T.m_all (by decide +kernel) (pa_cons (pe_lc (own := [("name", 1)]) (g := gName 1) (tt := tYes) rfl sc_is_names.nd (pi_either (pi_list (pv 0)) (pi_tup (pv 0))) (blkOk_by (N := N_is_names) (sc := defScope s_is_names) (by decide +kernel)) (fun _ _ _ _ _ => pg_name (i := 1) sc_is_names.nd rfl (Or.inl rfl)) (fun _ _ _ _ _ => pts_nil) (fun _ _ _ _ _ => (pf_call (W := W0) (ok_is_name T) (hr.mono (by decide)) hc (by rfl) T.g_is_name T.F_is_name.kp T.b_is_name takes0 (pa_cons (pv 1) pa_nil)))) pa_nil))))
       (pss_one (ps_ret pe_bl))
       pss_nil)
      (pss_one (ps_ret (pe_cmpR (op_eqD hr.units) (pe_lenSetS rfl T.m_len T.m_set (pv 0)) (pe_callB call_len (by rfl) T.m_len (by decide +kernel) (pa_cons (pv 0) pa_nil)) (nomark _)))))),
      (seq_S (if_S (or_T (not_T (val_T (isiLT_D (var_D (i := 0))))) (not_T (test_T (chain_D trivial trivial (c_D (Fz.int _)) (op1_of_lk lk_lenA lenA_flat (var_D (i := 0))) (c_D (Fz.int _)))))) (ret_S (up_D (c_D (Fz.bl _)))) next_S)
      (seq_S (if_S (not_T (val_T (op1_of_lk lk_all allG_flat (fr_X (lc_X (either_I (var_D (i := 0))) (nm_G (i := 1)) yes_T (fr_X (call_X (fun _ _ => trivial) (cons_A (var_D (i := 1)) nil_A))) (by decide)))))) (ret_S (up_D (c_D (Fz.bl _)))) next_S)
      (ret_S (up_D (op2_G o_eqD (set_D (var_D (i := 0))) (op1_of_lk lk_lenA lenA_flat (var_D (i := 0))))))))⟩
def mb_check_names (T : Tx K mg) : SM := (m_if (m_not (m1 kbool (m_fr (m_call 1 (m_is_names T) (m_cons (m_var 0) m_nil)))))
      m_never
      m_next)
def m_check_names (T : Tx K mg) : List X → Option Rf := bodyF 1 [] (mb_check_names T)
theorem ok_check_names (T : Tx K mg) : FG P w K mg base 3 T.a_check_names T.fd_check_names P_check_names (spF K Lk0 1 [] (m_check_names T)) :=
  fun_okF T.F_check_names sc_check_names (by decide) fun cdv A outer s H E hr hc => by
    exact ⟨_, (pss_one (ps_if (pt_not (pt_val (pf_call (W := WD E) (ok_is_names T) (hr.mono (by decide)) hc (by rfl) T.g_is_names T.F_is_names.kp T.b_is_names (takes_of rfl rfl rfl rfl) (pa_cons (pv 0) pa_nil))))
       (pss_one ps_never)
       pss_nil)),
      (if_S (not_T (val_T (fr_X (call_X (fun _ _ => trivial) (cons_A (var_D (i := 0)) nil_A))))) never_S next_S)⟩
def mb_check_name (T : Tx K mg) : SM := (m_if (m1 kbool (m_r2 (inF true) 0 (m_var 1)))
      m_never
      m_next)
def m_check_name (T : Tx K mg) : List X → Option Rf := bodyF 2 [] (mb_check_name T)
theorem ok_check_name (T : Tx K mg) : FG P w K mg base 1 T.a_check_name T.fd_check_name P_check_name (spF K Lk0 2 [] (m_check_name T)) :=
  fun_okF T.F_check_name sc_check_name (by decide) fun cdv A outer s H E hr hc => by
    exact ⟨_, (pss_one (ps_if (pt_cmpR op_notIn_seq (pv 1) (pv 0) (by rfl))
       (pss_one ps_never)
       pss_nil)),
      (if_S (test_T (r2_D (lk_in true) inF_flat (var_D (i := 1)))) never_S next_S)⟩
def el_is_slips1 (T : Tx K mg) : OM D := (m_ite (m1 kbool (m2 (dinG false) (m_var 2) (m_var 1))) (m_fr (m_call 1 (m_is_number T) (m_cons (m2 getG (m_var 1) (m_var 2)) m_nil))) (m_k (.bl false)))
def mb_is_slips (T : Tx K mg) : SM := (m_seq (m_if (m_ite (m_not (m1 kbool (m1 (isiG .dict) (m_var 1)))) (m_k true) (m1 kbool (m2 (eqD true) (m1 lenDG (m_var 1)) (m1 lenG (m_var 0)))))
      (m_ret (m_up (m_c (.bl false))))
      m_next)
      (m_ret (m_up (m1 allG (m_fr (m_lc (m1 klist (m_var 0)) (g_nm 2) (m_k true) (el_is_slips1 T) [2]))))))
def m_is_slips (T : Tx K mg) : List X → Option Rf := bodyF 3 [] (mb_is_slips T)
theorem ok_is_slips (T : Tx K mg) : FG P w K mg base 2 T.a_is_slips T.fd_is_slips P_is_slips (spF K Lk0 2 [] (m_is_slips T)) :=
  fun_okF T.F_is_slips sc_is_slips (by decide) fun cdv A outer s H E hr hc => by
    have hu := hu_of hr
    exact ⟨_, (pss_cons (ps_if (PW.pt (pw_or (pt_not (pt_val (pe_callB call_isi (by rfl) T.m_isinstance (by decide +kernel) (pa_cons (pv 1) (pa_cons (pe_bltn (v := .ty "dict") (by rfl) T.m_dict (by decide +kernel) rfl) pa_nil))))) (pw_or1 (pt_cmpR (op_neD hr.units) (pe_callB call_lenR (by rfl) T.m_len (by decide +kernel) (pa_cons (pv 1) pa_nil)) (pe_callB call_len_seq (by rfl) T.m_len (by decide +kernel) (pa_cons (pv 0) pa_nil)) (nomark _)))))
       (pss_one (ps_ret pe_bl))
       pss_nil)
      (pss_one (ps_ret (pe_callB (cr_all rfl) (by rfl) T.m_all (by decide +kernel) (pa_cons (pe_lc (own := [("name", 2)]) (g := gName 2) (tt := tYes) rfl sc_is_slips.nd (pi_list (pv 0)) (blkOk_by (N := N_is_slips) (sc := defScope s_is_slips) (by decide +kernel)) (fun _ _ _ _ _ => pg_name (i := 2) sc_is_slips.nd rfl (Or.inl rfl)) (fun _ _ _ _ _ => pts_nil) (fun _ _ _ _ _ => (pe_and (pe_cmp (pc_din hu (pv 2) (pv 1)) rfl) (pe_one (pf_call (W := W0) (ok_is_number T) (hr.mono (by decide)) hc (by rfl) T.g_is_number T.F_is_number.kp T.b_is_number takes0 (pa_cons (pe_dget hu (pv 1) (pv 2) (fun _ _ => rfl)) pa_nil)))))) pa_nil))))),
      (seq_S (if_S (or_T (not_T (val_T (isi_D .dict (var_D (i := 1))))) (test_T (op2_G o_neD (lenD_D (var_D (i := 1))) (op1_of_lk lk_len lenG_flat (var_D (i := 0)))))) (ret_S (up_D (c_D (Fz.bl _)))) next_S)
      (ret_S (up_D (op1_of_lk lk_all allG_flat (fr_X (lc_X (list_I (var_D (i := 0))) (nm_G (i := 2)) yes_T (and_D (din_D (var_D (i := 2)) (var_D (i := 1))) (fr_X (call_X (fun _ _ => trivial) (cons_A (dget_D (var_D (i := 1)) (var_D (i := 2))) nil_A)))) (by decide)))))))⟩
def mb_listed_behind (T : Tx K mg) : SM := m_or 0
      (m_seq (m_set (m_up (m2 addI (m_on isLst idxL (m_var 0) (m_var 1)) (m_c (.int 1)))) (g_nm 2))
      (m_ret (m2 catL (m_fr (m_sl slL (m_var 0) (m1 kpart (m_var 2)) m_noPart)) (m_fr (m_sl slL (m_var 0) m_noPart (m1 kpart (m_var 2)))))))
      (m_seq (m_set (m_up (m2 addI (m_on isTup idxT (m_var 0) (m_var 1)) (m_c (.int 1)))) (g_nm 2))
      (m_ret (m_up (m2 catT (m_sl slT (m_var 0) (m1 kpart (m_var 2)) m_noPart) (m_sl slT (m_var 0) m_noPart (m1 kpart (m_var 2)))))))
def m_listed_behind (T : Tx K mg) : List X → Option Rf := bodyF 3 [] (mb_listed_behind T)
theorem ok_listed_behind (T : Tx K mg) : FG P w K mg base 1 T.a_listed_behind T.fd_listed_behind P_listed_behind (spF K Lk0 2 [] (m_listed_behind T)) :=
  fun_okF T.F_listed_behind sc_listed_behind (by decide) fun cdv A outer s H E hr hc => by
    exact ⟨_, (pss_or (pss_cons (ps_set (i := 2) sc_listed_behind.nd rfl (.inl rfl) (pe_op op_add (pe_bm PySem.F.plainAttrs_list PySem.F.slot_list_index PySem.F.type_list_index mt_index (pv 0) (pa_cons (pv 1) pa_nil)) pe_int))
      (pss_one (ps_ret (pe_op op_cat (pe_slice sl_list (pv 0) (po_some (pv 2)) po_none) (pe_slice sl_list (pv 0) po_none (po_some (pv 2)))))))
      (pss_cons (ps_set (i := 2) sc_listed_behind.nd rfl (.inl rfl) (pe_op op_add (pe_bmF PySem.F.slot_tuple_index PySem.F.type_tuple_index mt_tup_index (pv 0) (pa_cons (pv 1) pa_nil)) pe_int))
      (pss_one (ps_ret (pe_op op_catF (pe_slice sl_tupF (pv 0) (po_some (pv 2)) po_none) (pe_slice sl_tupF (pv 0) po_none (po_some (pv 2)))))))),
      (or_S (seq_S (set_S (up_D (op2_G o_add (idxL_D (var_D (i := 0)) (var_D (i := 1))) (c_D (Fz.int _)))) (nm_G (i := 2)) (by decide))
      (ret_S (op2_G o_catL (fr_X (sl_G o_slL (var_D (i := 0)) (some_O (var_D (i := 2))) none_O)) (fr_X (sl_G o_slL (var_D (i := 0)) none_O (some_O (var_D (i := 2))))))))
      (seq_S (set_S (up_D (op2_G o_add (idxT_D (var_D (i := 0)) (var_D (i := 1))) (c_D (Fz.int _)))) (nm_G (i := 2)) (by decide))
      (ret_S (up_D (op2_G o_catT (sl_G o_slT (var_D (i := 0)) (some_O (var_D (i := 2))) none_O) (sl_G o_slT (var_D (i := 0)) none_O (some_O (var_D (i := 2)))))))))⟩
def el_who_sit1 (T : Tx K mg) : OM D := (m_var 2)
def if_who_sit2 (T : Tx K mg) : OM Bool := (m1 kbool (m_r2 (inF true) 1 (m_var 2)))
def mb_who_sit (T : Tx K mg) : SM := (m_ret (m_lc (m1 kseq (m_fr (m_call 2 (m_listed_behind T) (m_cons (m_var 0) (m_cons (m2 ixA (m_var 1) (m1 negI (m_c (.int 1)))) m_nil))))) (g_nm 2) (if_who_sit2 T) (el_who_sit1 T) [2]))
def m_who_sit (T : Tx K mg) : List X → Option Rf := bodyF 3 [] (mb_who_sit T)
theorem ok_who_sit (T : Tx K mg) : FG P w K mg base 2 T.a_who_sit T.fd_who_sit P_who_sit (spF K Lk0 2 [] (m_who_sit T)) :=
  fun_okF T.F_who_sit sc_who_sit (by decide) fun cdv A outer s H E hr hc => by
    exact ⟨_, (pss_one (ps_ret (pe_lc (own := [("name", 2)]) (g := gName 2)  rfl sc_who_sit.nd (pi_either (pi_list (pf_call (W := WD E) (ok_listed_behind T) (hr.mono (by decide)) hc (by rfl) T.g_listed_behind T.F_listed_behind.kp T.b_listed_behind (takes_of rfl rfl rfl rfl) (pa_cons (pv 0) (pa_cons (pe_ix ix_seq (pv 1) (pe_un un_neg pe_int) (fun _ _ => rfl)) pa_nil)))) (pi_tup (pf_call (W := WD E) (ok_listed_behind T) (hr.mono (by decide)) hc (by rfl) T.g_listed_behind T.F_listed_behind.kp T.b_listed_behind (takes_of rfl rfl rfl rfl) (pa_cons (pv 0) (pa_cons (pe_ix ix_seq (pv 1) (pe_un un_neg pe_int) (fun _ _ => rfl)) pa_nil))))) (blkOk_by (N := N_who_sit) (sc := defScope s_who_sit) (by decide +kernel)) (fun _ _ _ _ _ => pg_name (i := 2) sc_who_sit.nd rfl (Or.inl rfl)) (fun _ _ _ _ _ => pts_one (pt_cmpR (show OpR _ (compareOp .NotIn) (rIn K true) from op_notIn_seq) (pv 2) (pv 1) (by rfl))) (fun _ _ _ _ _ => (pv 2))))),
      (ret_S (lc_X (either_I (fr_X (call_X (fun _ _ => trivial) (cons_A (var_D (i := 0)) (cons_A (op2_G o_ix (var_D (i := 1)) (un_D o_neg (c_D (Fz.int _)))) nil_A))))) (nm_G (i := 2)) (test_T (r2_D (lk_in true) inF_flat (var_D (i := 2)))) (var_D (i := 2)) (by decide)))⟩
def mb_check_between (T : Tx K mg) : SM := (m_if (m_ite (m_not (m1 kbool (m_fr (m_call 1 (m_is_number T) (m_cons (m_var 0) m_nil))))) (m_k true) (m_not (m1 kbool (m_chain leI leI (m_var 1) (m_var 0) (m_var 2)))))
      m_never
      m_next)
def m_check_between (T : Tx K mg) : List X → Option Rf := bodyF 3 [] (mb_check_between T)
theorem ok_check_between (T : Tx K mg) : FG P w K mg base 2 T.a_check_between T.fd_check_between P_check_between (spF K Lk0 3 [] (m_check_between T)) :=
  fun_okF T.F_check_between sc_check_between (by decide) fun cdv A outer s H E hr hc => by
    exact ⟨_, (pss_one (ps_if (PW.pt (pw_or (pt_not (pt_val (pf_call (W := WD E) (ok_is_number T) (hr.mono (by decide)) hc (by rfl) T.g_is_number T.F_is_number.kp T.b_is_number (takes_of rfl rfl rfl rfl) (pa_cons (pv 0) pa_nil)))) (pw_or1 (pt_not (pt_chain op_le op_le (pv 1) (pv 0) (pv 2))))))
       (pss_one ps_never)
       pss_nil)),
      (if_S (or_T (not_T (val_T (fr_X (call_X (fun _ _ => trivial) (cons_A (var_D (i := 0)) nil_A))))) (not_T (test_T (chain_D trivial trivial (var_D (i := 1)) (var_D (i := 0)) (var_D (i := 2)))))) never_S next_S)⟩
def lp_rests_told1 (T : Tx K mg) : SM := (m_seq (m_set (m_call 2 (m_who_sit T) (m_cons (m_var 0) (m_cons (m_sl slT (m_var 1) m_noPart (m1 kpart (m_var 3))) m_nil))) (g_nm 4))
      (m_drop (m_append 2 (mA tupA (m_cons (m_on isLst idxL (m_var 4) (m2 ixT (m_var 1) (m_var 3))) (m_cons (m1 lenG (m_var 4)) m_nil))))))
def mb_rests_told (T : Tx K mg) : SM := (m_seq (m_set (mA lstA m_nil) (g_nm 2))
      (m_seq (m_for (mA krng2 (m_cons (m_c (.int 1)) (m_cons (m1 lenG (m_var 1)) m_nil))) (g_nm 3) (lp_rests_told1 T))
      (m_ret (m_mv 2))))
def m_rests_told (T : Tx K mg) : List X → Option Rf := bodyF 5 [] (mb_rests_told T)
theorem ok_rests_told (T : Tx K mg) : FG P w K mg base 3 T.a_rests_told T.fd_rests_told P_rests_told (spF K Lk0 2 [] (m_rests_told T)) :=
  fun_okF T.F_rests_told sc_rests_told (by decide) fun cdv A outer s H E hr hc => by
    exact ⟨_, (pss_cons (ps_set (i := 2) sc_rests_told.nd rfl (.inl rfl) (pe_lst pa_nil))
      (pss_cons (ps_for (passes_of rfl) rfl (pi_range2 (by rfl) T.m_range (pa_cons pe_int (pa_cons (pe_callB call_len_seq (by rfl) T.m_len (by decide +kernel) (pa_cons (pv 1) pa_nil)) pa_nil))) (pg_name (i := 3) sc_rests_told.nd rfl (.inl rfl))
       (pss_cons (ps_set (i := 4) sc_rests_told.nd rfl (.inl rfl) (pf_call (W := WD E) (ok_who_sit T) (hr.mono (by decide)) hc (by rfl) T.g_who_sit T.F_who_sit.kp T.b_who_sit (takes_of rfl rfl rfl rfl) (pa_cons (pv 0) (pa_cons (pe_slice sl_tupF (pv 1) po_none (po_some (pv 3))) pa_nil))))
        (pss_one (ps_expr (pe_bm PySem.F.plainAttrs_list PySem.F.slot_list_append PySem.F.type_list_append mt_append (pv 2) (pa_cons (pe_tupF (pa_cons (pe_bm PySem.F.plainAttrs_list PySem.F.slot_list_index PySem.F.type_list_index mt_index (pv 4) (pa_cons (pe_ix ix_tup (pv 1) (pv 3) (fun _ _ => rfl)) pa_nil)) (pa_cons (pe_callB call_len_seq (by rfl) T.m_len (by decide +kernel) (pa_cons (pv 4) pa_nil)) pa_nil))) pa_nil))))))
      (pss_one (ps_ret (pv 2))))),
      (seq_S (set_S (a_lst nil_A) (nm_G (i := 2)) (by decide))
      (seq_S (for_S (rng2_I (cons_A (c_D (Fz.int _)) (cons_A (op1_of_lk lk_len lenG_flat (var_D (i := 1))) nil_A))) (nm_G (i := 3)) (seq_S (set_S (call_X (fun _ _ => trivial) (cons_A (var_D (i := 0)) (cons_A (sl_G o_slT (var_D (i := 1)) none_O (some_O (var_D (i := 3)))) nil_A))) (nm_G (i := 4)) (by decide))
      (drop_S (append_X (i := 2) (a_tup (cons_A (idxL_D (var_D (i := 4)) (op2_G o_ixT (var_D (i := 1)) (var_D (i := 3)))) (cons_A (op1_of_lk lk_len lenG_flat (var_D (i := 4))) nil_A)))))) (by decide))
      (ret_S (mv_X (i := 2)))))⟩
def el_is_goers1 (T : Tx K mg) : OM D := (m_r2 (inF false) 0 (m_var 2))
def mb_is_goers (T : Tx K mg) : SM := (m_seq (m_if (m_ite (m_not (m1 kbool (m1 (isiG .tuple) (m_var 1)))) (m_k true) (m1 kbool (m2 (eqD false) (m1 lenG (m_var 1)) (m_c (.int 0)))))
      (m_ret (m_up (m_c (.bl false))))
      m_next)
      (m_seq (m_if (m_not (m1 kbool (m1 allG (m_fr (m_lc (m1 ktup (m_var 1)) (g_nm 2) (m_k true) (el_is_goers1 T) [2])))))
      (m_ret (m_up (m_c (.bl false))))
      m_next)
      (m_ret (m_up (m2 (eqD false) (m1 setG (m_var 1)) (m1 lenG (m_var 1)))))))
def m_is_goers (T : Tx K mg) : List X → Option Rf := bodyF 3 [] (mb_is_goers T)
theorem ok_is_goers (T : Tx K mg) : FG P w K mg base 1 T.a_is_goers T.fd_is_goers P_is_goers (spF K Lk0 2 [] (m_is_goers T)) :=
  fun_okF T.F_is_goers sc_is_goers (by decide) fun cdv A outer s H E hr hc => by
    exact ⟨_, (pss_cons (ps_if (PW.pt (pw_or (pt_not (pt_val (pe_callB call_isi (by rfl) T.m_isinstance (by decide +kernel) (pa_cons (pv 1) (pa_cons (pe_bltn (v := .ty "tuple") (by rfl) T.m_tuple (by decide +kernel) rfl) pa_nil))))) (pw_or1 (pt_cmpR (op_eqD hr.units) (pe_callB call_len_seq (by rfl) T.m_len (by decide +kernel) (pa_cons (pv 1) pa_nil)) pe_int (nomark _)))))
       (pss_one (ps_ret pe_bl))
       pss_nil)
      (pss_cons (ps_if (pt_not (pt_val (pe_callB (cr_all rfl) (by rfl) T.m_all (by decide +kernel) (pa_cons (pe_lc (own := [("goer", 2)]) (g := gName 2) (tt := tYes) rfl sc_is_goers.nd (pi_tup (pv 1)) (blkOk_by (N := N_is_goers) (sc := defScope s_is_goers) (by decide +kernel)) (fun _ _ _ _ _ => pg_name (i := 2) sc_is_goers.nd rfl (Or.inl rfl)) (fun _ _ _ _ _ => pts_nil) (fun _ _ _ _ _ => (pe_cmpR (show OpR _ (compareOp .In) (rIn K false) from op_in_seq) (pv 2) (pv 0) (by rfl)))) pa_nil))))
       (pss_one (ps_ret pe_bl))
       pss_nil)
      (pss_one (ps_ret (pe_cmpR (op_eqD hr.units) (pe_lenSetS rfl T.m_len T.m_set (pv 1)) (pe_callB call_len_seq (by rfl) T.m_len (by decide +kernel) (pa_cons (pv 1) pa_nil)) (nomark _)))))),
      (seq_S (if_S (or_T (not_T (val_T (isi_D .tuple (var_D (i := 1))))) (test_T (op2_G o_eqD (op1_of_lk lk_len lenG_flat (var_D (i := 1))) (c_D (Fz.int _))))) (ret_S (up_D (c_D (Fz.bl _)))) next_S)
      (seq_S (if_S (not_T (val_T (op1_of_lk lk_all allG_flat (fr_X (lc_X (tup_I (var_D (i := 1))) (nm_G (i := 2)) yes_T (r2_D (lk_in false) inF_flat (var_D (i := 2))) (by decide)))))) (ret_S (up_D (c_D (Fz.bl _)))) next_S)
      (ret_S (up_D (op2_G o_eqD (set_D (var_D (i := 1))) (op1_of_lk lk_len lenG_flat (var_D (i := 1))))))))⟩
def mb_is_sighting (T : Tx K mg) : SM := (m_seq (m_if (m_ite (m_not (m1 kbool (m1 (isiG .tuple) (m_var 0)))) (m_k true) (m1 kbool (m2 (eqD true) (m1 lenG (m_var 0)) (m_c (.int 3)))))
      (m_ret (m_up (m_c (.bl false))))
      m_next)
      (m_seq (m_set (m_mv 0) (g_tup 3 (g_cons (g_nm 1) (g_cons (g_nm 2) (g_cons (g_nm 3) g_nil)))))
      (m_seq (m_if (m_ite (m_not (m1 kbool (m1 (isiG .tuple) (m_var 1)))) (m_k true) (m_ite (m_not (m1 kbool (m_fr (m_call 1 (m_is_names T) (m_cons (m_var 1) m_nil))))) (m_k true) (m_not (m1 kbool (m_fr (m_call 2 (m_is_goers T) (m_cons (m_var 1) (m_cons (m_var 2) m_nil))))))))
      (m_ret (m_up (m_c (.bl false))))
      m_next)
      (m_ret (m_up (m_ite (m1 kbool (m2 isN (m_var 3) (m_c .non))) (m_k (.bl true)) (m_ite (m1 kbool (m2 (eqD false) (m1 lenG (m_var 2)) (m1 lenG (m_var 1)))) (m_r2 (inF false) 1 (m_var 3)) (m_k (.bl false)))))))))
def m_is_sighting (T : Tx K mg) : List X → Option Rf := bodyF 4 [] (mb_is_sighting T)
theorem ok_is_sighting (T : Tx K mg) : FG P w K mg base 3 T.a_is_sighting T.fd_is_sighting P_is_sighting (spF K Lk0 1 [] (m_is_sighting T)) :=
  fun_okF T.F_is_sighting sc_is_sighting (by decide) fun cdv A outer s H E hr hc => by
    exact ⟨_, (pss_cons (ps_if (PW.pt (pw_or (pt_not (pt_val (pe_callB call_isi (by rfl) T.m_isinstance (by decide +kernel) (pa_cons (pv 0) (pa_cons (pe_bltn (v := .ty "tuple") (by rfl) T.m_tuple (by decide +kernel) rfl) pa_nil))))) (pw_or1 (pt_cmpR (op_neD hr.units) (pe_callB call_len_seq (by rfl) T.m_len (by decide +kernel) (pa_cons (pv 0) pa_nil)) pe_int (nomark _)))))
       (pss_one (ps_ret pe_bl))
       pss_nil)
      (pss_cons (ps_asg (pv 0) (pg_tup (by rfl) (pgs_cons (pg_name (i := 1) sc_is_sighting.nd rfl (.inl rfl)) (pgs_cons (pg_name (i := 2) sc_is_sighting.nd rfl (.inl rfl)) (pgs_cons (pg_name (i := 3) sc_is_sighting.nd rfl (.inl rfl)) pgs_nil)))))
      (pss_cons (ps_if (PW.pt (pw_or (pt_not (pt_val (pe_callB call_isi (by rfl) T.m_isinstance (by decide +kernel) (pa_cons (pv 1) (pa_cons (pe_bltn (v := .ty "tuple") (by rfl) T.m_tuple (by decide +kernel) rfl) pa_nil))))) (pw_or (pt_not (pt_val (pf_call (W := WD E) (ok_is_names T) (hr.mono (by decide)) hc (by rfl) T.g_is_names T.F_is_names.kp T.b_is_names (takes_of rfl rfl rfl rfl) (pa_cons (pv 1) pa_nil)))) (pw_or1 (pt_not (pt_val (pf_call (W := WD E) (ok_is_goers T) (hr.mono (by decide)) hc (by rfl) T.g_is_goers T.F_is_goers.kp T.b_is_goers (takes_of rfl rfl rfl rfl) (pa_cons (pv 1) (pa_cons (pv 2) pa_nil)))))))))
       (pss_one (ps_ret pe_bl))
       pss_nil)
      (pss_one (ps_ret (pe_or (pe_cmpR op_isN (pv 3) pe_non (nomark _)) (pe_one (pe_and (pe_cmpR (op_eqD hr.units) (pe_callB call_len_seq (by rfl) T.m_len (by decide +kernel) (pa_cons (pv 2) pa_nil)) (pe_callB call_len_seq (by rfl) T.m_len (by decide +kernel) (pa_cons (pv 1) pa_nil)) (nomark _)) (pe_one (pe_cmpR op_in_seq (pv 3) (pv 1) (by rfl))))))))))),
      (seq_S (if_S (or_T (not_T (val_T (isi_D .tuple (var_D (i := 0))))) (test_T (op2_G o_neD (op1_of_lk lk_len lenG_flat (var_D (i := 0))) (c_D (Fz.int _))))) (ret_S (up_D (c_D (Fz.bl _)))) next_S)
      (seq_S (set_S (mv_X (i := 0)) (tup_G (cons_Gs (nm_G (i := 1)) (cons_Gs (nm_G (i := 2)) (cons_Gs (nm_G (i := 3)) nil_Gs)))) (by decide))
      (seq_S (if_S (or_T (not_T (val_T (isi_D .tuple (var_D (i := 1))))) (or_T (not_T (val_T (fr_X (call_X (fun _ _ => trivial) (cons_A (var_D (i := 1)) nil_A))))) (not_T (val_T (fr_X (call_X (fun _ _ => trivial) (cons_A (var_D (i := 1)) (cons_A (var_D (i := 2)) nil_A)))))))) (ret_S (up_D (c_D (Fz.bl _)))) next_S)
      (ret_S (up_D (or_D (op2_G o_isN (var_D (i := 3)) (c_D Fz.non)) (and_D (op2_G o_eqD (op1_of_lk lk_len lenG_flat (var_D (i := 2))) (op1_of_lk lk_len lenG_flat (var_D (i := 1)))) (r2_D (lk_in false) inF_flat (var_D (i := 3))))))))))⟩
def el_says1 (T : Tx K mg) : OM D := (mA tupA (m_cons (m_var 5) (m_cons (m_var 6) m_nil)))
def if_says2 (T : Tx K mg) : OM Bool := (m1 kbool (m2 (eqD true) (m2 ixT (m_var 6) (m_c (.int 1))) (m_c (.int 1))))
def mb_says (T : Tx K mg) : SM := (m_seq (m_if (m_not (m1 kbool (m_fr (m_call 1 (m_is_sighting T) (m_cons (m_var 0) m_nil)))))
      m_never
      m_next)
      (m_seq (m_set (m_mv 0) (g_tup 3 (g_cons (g_nm 1) (g_cons (g_nm 2) (g_cons (g_nm 3) g_nil)))))
      (m_seq (m_set (m_call 2 (m_rests_told T) (m_cons (m_var 1) (m_cons (m_var 2) m_nil))) (g_nm 4))
      (m_seq (m_if (m1 kbool (m2 notN (m_var 3) (m_c .non)))
      (m_drop (m_append 4 (mA tupA (m_cons (m_on isTup idxT (m_fr (m_call 2 (m_listed_behind T) (m_cons (m_var 1) (m_cons (m2 ixT (m_var 2) (m1 negI (m_c (.int 1)))) m_nil)))) (m_var 3)) (m_cons (m1 lenG (m_var 1)) m_nil)))))
      m_next)
      (m_ret (m_lc (mA kzipM (m_cons (m_var 2) (m_cons (m_var 4) m_nil))) (g_tup 2 (g_cons (g_nm 5) (g_cons (g_nm 6) g_nil))) (if_says2 T) (el_says1 T) [5, 6]))))))
def m_says (T : Tx K mg) : List X → Option Rf := bodyF 7 [] (mb_says T)
theorem ok_says (T : Tx K mg) : FG P w K mg base 4 T.a_says T.fd_says P_says (spF K Lk0 1 [] (m_says T)) :=
  fun_okF T.F_says sc_says (by decide) fun cdv A outer s H E hr hc => by
    exact ⟨_, (pss_cons (ps_if (pt_not (pt_val (pf_call (W := WD E) (ok_is_sighting T) (hr.mono (by decide)) hc (by rfl) T.g_is_sighting T.F_is_sighting.kp T.b_is_sighting (takes_of rfl rfl rfl rfl) (pa_cons (pv 0) pa_nil))))
       (pss_one ps_never)
       pss_nil)
      (pss_cons (ps_asg (pv 0) (pg_tup (by rfl) (pgs_cons (pg_name (i := 1) sc_says.nd rfl (.inl rfl)) (pgs_cons (pg_name (i := 2) sc_says.nd rfl (.inl rfl)) (pgs_cons (pg_name (i := 3) sc_says.nd rfl (.inl rfl)) pgs_nil)))))
      (pss_cons (ps_set (i := 4) sc_says.nd rfl (.inl rfl) (pf_call (W := WD E) (ok_rests_told T) (hr.mono (by decide)) hc (by rfl) T.g_rests_told T.F_rests_told.kp T.b_rests_told (takes_of rfl rfl rfl rfl) (pa_cons (pv 1) (pa_cons (pv 2) pa_nil))))
      (pss_cons (ps_if (pt_cmpR op_notN (pv 3) pe_non (nomark _))
       (pss_one (ps_expr (pe_bm PySem.F.plainAttrs_list PySem.F.slot_list_append PySem.F.type_list_append mt_append (pv 4) (pa_cons (pe_tupF (pa_cons (pe_bmF PySem.F.slot_tuple_index PySem.F.type_tuple_index mt_tup_index (pf_call (W := WD E) (ok_listed_behind T) (hr.mono (by decide)) hc (by rfl) T.g_listed_behind T.F_listed_behind.kp T.b_listed_behind (takes_of rfl rfl rfl rfl) (pa_cons (pv 1) (pa_cons (pe_ix ix_tup (pv 2) (pe_un un_neg pe_int) (fun _ _ => rfl)) pa_nil))) (pa_cons (pv 3) pa_nil)) (pa_cons (pe_callB call_len_seq (by rfl) T.m_len (by decide +kernel) (pa_cons (pv 1) pa_nil)) pa_nil))) pa_nil))))
       pss_nil)
      (pss_one (ps_ret (pe_lc (own := [("name", 5), ("rest", 6)]) (g := gTup K 2 (gCons (gName 5) (gCons (gName 6) gNil)))  rfl sc_says.nd (GZM.pi_zipM (by rfl) T.m_zip (pa_cons (pv 2) (pa_cons (pv 4) pa_nil))) (blkOk_by (N := N_says) (sc := defScope s_says) (by decide +kernel)) (fun _ _ _ _ _ => pg_tup (by rfl) (pgs_cons (pg_name (i := 5) sc_says.nd rfl (Or.inl rfl)) (pgs_cons (pg_name (i := 6) sc_says.nd rfl (Or.inl rfl)) pgs_nil))) (fun _ _ _ _ _ => pts_one (pt_cmpR (op_neD hr.units) (pe_ix (show IxR _ (rIxT K) from ix_tup) (pv 6) pe_int (fun _ _ => rfl)) pe_int (nomark _))) (fun _ _ _ _ _ => (pe_tupF (pa_cons (pv 5) (pa_cons (pv 6) pa_nil))))))))))),
      (seq_S (if_S (not_T (val_T (fr_X (call_X (fun _ _ => trivial) (cons_A (var_D (i := 0)) nil_A))))) never_S next_S)
      (seq_S (set_S (mv_X (i := 0)) (tup_G (cons_Gs (nm_G (i := 1)) (cons_Gs (nm_G (i := 2)) (cons_Gs (nm_G (i := 3)) nil_Gs)))) (by decide))
      (seq_S (set_S (call_X (fun _ _ => trivial) (cons_A (var_D (i := 1)) (cons_A (var_D (i := 2)) nil_A))) (nm_G (i := 4)) (by decide))
      (seq_S (if_S (test_T (op2_G o_notN (var_D (i := 3)) (c_D Fz.non))) (drop_S (append_X (i := 4) (a_tup (cons_A (idxT_D (fr_X (call_X (fun _ _ => trivial) (cons_A (var_D (i := 1)) (cons_A (op2_G o_ixT (var_D (i := 2)) (un_D o_neg (c_D (Fz.int _)))) nil_A)))) (var_D (i := 3))) (cons_A (op1_of_lk lk_len lenG_flat (var_D (i := 1))) nil_A))))) next_S)
      (ret_S (lc_X (zipM_I (cons_A (var_D (i := 2)) (cons_A (var_D (i := 4)) nil_A))) (tup_G (cons_Gs (nm_G (i := 5)) (cons_Gs (nm_G (i := 6)) nil_Gs))) (test_T (op2_G o_neD (op2_G o_ixT (var_D (i := 6)) (c_D (Fz.int _))) (c_D (Fz.int _)))) (a_tup (cons_A (var_D (i := 5)) (cons_A (var_D (i := 6)) nil_A))) (by decide)))))))⟩
def mb_Ring_counted_on (T : Tx K mg) : SM := (m_ret (m_up (m2 ixL (m_var 2) (m2 modI (m2 getG (m1 (fldG T.a_Ring "_slips") (m_var 0)) (m_var 1)) (m1 lenG (m_var 2))))))
def m_Ring_counted_on (T : Tx K mg) : List X → Option Rf := bodyF 3 [] (mb_Ring_counted_on T)
theorem ok_Ring_counted_on (T : Tx K mg) : FG P w K mg base 1 T.a_Ring_counted_on T.fd_Ring_counted_on P_Ring_counted_on (spF K Lk0 3 [] (m_Ring_counted_on T)) :=
  fun_okF T.F_Ring_counted_on sc_Ring_counted_on (by decide) fun cdv A outer s H E hr hc => by
    have hu := hu_of hr
    exact ⟨_, (pss_one (ps_ret (pe_ix ix_list (pv 2) (pe_op op_mod (pe_dget hu (pe_fld (pv 0) rfl) (pv 1) (fun _ _ => rfl)) (pe_callB call_len_seq (by rfl) T.m_len (by decide +kernel) (pa_cons (pv 2) pa_nil))) (fun _ _ => rfl)))),
      (ret_S (up_D (op2_G o_ixL (var_D (i := 2)) (op2_G o_mod (dget_D (fld_D T.cl_Ring T.n_Ring__slips (var_D (i := 0))) (var_D (i := 1))) (op1_of_lk lk_len lenG_flat (var_D (i := 2)))))))⟩
def if_Ring_order1 (T : Tx K mg) : OM Bool := (m1 kbool (m2 ltI (m_l1 lenG 2) (m1 lenG (m1 (fldG T.a_Ring "_names") (m_var 0)))))
def lp_Ring_order2 (T : Tx K mg) : SM := (m_drop (m_append 2 (m_fr (m_meth T.a_Ring "_counted_on" 3 (m_Ring_counted_on T) (m_var 0) (m_cons (ifAny 2 (m_ixV 2 (m1 negI (m_c (.int 1))))) (m_cons (m_fr (m_callB 2 (m_who_sit T) 2 (m1 (fldG T.a_Ring "_names") (m_var 0)))) m_nil))))))
def mb_Ring_order (T : Tx K mg) : SM := (m_seq (m_drop (m_call 2 (m_check_name T) (m_cons (m1 (fldG T.a_Ring "_names") (m_var 0)) (m_cons (m_var 1) m_nil))))
      (m_seq (m_set (mA lstA (m_cons (m_var 1) m_nil)) (g_nm 2))
      (m_seq (m_while 100000 (if_Ring_order1 T) (lp_Ring_order2 T))
      (m_ret (m_up (m1 tupG (m_var 2)))))))
def m_Ring_order (T : Tx K mg) : List X → Option Rf := bodyF 3 [] (mb_Ring_order T)
theorem ok_Ring_order (T : Tx K mg) : FG P w K mg base 3 T.a_Ring_order T.fd_Ring_order P_Ring_order (spF K Lk0 2 [] (m_Ring_order T)) :=
  fun_okF T.F_Ring_order sc_Ring_order (by decide) fun cdv A outer s H E hr hc => by
    exact ⟨_, (pss_cons (ps_expr (pf_call (W := WD E) (ok_check_name T) (hr.mono (by decide)) hc (by rfl) T.g_check_name T.F_check_name.kp T.b_check_name (takes_of rfl rfl rfl rfl) (pa_cons (pe_fld (pv 0) rfl) (pa_cons (pv 1) pa_nil))))
      (pss_cons (ps_set (i := 2) sc_Ring_order.nd rfl (.inl rfl) (pe_lst (pa_cons (pv 1) pa_nil)))
      (pss_cons (ps_while (passes_of rfl) (pt_cmpR op_lt (pe_callB call_len_seq (by rfl) T.m_len (by decide +kernel) (pa_cons (pv 2) pa_nil)) (pe_callB call_len_seq (by rfl) T.m_len (by decide +kernel) (pa_cons (pe_fld (pv 0) rfl) pa_nil)) (nomark _))
       (pss_one (ps_expr (pe_bm PySem.F.plainAttrs_list PySem.F.slot_list_append PySem.F.type_list_append mt_append (pv 2) (pa_cons (pf_meth (W := WD E) (pv 0) T.cl_Ring T.mt_Ring_counted_on (ok_Ring_counted_on T) (hr.mono (by decide)) hc T.b_Ring_counted_on (takes_of rfl rfl rfl rfl) (pa_cons (pe_ix ix_list (pv 2) (pe_un un_neg pe_int) (fun _ _ => rfl)) (pa_cons (pf_call (W := WD E) (ok_who_sit T) (hr.mono (by decide)) hc (by rfl) T.g_who_sit T.F_who_sit.kp T.b_who_sit (takes_of rfl rfl rfl rfl) (pa_cons (pe_fld (pv 0) rfl) (pa_cons (pv 2) pa_nil))) pa_nil))) pa_nil)))))
      (pss_one (ps_ret (pe_callTy call_tupleF (by rfl) T.m_tuple (by decide +kernel) (pa_cons (pv 2) pa_nil))))))),
      (seq_S (drop_S (call_X (fun _ _ => trivial) (cons_A (fld_D T.cl_Ring T.n_Ring__names (var_D (i := 0))) (cons_A (var_D (i := 1)) nil_A))))
      (seq_S (set_S (a_lst (cons_A (var_D (i := 1)) nil_A)) (nm_G (i := 2)) (by decide))
      (seq_S (while_S (n := 100000) (test_T (op2_G o_lt (l1_D lk_len lenG_flat (i := 2)) (op1_of_lk lk_len lenG_flat (fld_D T.cl_Ring T.n_Ring__names (var_D (i := 0)))))) (drop_S (append_X (i := 2) (fr_X (meth_X (fun _ _ => trivial) (var_D (i := 0)) (cons_A (ixV_D (un_D o_neg (c_D (Fz.int _)))) (cons_A (fr_X (callB_X (i := 2) (fun _ _ => trivial) (fld_D T.cl_Ring T.n_Ring__names (var_D (i := 0))))) nil_A)))))))
      (ret_S (up_D (tuple_D (var_D (i := 2))))))))⟩
def mb_Ring_names (T : Tx K mg) : SM := (m_ret (m1 listG (m1 (fldG T.a_Ring "_names") (m_var 0))))
def m_Ring_names (T : Tx K mg) : List X → Option Rf := bodyF 1 [] (mb_Ring_names T)
theorem ok_Ring_names (T : Tx K mg) : FG P w K mg base 1 T.a_Ring_names T.fd_Ring_names P_Ring_names (spF K Lk0 1 [] (m_Ring_names T)) :=
  fun_okF T.F_Ring_names sc_Ring_names (by decide) fun cdv A outer s H E hr hc => by
    exact ⟨_, (pss_one (ps_ret (pe_callTy call_list_of (by rfl) T.m_list (by decide +kernel) (pa_cons (pe_fld (pv 0) rfl) pa_nil)))),
      (ret_S (list_X (fld_D T.cl_Ring T.n_Ring__names (var_D (i := 0)))))⟩
def mb_Ring_next_of (T : Tx K mg) : SM := (m_seq (m_set (m_up (m2 ixT (m_fr (m_meth T.a_Ring "order" 2 (m_Ring_order T) (m_var 0) (m_cons (m_var 1) m_nil))) (m1 negI (m_c (.int 1))))) (g_nm 2))
      (m_ret (m_meth T.a_Ring "_counted_on" 3 (m_Ring_counted_on T) (m_var 0) (m_cons (m_var 2) (m_cons (m_fr (m_call 2 (m_listed_behind T) (m_cons (m1 (fldG T.a_Ring "_names") (m_var 0)) (m_cons (m_var 2) m_nil)))) m_nil)))))
def m_Ring_next_of (T : Tx K mg) : List X → Option Rf := bodyF 3 [] (mb_Ring_next_of T)
theorem ok_Ring_next_of (T : Tx K mg) : FG P w K mg base 4 T.a_Ring_next_of T.fd_Ring_next_of P_Ring_next_of (spF K Lk0 2 [] (m_Ring_next_of T)) :=
  fun_okF T.F_Ring_next_of sc_Ring_next_of (by decide) fun cdv A outer s H E hr hc => by
    exact ⟨_, (pss_cons (ps_set (i := 2) sc_Ring_next_of.nd rfl (.inl rfl) (pe_ix ix_tup (pf_meth (W := WD E) (pv 0) T.cl_Ring T.mt_Ring_order (ok_Ring_order T) (hr.mono (by decide)) hc T.b_Ring_order (takes_of rfl rfl rfl rfl) (pa_cons (pv 1) pa_nil)) (pe_un un_neg pe_int) (fun _ _ => rfl)))
      (pss_one (ps_ret (pf_meth (W := WD E) (pv 0) T.cl_Ring T.mt_Ring_counted_on (ok_Ring_counted_on T) (hr.mono (by decide)) hc T.b_Ring_counted_on (takes_of rfl rfl rfl rfl) (pa_cons (pv 2) (pa_cons (pf_call (W := WD E) (ok_listed_behind T) (hr.mono (by decide)) hc (by rfl) T.g_listed_behind T.F_listed_behind.kp T.b_listed_behind (takes_of rfl rfl rfl rfl) (pa_cons (pe_fld (pv 0) rfl) (pa_cons (pv 2) pa_nil))) pa_nil)))))),
      (seq_S (set_S (up_D (op2_G o_ixT (fr_X (meth_X (fun _ _ => trivial) (var_D (i := 0)) (cons_A (var_D (i := 1)) nil_A))) (un_D o_neg (c_D (Fz.int _))))) (nm_G (i := 2)) (by decide))
      (ret_S (meth_X (fun _ _ => trivial) (var_D (i := 0)) (cons_A (var_D (i := 2)) (cons_A (fr_X (call_X (fun _ _ => trivial) (cons_A (fld_D T.cl_Ring T.n_Ring__names (var_D (i := 0))) (cons_A (var_D (i := 2)) nil_A)))) nil_A)))))⟩
def mb_sighting_of (T : Tx K mg) : SM := (m_seq (m_set (m_up (m1 tupG (m_fr (m_meth T.a_Ring "names" 1 (m_Ring_names T) (m_var 0) m_nil)))) (g_nm 4))
      (m_seq (m_drop (m_call 2 (m_check_name T) (m_cons (m_var 4) (m_cons (m_var 1) m_nil))))
      (m_seq (m_drop (m_call 3 (m_check_between T) (m_cons (m_var 2) (m_cons (m_c (.int 0)) (m_cons (m1 lenG (m_var 4)) m_nil)))))
      (m_seq (m_set (m_up (m2 (inF false) (m_var 2) (mA tupA (m_cons (m_c (.int 0)) (m_cons (m1 lenG (m_var 4)) m_nil))))) (g_nm 5))
      (m_seq (m_set (m_meth T.a_Ring "order" 2 (m_Ring_order T) (m_var 0) (m_cons (m_var 1) m_nil)) (g_nm 6))
      (m_seq (m_if (m_ite (m1 kbool (m_var 5)) (m1 kbool (m2 (isB false) (m_var 3) (m_c (.bl true)))) (m_k false))
      (m_ret (m_up (mA tupA (m_cons (m_var 4) (m_cons (m_var 6) (m_cons (m_fr (m_meth T.a_Ring "next_of" 2 (m_Ring_next_of T) (m_var 0) (m_cons (m_var 1) m_nil))) m_nil))))))
      m_next)
      (m_seq (m_if (m1 kbool (m_var 5))
      (m_ret (m_up (mA tupA (m_cons (m_var 4) (m_cons (m_var 6) (m_cons (m_c .non) m_nil))))))
      m_next)
      (m_ret (m_up (mA tupA (m_cons (m_var 4) (m_cons (m_sl slT (m_var 6) m_noPart (m1 kpart (m_var 2))) (m_cons (m_c .non) m_nil)))))))))))))
def m_sighting_of (T : Tx K mg) : List X → Option Rf := bodyF 7 [] (mb_sighting_of T)
theorem ok_sighting_of (T : Tx K mg) : FG P w K mg base 5 T.a_sighting_of T.fd_sighting_of P_sighting_of (spF K Lk0 4 [] (m_sighting_of T)) :=
  fun_okF T.F_sighting_of sc_sighting_of (by decide) fun cdv A outer s H E hr hc => by
    exact ⟨_, (pss_cons (ps_set (i := 4) sc_sighting_of.nd rfl (.inl rfl) (pe_callTy call_tupleF (by rfl) T.m_tuple (by decide +kernel) (pa_cons (pf_meth0 (W := WD E) (pv 0) T.cl_Ring T.mt_Ring_names (ok_Ring_names T) (hr.mono (by decide)) hc T.b_Ring_names (takes_of rfl rfl rfl rfl)) pa_nil)))
      (pss_cons (ps_expr (pf_call (W := WD E) (ok_check_name T) (hr.mono (by decide)) hc (by rfl) T.g_check_name T.F_check_name.kp T.b_check_name (takes_of rfl rfl rfl rfl) (pa_cons (pv 4) (pa_cons (pv 1) pa_nil))))
      (pss_cons (ps_expr (pf_call (W := WD E) (ok_check_between T) (hr.mono (by decide)) hc (by rfl) T.g_check_between T.F_check_between.kp T.b_check_between (takes_of rfl rfl rfl rfl) (pa_cons (pv 2) (pa_cons pe_int (pa_cons (pe_callB call_len_seq (by rfl) T.m_len (by decide +kernel) (pa_cons (pv 4) pa_nil)) pa_nil)))))
      (pss_cons (ps_set (i := 5) sc_sighting_of.nd rfl (.inl rfl) (pe_cmpR op_in_seq (pv 2) (pe_tupF (pa_cons (pe_glob (v := .int 0) rfl T.g_ALL ⟨_, rfl⟩) (pa_cons (pe_callB call_len_seq (by rfl) T.m_len (by decide +kernel) (pa_cons (pv 4) pa_nil)) pa_nil))) (by rfl)))
      (pss_cons (ps_set (i := 6) sc_sighting_of.nd rfl (.inl rfl) (pf_meth (W := WD E) (pv 0) T.cl_Ring T.mt_Ring_order (ok_Ring_order T) (hr.mono (by decide)) hc T.b_Ring_order (takes_of rfl rfl rfl rfl) (pa_cons (pv 1) pa_nil)))
      (pss_cons (ps_if (PW.pt (pw_and (pt_val (pv 5)) (pw_and1 (pt_cmpR op_isBl (pv 3) pe_bl (nomark _)))))
       (pss_one (ps_ret (pe_tupF (pa_cons (pv 4) (pa_cons (pv 6) (pa_cons (pf_meth (W := WD E) (pv 0) T.cl_Ring T.mt_Ring_next_of (ok_Ring_next_of T) (hr.mono (by decide)) hc T.b_Ring_next_of (takes_of rfl rfl rfl rfl) (pa_cons (pv 1) pa_nil)) pa_nil))))))
       pss_nil)
      (pss_cons (ps_if (pt_val (pv 5))
       (pss_one (ps_ret (pe_tupF (pa_cons (pv 4) (pa_cons (pv 6) (pa_cons pe_non pa_nil))))))
       pss_nil)
      (pss_one (ps_ret (pe_tupF (pa_cons (pv 4) (pa_cons (pe_slice sl_tupF (pv 6) po_none (po_some (pv 2))) (pa_cons pe_non pa_nil))))))))))))),
      (seq_S (set_S (up_D (tuple_D (fr_X (meth_X (fun _ _ => trivial) (var_D (i := 0)) nil_A)))) (nm_G (i := 4)) (by decide))
      (seq_S (drop_S (call_X (fun _ _ => trivial) (cons_A (var_D (i := 4)) (cons_A (var_D (i := 1)) nil_A))))
      (seq_S (drop_S (call_X (fun _ _ => trivial) (cons_A (var_D (i := 2)) (cons_A (c_D (Fz.int _)) (cons_A (op1_of_lk lk_len lenG_flat (var_D (i := 4))) nil_A)))))
      (seq_S (set_S (up_D (op2_G (o_in false) (var_D (i := 2)) (a_tup (cons_A (c_D (Fz.int _)) (cons_A (op1_of_lk lk_len lenG_flat (var_D (i := 4))) nil_A))))) (nm_G (i := 5)) (by decide))
      (seq_S (set_S (meth_X (fun _ _ => trivial) (var_D (i := 0)) (cons_A (var_D (i := 1)) nil_A)) (nm_G (i := 6)) (by decide))
      (seq_S (if_S (and_T (val_T (var_D (i := 5))) (test_T (op2_G o_isB (var_D (i := 3)) (c_D (Fz.bl _))))) (ret_S (up_D (a_tup (cons_A (var_D (i := 4)) (cons_A (var_D (i := 6)) (cons_A (fr_X (meth_X (fun _ _ => trivial) (var_D (i := 0)) (cons_A (var_D (i := 1)) nil_A))) nil_A)))))) next_S)
      (seq_S (if_S (val_T (var_D (i := 5))) (ret_S (up_D (a_tup (cons_A (var_D (i := 4)) (cons_A (var_D (i := 6)) (cons_A (c_D Fz.non) nil_A)))))) next_S)
      (ret_S (up_D (a_tup (cons_A (var_D (i := 4)) (cons_A (sl_G o_slT (var_D (i := 6)) none_O (some_O (var_D (i := 2)))) (cons_A (c_D Fz.non) nil_A)))))))))))))⟩
def el_needs1 (T : Tx K mg) : OM D := (m_var 3)
def el_needs2 (T : Tx K mg) : OM D := (m_c (.int 1))
def lp_needs3 (T : Tx K mg) : SM := (m_put 1 (m_var 3) (mA (arg2 lcm2) (m_cons (ifAny 1 (m_getV 1 (m_var 3))) (m_cons (m2 ixT (m_var 4) (m_c (.int 1))) m_nil))))
def lp_needs4 (T : Tx K mg) : SM := (m_for (m1 klist (m_fr (m_call 1 (m_says T) (m_cons (m_fr (m_callN 4 (m_sighting_of T) (appK (.int 0)) 2 1 (m_cons (m_var 0) (m_cons (m_var 2) m_nil)) (m_cons (m_c (.bl true)) m_nil))) m_nil)))) (g_tup 2 (g_cons (g_nm 3) (g_cons (g_nm 4) g_nil))) (lp_needs3 T))
def mb_needs (T : Tx K mg) : SM := (m_seq (m_set (m_dc (m1 klist (m_fr (m_meth T.a_Ring "names" 1 (m_Ring_names T) (m_var 0) m_nil))) (g_nm 3) (m_k true) (el_needs1 T) (el_needs2 T) [3]) (g_nm 1))
      (m_seq (m_for (m1 klist (m_fr (m_meth T.a_Ring "names" 1 (m_Ring_names T) (m_var 0) m_nil))) (g_nm 2) (lp_needs4 T))
      (m_ret (m_mv 1))))
def m_needs (T : Tx K mg) : List X → Option Rf := bodyF 5 [] (mb_needs T)
theorem ok_needs (T : Tx K mg) : FG P w K mg base 6 T.a_needs T.fd_needs P_needs (spF K Lk0 1 [] (m_needs T)) :=
  fun_okF T.F_needs sc_needs (by decide) fun cdv A outer s H E hr hc => by
    have hu := hu_of hr
    obtain ⟨_, kd_sighting_of⟩ := T.kd_sighting_of
    exact ⟨_, (pss_cons (ps_setDc (i := 1) (own := [("name", 3)]) (g := gName 3) (tt := tYes) rfl sc_needs.nd rfl rfl (swd_true rfl rfl rfl (by decide +kernel)) (pi_list (pf_meth0 (W := WD E) (pv 0) T.cl_Ring T.mt_Ring_names (ok_Ring_names T) (hr.mono (by decide)) hc T.b_Ring_names (takes_of rfl rfl rfl rfl))) (blkOk_by (N := N_needs) (sc := defScope s_needs) (by decide +kernel)) (fun _ _ _ _ _ => pg_name (i := 3) sc_needs.nd rfl (Or.inl rfl)) (fun _ _ _ _ _ => pts_nil) (fun _ _ _ _ _ => (pv 3)) (fun _ _ _ _ _ => pe_int))
      (pss_cons (ps_for (passes_of rfl) rfl (pi_list (pf_meth0 (W := WD E) (pv 0) T.cl_Ring T.mt_Ring_names (ok_Ring_names T) (hr.mono (by decide)) hc T.b_Ring_names (takes_of rfl rfl rfl rfl))) (pg_name (i := 2) sc_needs.nd rfl (.inl rfl))
       (pss_one (ps_for (passes_of rfl) rfl (pi_list (pf_call (W := WD E) (ok_says T) (hr.mono (by decide)) hc (by rfl) T.g_says T.F_says.kp T.b_says (takes_of rfl rfl rfl rfl) (pa_cons (pf_callN (W := WD E) (ok_sighting_of T) (hr.mono (by decide)) hc (by rfl) T.g_sighting_of T.F_sighting_of.kp kd_sighting_of (takes_of rfl rfl rfl rfl) (pa_cons (pv 0) (pa_cons (pv 2) pa_nil)) (pk_cons pe_bl pk_nil)) pa_nil))) (pg_tup (by rfl) (pgs_cons (pg_name (i := 3) sc_needs.nd rfl (.inl rfl)) (pgs_cons (pg_name (i := 4) sc_needs.nd rfl (.inl rfl)) pgs_nil)))
         (pss_one (ps_dput hu (pv 1) (pv 3) (pe_callBfun GL.cr_lcm rfl T.i_lcm (pa_cons (pe_dget hu (pv 1) (pv 3) (fun _ _ => rfl)) (pa_cons (pe_ix ix_tup (pv 4) pe_int (fun _ _ => rfl)) pa_nil))) rfl)))))
      (pss_one (ps_ret (pv 1))))),
      (seq_S (set_S (dc_X (list_I (fr_X (meth_X (fun _ _ => trivial) (var_D (i := 0)) nil_A))) (nm_G (i := 3)) yes_T (var_D (i := 3)) (c_D (Fz.int _)) (by decide)) (nm_G (i := 1)) (by decide))
      (seq_S (for_S (list_I (fr_X (meth_X (fun _ _ => trivial) (var_D (i := 0)) nil_A))) (nm_G (i := 2)) (for_S (list_I (fr_X (call_X (fun _ _ => trivial) (cons_A (fr_X (callKd_X (fun _ => .int _) (fun _ _ => trivial) (cons_A (var_D (i := 0)) (cons_A (var_D (i := 2)) nil_A)) (cons_A (c_D (Fz.bl _)) nil_A))) nil_A)))) (tup_G (cons_Gs (nm_G (i := 3)) (cons_Gs (nm_G (i := 4)) nil_Gs))) (put_S (i := 1) (var_D (i := 3)) (lcm_D (cons_A (dgetV_D (var_D (i := 3))) (cons_A (op2_G o_ixT (var_D (i := 4)) (c_D (Fz.int _))) nil_A)))) (by decide)) (by decide))
      (ret_S (mv_X (i := 1)))))⟩
def mb_Ring_slips (T : Tx K mg) : SM := (m_ret (m1 dictDG (m1 (fldG T.a_Ring "_slips") (m_var 0))))
def m_Ring_slips (T : Tx K mg) : List X → Option Rf := bodyF 1 [] (mb_Ring_slips T)
theorem ok_Ring_slips (T : Tx K mg) : FG P w K mg base 1 T.a_Ring_slips T.fd_Ring_slips P_Ring_slips (spF K Lk0 1 [] (m_Ring_slips T)) :=
  fun_okF T.F_Ring_slips sc_Ring_slips (by decide) fun cdv A outer s H E hr hc => by
    exact ⟨_, (pss_one (ps_ret (pe_callTy call_dictD (by rfl) T.m_dict (by decide +kernel) (pa_cons (pe_fld (pv 0) rfl) pa_nil)))),
      (ret_S (dictD_X (fld_D T.cl_Ring T.n_Ring__slips (var_D (i := 0)))))⟩
def el_Ring_init1 (T : Tx K mg) : OM D := (m_var 3)
def el_Ring_init2 (T : Tx K mg) : OM D := (m2 getG (m_var 2) (m_var 3))
def mb_Ring_init (T : Tx K mg) : SM := (m_seq (m_drop (m_call 1 (m_check_names T) (m_cons (m_var 1) m_nil)))
      (m_seq (m_if (m_not (m1 kbool (m_fr (m_call 2 (m_is_slips T) (m_cons (m_var 1) (m_cons (m_var 2) m_nil))))))
      m_never
      m_next)
      (m_seq (m_setF 0 "_names" T.a_Ring (m1 listG (m_var 1)))
      (m_setF 0 "_slips" T.a_Ring (m_dc (m1 klist (m_var 1)) (g_nm 3) (m_k true) (el_Ring_init1 T) (el_Ring_init2 T) [3])))))
def m_Ring_init (T : Tx K mg) : List X → Option Rf := bodyF 4 [0] (mb_Ring_init T)
theorem ok_Ring_init (T : Tx K mg) : FG P w K mg base 4 T.a_Ring_init T.fd_Ring_init P_Ring_init (spF K Lk0 3 [0] (m_Ring_init T)) :=
  fun_okF T.F_Ring_init sc_Ring_init (by decide) fun cdv A outer s H E hr hc => by
    have hu := hu_of hr
    exact ⟨_, (pss_cons (ps_expr (pf_call (W := WD E) (ok_check_names T) (hr.mono (by decide)) hc (by rfl) T.g_check_names T.F_check_names.kp T.b_check_names (takes_of rfl rfl rfl rfl) (pa_cons (pv 1) pa_nil)))
      (pss_cons (ps_if (pt_not (pt_val (pf_call (W := WD E) (ok_is_slips T) (hr.mono (by decide)) hc (by rfl) T.g_is_slips T.F_is_slips.kp T.b_is_slips (takes_of rfl rfl rfl rfl) (pa_cons (pv 1) (pa_cons (pv 2) pa_nil)))))
       (pss_one ps_never)
       pss_nil)
      (pss_cons (ps_fld (pv 0) (pe_callTy call_list_of (by rfl) T.m_list (by decide +kernel) (pa_cons (pv 1) pa_nil)) rfl)
      (pss_one (ps_fld (pv 0) (pe_dc (own := [("name", 3)]) (g := gName 3) (tt := tYes) rfl sc_Ring_init.nd (pi_list (pv 1)) (blkOk_by (N := N_Ring_init) (sc := defScope s_Ring_init) (by decide +kernel)) (fun _ _ _ _ _ => pg_name (i := 3) sc_Ring_init.nd rfl (Or.inl rfl)) (fun _ _ _ _ _ => pts_nil) (fun _ _ _ _ _ => (pv 3)) (fun _ _ _ _ _ => (pe_dget hu (pv 2) (pv 3) (fun _ _ => rfl)))) rfl))))),
      (seq_S (drop_S (call_X (fun _ _ => trivial) (cons_A (var_D (i := 1)) nil_A)))
      (seq_S (if_S (not_T (val_T (fr_X (call_X (fun _ _ => trivial) (cons_A (var_D (i := 1)) (cons_A (var_D (i := 2)) nil_A)))))) never_S next_S)
      (seq_S (setF_S T.cl_Ring T.n_Ring__names (list_X (var_D (i := 1))))
      (setF_S T.cl_Ring T.n_Ring__slips (dc_X (list_I (var_D (i := 1))) (nm_G (i := 3)) yes_T (var_D (i := 3)) (dget_D (var_D (i := 2)) (var_D (i := 3))) (by decide))))))⟩
def el_least_of1 (T : Tx K mg) : OM D := (m_var 2)
def el_least_of2 (T : Tx K mg) : OM D := (m2 modI (m2 getG (m_var 1) (m_var 2)) (m_var 3))
def mb_least_of (T : Tx K mg) : SM := (m_seq (m_set (m_meth T.a_Ring "slips" 1 (m_Ring_slips T) (m_var 0) m_nil) (g_nm 1))
      (m_ret (m_make T.a_Ring 3 (m_Ring_init T) (m_cons (m_fr (m_meth T.a_Ring "names" 1 (m_Ring_names T) (m_var 0) m_nil)) (m_cons (m_fr (m_dc (m_items (m_call 1 (m_needs T) (m_cons (m_var 0) m_nil))) (g_tup 2 (g_cons (g_nm 2) (g_cons (g_nm 3) g_nil))) (m_k true) (el_least_of1 T) (el_least_of2 T) [2, 3])) m_nil)))))
def m_least_of (T : Tx K mg) : List X → Option Rf := bodyF 4 [] (mb_least_of T)
theorem ok_least_of (T : Tx K mg) : FG P w K mg base 7 T.a_least_of T.fd_least_of P_least_of (spF K Lk0 1 [] (m_least_of T)) :=
  fun_okF T.F_least_of sc_least_of (by decide) fun cdv A outer s H E hr hc => by
    have hu := hu_of hr
    exact ⟨_, (pss_cons (ps_set (i := 1) sc_least_of.nd rfl (.inr rfl) (pf_meth0 (W := WD E) (pv 0) T.cl_Ring T.mt_Ring_slips (ok_Ring_slips T) (hr.mono (by decide)) hc T.b_Ring_slips (takes_of rfl rfl rfl rfl)))
      (pss_one (ps_ret (pf_make (W := WD E) T.M_Ring (ok_Ring_init T) (hr.mono (by decide)) hc rfl T.g_Ring T.b_Ring_init (takes_of rfl rfl rfl rfl) (pa_cons (pf_meth0 (W := WD E) (pv 0) T.cl_Ring T.mt_Ring_names (ok_Ring_names T) (hr.mono (by decide)) hc T.b_Ring_names (takes_of rfl rfl rfl rfl)) (pa_cons (pe_dc (own := [("name", 2), ("modulus", 3)]) (g := gTup K 2 (gCons (gName 2) (gCons (gName 3) gNil))) (tt := tYes) rfl sc_least_of.nd (pi_items (GL.pe_lk (pf_call (W := WD E) (ok_needs T) (hr.mono (by decide)) hc (by rfl) T.g_needs T.F_needs.kp T.b_needs (takes_of rfl rfl rfl rfl) (pa_cons (pv 0) pa_nil)))) (blkOk_by (N := N_least_of) (sc := defScope s_least_of) (by decide +kernel)) (fun _ _ _ _ _ => pg_tup (by rfl) (pgs_cons (pg_name (i := 2) sc_least_of.nd rfl (Or.inl rfl)) (pgs_cons (pg_name (i := 3) sc_least_of.nd rfl (Or.inl rfl)) pgs_nil))) (fun _ _ _ _ _ => pts_nil) (fun _ _ _ _ _ => (pv 2)) (fun _ _ _ _ _ => (pe_op op_mod (pe_dget hu (pv 1) (pv 2) (fun _ _ => rfl)) (pv 3)))) pa_nil)))))),
      (seq_S (set_S (meth_X (fun _ _ => trivial) (var_D (i := 0)) nil_A) (nm_G (i := 1)) (by decide))
      (ret_S (make_X (fun _ _ => trivial) (cons_A (fr_X (meth_X (fun _ _ => trivial) (var_D (i := 0)) nil_A)) (cons_A (fr_X (dc_X (items_I (call_X (fun _ _ => trivial) (cons_A (var_D (i := 0)) nil_A))) (tup_G (cons_Gs (nm_G (i := 2)) (cons_Gs (nm_G (i := 3)) nil_Gs))) yes_T (var_D (i := 2)) (op2_G o_mod (dget_D (var_D (i := 1)) (var_D (i := 2))) (var_D (i := 3))) (by decide))) nil_A)))))⟩
def absOr (ns : List Int) : List Int := if ns = [] then [7] else ns.map fun n => if n < 0 then -n else n
def beginF : List X → Option Rf
  | [.fz (.scr ns)] => if ns.length ≤ 63 then some (.ok (.st (absOr ns) 0 1) []) else none
  | _ => none
def m_l_begin (T : Tx K mg) : List X → Option Rf := beginF
theorem ok_l_begin (T : Tx K mg) : FG P w K mg base 1 T.a_l_begin T.fd_l_begin P_l_begin (spF K Lk0 1 [] (m_l_begin T)) := by
  refine fg_fun T.F_l_begin sc_l_begin (fun vs H Q E h => h.1) (fun cdv A outer s H vs Q E hr hc h => ?_)
  obtain ⟨hvl, L, R, F, xs, fp, r, hL, hx, hh, hr2, hP⟩ := h
  unfold m_l_begin beginF at hr2
  split at hr2
  · split at hr2
    · rename_i ns hl
      obtain rfl := Option.some.inj hr2
      cases hx with
      | cons h1 t1 =>
        cases t1
        cases h1 with
        | fz h1 =>
          cases h1 with
          | @scr a _ hs =>
            have ha : SqL K H a (ns.map V.int) := hh.f.rx.sqL hs
            refine ⟨_, (pss_one (ps_ret (pe_lst (pa_cons (pe_orT (pe_lc (own := [("_law_cell", 1)]) (g := gName 1) (tt := tYes) rfl sc_l_begin.nd (pi_list (pe_slice sl_list (pv 0) po_none (po_some pe_int))) (blkOk_by (N := N_l_begin) (sc := defScope s_l_begin) (by decide +kernel)) (fun _ _ _ _ _ => pg_name (i := 1) sc_l_begin.nd rfl (Or.inl rfl)) (fun _ _ _ _ _ => pts_nil) (fun _ _ _ _ _ => (pe_callB call_abs (by rfl) T.m_abs (by decide +kernel) (pa_cons (pv 1) pa_nil)))) (pe_one (pe_lst (pa_cons pe_int pa_nil)))) (pa_cons pe_int (pa_cons pe_int pa_nil)))))), ?_⟩
            refine ⟨_, rfl, 63, rfl, a, _, rfl, ha, fun c nc => ?_⟩
            rw [show cutV (ns.map V.int) none (some 63) = ns.map V.int from (GL.cut_take _ 63).trans (List.take_of_length_le (by rw [List.length_map]; exact hl))]
            have hh1 : Hs L F R [(c, .lst (ns.map V.int))] (upd H c (.lst (ns.map V.int))) := Hs.new (fp := []) hh nc
            refine ⟨c, rfl, ⟨_, SqL.of upd_same⟩, fun D nD => ?_⟩
            have hh2 : Hs L F R [(D, .lst []), (c, .lst (ns.map V.int))] (upd (upd H c (.lst (ns.map V.int))) D (.lst [])) := Hs.new hh1 nD
            have hDc : D ≠ c := fun e => by
              have := hh2.n
              rw [e] at this
              simp at this
            refine lc_list (K := K) (a := c) (xs := ns.map V.int) (fun i H' => ∃ H0 : Hp, H' = H0 ∧ Hs L F R [(D, .lst (((ns.take i).map fun n => if n < 0 then -n else n).map V.int)), (c, .lst (ns.map V.int))] H') ⟨_, rfl, hh2⟩ (fun i H' _ p => ?_) (fun i x H' hx p => ?_) (fun H' p => ?_)
            · obtain ⟨_, _, p⟩ := p
              exact SqL.of (p.c _ (List.mem_cons_of_mem _ List.mem_cons_self)).1
            · obtain ⟨_, _, p⟩ := p
              obtain ⟨z, hz, rfl⟩ := GL.of_ints_at hx
              have hlt := (List.getElem?_eq_some_iff.mp hz).1
              refine ⟨rfl, ?_⟩
              refine ⟨_, rfl, z, rfl, _, (p.c _ List.mem_cons_self).1, by rw [List.length_map, List.length_map, List.length_take]; exact GL.small_lt (by omega), ?_⟩
              refine ⟨_, rfl, ?_⟩
              rw [GL.take_snoc hz, List.map_append, List.map_append]
              exact p.write
            · obtain ⟨_, _, p⟩ := p
              rw [List.length_map, List.take_length] at p
              have hcs : (ns.map fun n : Int => if n < 0 then -n else n) = [] ↔ ns = [] := List.map_eq_nil_iff
              unfold absOr at hP
              have hcl : (ns.map fun n : Int => if n < 0 then -n else n).length ≤ 63 := by rw [List.length_map]; exact hl
              generalize (ns.map fun n : Int => if n < 0 then -n else n) = cs at p hP hcs hcl
              refine ⟨!cs.isEmpty, .inl ⟨_, SqL.of (p.c _ List.mem_cons_self).1, by cases cs <;> rfl⟩, ?_⟩
              cases cs with
              | nil =>
                rw [if_pos (hcs.mp rfl)] at hP
                refine ⟨(by show 1 ≤ sizeLine; decide), fun p' np => ?_⟩
                have q1 := Hs.new (o := .lst [.int 7]) p np
                refine ⟨(by show 3 ≤ sizeLine; decide), fun S nS => ?_⟩
                have q2 := Hs.new (o := .lst [.ref p', .int 0, .int 1]) q1 nS
                refine hP (.ref S) _ F [(S, .lst [.ref p', .int 0, .int 1]), (p', .lst (([7] : List Int).map V.int))] [] (.refl _) (.st S p' [7] 0 1) .nil ?_
                exact q2.sub (.cons_cons _ (.cons_cons _ (List.nil_sublist _)))
              | cons c0 cr =>
                rw [if_neg (fun e => nomatch hcs.mpr e)] at hP
                refine ⟨(by show 3 ≤ sizeLine; decide), fun S nS => ?_⟩
                have q2 := Hs.new (o := .lst [.ref D, .int 0, .int 1]) p nS
                refine hP (.ref S) _ F [(S, .lst [.ref D, .int 0, .int 1]), (D, .lst ((c0 :: cr).map V.int))] [] (.refl _) (.st S D (c0 :: cr) 0 1) .nil ?_
                exact q2.sub (.cons_cons _ (.cons_cons _ (List.nil_sublist _)))
    · cases hr2
  · cases hr2

def m_l_draw (T : Tx K mg) : List X → Option Rf := drawF
theorem ok_l_draw (T : Tx K mg) : FG P w K mg base 1 T.a_l_draw T.fd_l_draw P_l_draw (spF K Lk0 2 [0] (m_l_draw T)) := by
  refine fg_fun T.F_l_draw sc_l_draw (fun vs H Q E h => h.1) (fun cdv A outer s H vs Q E hr hc h => ?_)
  obtain ⟨hl, L, R, F, xs, fp, r, hL, hx, hh, hr2, hP⟩ := h
  unfold m_l_draw drawF at hr2
  split at hr2
  · split at hr2
    · rename_i cs k m n hcond
      obtain ⟨hn, hn2, hc0, hc63, hm⟩ := hcond
      obtain rfl := Option.some.inj hr2
      cases hx with
      | cons h1 t1 =>
        cases h1 with
        | st S C =>
          cases t1 with
          | cons h2 t2 =>
            cases t2
            cases h2 with
            | fz h2 =>
              cases h2
              have hS := (hh.c _ List.mem_cons_self).1
              have hC := (hh.c _ (List.mem_cons_of_mem _ List.mem_cons_self)).1
              have hz : (0 : Int) < ((cs.map V.int).length : Int) := by rw [List.length_map]; omega
              have b1 := Int.emod_nonneg k (Int.ne_of_gt hz)
              have b2 := Int.emod_lt_of_pos k hz
              obtain ⟨j, c, ej, hj, hcj, hcv, hcm⟩ := GL.cell_at (xs := cs) b1 (by rw [List.length_map] at b2 ⊢; exact b2)
              have hlen : ((cs.map V.int).length : Int) = (cs.length : Int) := by rw [List.length_map]
              have hj0 : (k % (cs.length : Int)).toNat = j := by rw [← hlen, ej]; rfl
              have hgc : cs.getD (k % (cs.length : Int)).toNat 0 = c := by rw [hj0, List.getD_eq_getElem?_getD, hcj]; rfl
              have hh2 : Hs L F R [(C, .lst (cs.map V.int)), (S, .lst [.ref C, .int k, .int m])] H := hh.perm (List.Perm.swap _ _ _)
              refine ⟨_, (pss_cons (ps_set (i := 2) sc_l_draw.nd rfl (.inl rfl) (pe_ix ix_list (pv 0) pe_int (fun _ _ => rfl)))
              (pss_cons (ps_set (i := 3) sc_l_draw.nd rfl (.inl rfl) (pe_op op_mod (pe_ix ix_list (pv 0) pe_int (fun _ _ => rfl)) (pe_callB call_len_seq (by rfl) T.m_len (by decide +kernel) (pa_cons (pv 2) pa_nil))))
              (pss_cons (ps_set (i := 4) sc_l_draw.nd rfl (.inl rfl) (pe_ix ix_list (pv 2) (pv 3) (fun _ _ => rfl)))
              (pss_cons (ps_if (pt_cmpR op_ge (pv 4) (pe_op op_pow pe_int pe_int) (nomark _))
               (pss_cons (ps_asg (pe_op op_fdivW (pv 4) (pv 1)) (pg_sub (pv 2) (pv 3) set_list))
                (pss_one (ps_ret (pe_op op_mod (pv 4) (pv 1)))))
               pss_nil)
              (pss_cons (ps_asg (pe_op op_add (pe_ix ix_list (pv 0) pe_int (fun _ _ => rfl)) pe_int) (pg_sub (pv 0) pe_int set_list))
              (pss_cons (ps_asg (pe_op op_mod (pe_op op_add (pe_op op_add (pe_op op_mulW (pe_ix ix_list (pv 0) pe_int (fun _ _ => rfl)) pe_int) (pv 4)) pe_int) pe_int) (pg_sub (pv 0) pe_int set_list))
              (pss_one (ps_ret (pe_op op_mod (pe_op op_fdivW (pe_op op_mod (pe_op op_mulW (pe_ix ix_list (pv 0) pe_int (fun _ _ => rfl)) (pe_ix ix_list (pv 0) pe_int (fun _ _ => rfl))) pe_int) pe_int) (pv 1)))))))))), ?_⟩
              refine ⟨_, rfl, _, _, _, _, rfl, rfl, SqL.of hS, rfl, ?_⟩
              refine ⟨_, rfl, _, _, _, _, rfl, rfl, SqL.of hS, rfl, _, rfl, C, _, rfl, .inl (SqL.of hC), _, _, rfl, rfl, hz, ?_⟩
              refine ⟨_, rfl, _, rfl, _, _, _, _, rfl, rfl, SqL.of hC, GL.atI_at ej hcv, ?_⟩
              refine ⟨_, rfl, _, _, rfl, rfl, ⟨by decide, by decide, by decide⟩, _, _, rfl, rfl, _, rfl, ite2 (fun hbig => ?_) (fun hsmall => ?_)⟩
              · have hb : (10 : Int) ^ 18 ≤ c := of_decide_eq_true hbig
                have e1 : drawV cs k m n = c % n := by unfold drawV; simp only [hgc]; exact if_pos hb
                have e2 : drawS cs k m n = .st (cs.set j (c / n)) k m := by unfold drawS; simp only [hgc]; rw [if_pos hb, hj0]
                rw [e1, e2] at hP
                refine ⟨_, rfl, _, rfl, _, _, rfl, rfl, wide_div (b := 4000) hn hn2 (by decide) (by decide), _, rfl, _, rfl, C, _, _, j, rfl, rfl, hC, GL.ixN_of ej (by rw [List.length_map]; exact hj), ?_⟩
                refine ⟨_, rfl, _, rfl, _, _, rfl, rfl, hn, ?_⟩
                refine hP _ _ F [] _ (.refl _) (.fz (.int _)) (.cons (.st S C _ _ _) .nil) ?_
                have := (hh2.write (o' := .lst ((cs.set j (c / n)).map V.int))).perm (List.Perm.swap _ _ _)
                rw [List.map_set] at this ⊢
                exact this
              · have hb : ¬ (10 : Int) ^ 18 ≤ c := fun z => by simp at hsmall; omega
                have e1 : drawV cs k m n = hashN m c * hashN m c % 2147483629 / 16 % n := by unfold drawV; simp only [hgc]; exact if_neg hb
                have e2 : drawS cs k m n = .st cs (k + 1) (hashN m c) := by unfold drawS; simp only [hgc]; exact if_neg hb
                rw [e1, e2] at hP
                have n1 : 0 ≤ hashN m c := Int.emod_nonneg (m * 48271 + c + 12345) (show (2147483647 : Int) ≠ 0 by decide)
                have n2 : hashN m c < 2147483647 := Int.emod_lt_of_pos (m * 48271 + c + 12345) (show (0 : Int) < 2147483647 by decide)
                have n3 : (hashN m c).natAbs < B4 := Nat.lt_of_lt_of_le (show (hashN m c).natAbs < 2147483647 by omega) (by unfold B4; decide +kernel)
                refine ⟨_, rfl, _, _, _, _, rfl, rfl, SqL.of hS, rfl, _, _, rfl, rfl, _, rfl, S, _, _, 1, rfl, rfl, hS, rfl, ?_⟩
                refine ⟨_, rfl, _, _, _, _, rfl, rfl, SqL.of upd_same, rfl, _, _, rfl, rfl, wide_mul (a := 4000) (b := 4000) hm (lt_B4 (by decide)) (by decide) (by decide) (by decide), _, rfl, _, _, rfl, rfl, _, _, rfl, rfl, _, _, rfl, rfl, (by show (0 : Int) < 2147483647; decide), _, rfl, S, _, _, 2, rfl, rfl, upd_same, rfl, ?_⟩
                refine ⟨_, rfl, _, _, _, _, rfl, rfl, SqL.of upd_same, rfl, _, rfl, _, _, _, _, rfl, rfl, SqL.of upd_same, rfl, _, _, rfl, rfl, wide_mul (a := 4000) (b := 4000) n3 n3 (by decide) (by decide) (by decide), _, _, rfl, rfl, (by show (0 : Int) < 2147483629; decide), _, _, rfl, rfl, wide_div (b := 4000) (by decide) (lt_B4 (by decide)) (by decide) (by decide), _, rfl, _, _, rfl, rfl, hn, ?_⟩
                refine hP _ _ F [] _ (.refl _) (.fz (.int _)) (.cons (.st S C _ _ _) .nil) ?_
                exact (hh.write (o' := .lst [.ref C, .int (k + 1), .int m])).write
    · cases hr2
  · cases hr2

def mb_l_pick (T : Tx K mg) : SM := (m_ret (m_up (m2 ixA (m_var 1) (m_fr (m_call1 2 (m_l_draw T) 0 (m_cons (m1 lenA (m_var 1)) m_nil))))))
def m_l_pick (T : Tx K mg) : List X → Option Rf := bodyF 2 [0] (mb_l_pick T)
theorem ok_l_pick (T : Tx K mg) : FG P w K mg base 2 T.a_l_pick T.fd_l_pick P_l_pick (spF K Lk0 2 [0] (m_l_pick T)) :=
  fun_okF T.F_l_pick sc_l_pick (by decide) fun cdv A outer s H E hr hc => by
    exact ⟨_, (pss_one (ps_ret (pe_ix ix_seq (pv 1) (pf_call (W := WD E) (ok_l_draw T) (hr.mono (by decide)) hc (by rfl) T.g_l_draw T.F_l_draw.kp T.b_l_draw (takes_of rfl rfl rfl rfl) (pa_cons (pv 0) (pa_cons (pe_callB call_len (by rfl) T.m_len (by decide +kernel) (pa_cons (pv 1) pa_nil)) pa_nil))) (fun _ _ => rfl)))),
      (ret_S (up_D (op2_G o_ix (var_D (i := 1)) (fr_X (call1_X (i := 0) (fun _ _ => trivial) (cons_A (op1_of_lk lk_lenA lenA_flat (var_D (i := 1))) nil_A))))))⟩
def if_l_mixed1 (T : Tx K mg) : OM Bool := (m1 kbool (ifAny 2 (m_l2 (eqD true) 2 (m_fr (mA lstA m_nil)))))
def lp_l_mixed2 (T : Tx K mg) : SM := (m_drop (m_append 3 (m_popAt 2 (m_fr (m_call1 2 (m_l_draw T) 0 (m_cons (m_l1 lenG 2) m_nil))))))
def mb_l_mixed (T : Tx K mg) : SM := (m_seq (m_par 2 3 (m1 listG (m_var 1)) (mA lstA m_nil))
      (m_seq (m_while 100000 (if_l_mixed1 T) (lp_l_mixed2 T))
      (m_ret (m_mv 3))))
def m_l_mixed (T : Tx K mg) : List X → Option Rf := bodyF 4 [0] (mb_l_mixed T)
theorem ok_l_mixed (T : Tx K mg) : FG P w K mg base 2 T.a_l_mixed T.fd_l_mixed P_l_mixed (spF K Lk0 2 [0] (m_l_mixed T)) :=
  fun_okF T.F_l_mixed sc_l_mixed (by decide) fun cdv A outer s H E hr hc => by
    exact ⟨_, (pss_cons (ps_par (i := 2) (j := 3) (by rfl) sc_l_mixed.nd rfl rfl (by decide) rfl rfl (pa_cons (pe_callTy call_list_of (by rfl) T.m_list (by decide +kernel) (pa_cons (pv 1) pa_nil)) (pa_cons (pe_lst pa_nil) pa_nil)) (by rfl))
      (pss_cons (ps_while (passes_of rfl) (pt_cmpR (op_neD hr.units) (pv 2) (pe_lst pa_nil) (nomark _))
       (pss_one (ps_expr (pe_bm PySem.F.plainAttrs_list PySem.F.slot_list_append PySem.F.type_list_append mt_append (pv 3) (pa_cons (pe_bm PySem.F.plainAttrs_list PySem.F.slot_list_pop PySem.F.type_list_pop mt_popAt (pv 2) (pa_cons (pf_call (W := WD E) (ok_l_draw T) (hr.mono (by decide)) hc (by rfl) T.g_l_draw T.F_l_draw.kp T.b_l_draw (takes_of rfl rfl rfl rfl) (pa_cons (pv 0) (pa_cons (pe_callB call_len_seq (by rfl) T.m_len (by decide +kernel) (pa_cons (pv 2) pa_nil)) pa_nil))) pa_nil)) pa_nil)))))
      (pss_one (ps_ret (pv 3))))),
      (seq_S (par_S (by decide) (by decide) (list_X (var_D (i := 1))) (a_lst nil_A))
      (seq_S (while_S (n := 100000) (test_T (l2_D lk_neD eqD_flat (fr_X (a_lst nil_A)))) (drop_S (append_X (i := 3) (popAt_D (fr_X (call1_X (i := 0) (fun _ _ => trivial) (cons_A (l1_D lk_len lenG_flat (i := 2)) nil_A)))))))
      (ret_S (mv_X (i := 3)))))⟩
def el_l_crew1 (T : Tx K mg) : OM D := (m_fr (m_call1 2 (m_l_pick T) 0 (m_cons (m_var 3) m_nil)))
def el_l_crew2 (T : Tx K mg) : OM D := (m2 catS (m_sl slS (m_var 8) m_noPart (m1 kpart (m_c (.int 7)))) (m_var 10))
def el_l_crew3 (T : Tx K mg) : OM D := (m_var 11)
def if_l_crew4 (T : Tx K mg) : OM Bool := (m1 kbool (m_r2 (inF true) 4 (m_var 11)))
def lp_l_crew5 (T : Tx K mg) : SM := (m_seq (m_par 6 7 (m_up (m2 ixL (m_fr (mA lstA (m_cons (m_c (.int 1)) (m_cons (m_c (.int 2)) (m_cons (m_c (.int 8)) (m_cons (m2 addI (m_c (.int 1)) (m_fr (m_call1 2 (m_l_draw T) 0 (m_cons (m_c (.int 8)) m_nil)))) m_nil)))))) (m_fr (m_call1 2 (m_l_draw T) 0 (m_cons (m_c (.int 4)) m_nil))))) (m_call1 2 (m_l_draw T) 0 (m_cons (m_c (.int 4)) m_nil)))
      (m_seq (m_set (m_up (m_on isStr joinG (m_c (.str "")) (m_fr (m_lc (mA krng1 (m_cons (m_var 6) m_nil)) (g_nm 10) (m_k true) (el_l_crew1 T) [10])))) (g_nm 8))
      (m_seq (m_if (m1 kbool (m2 (eqD false) (m_var 7) (m_c (.int 0))))
      (m_set (m_call1 2 (m_l_pick T) 0 (m_cons (m_var 2) m_nil)) (g_nm 8))
      m_next)
      (m_seq (m_if (m_ite (m1 kbool (m2 (eqD false) (m_var 7) (m_c (.int 1)))) (m1 kbool (ifAny 4 (m_l2 (eqD true) 4 (m_fr (mA lstA m_nil))))) (m_k false))
      (m_set (m_up (ifAny 4 (m_ixV 4 (m1 negI (m_c (.int 1)))))) (g_nm 8))
      m_next)
      (m_seq (m_set (m2 catL (m_fr (mA lstA (m_cons (m_var 8) m_nil))) (m_fr (m_lc (m1 kstr (m_var 3)) (g_nm 10) (m_k true) (el_l_crew2 T) [10]))) (g_nm 9))
      (m_drop (m_append 4 (m2 ixL (m_fr (m_lc (m1 klist (m_var 9)) (g_nm 11) (if_l_crew4 T) (el_l_crew3 T) [11])) (m_c (.int 0))))))))))
def mb_l_crew (T : Tx K mg) : SM := (m_seq (m_set (mA lstA (m_cons (m_c (.str "ring")) (m_cons (m_c (.str "round")) (m_cons (m_c (.str "watch")) (m_cons (m_c (.str "more")) (m_cons (m_c (.str "go")) (m_cons (m_c (.str "may")) (m_cons (m_c (.str "sure")) (m_cons (m_c (.str "names")) (m_cons (m_c (.str "come")) (m_cons (m_c (.str "none")) (m_cons (m_c (.str "slip")) (m_cons (m_c (.str "then")) m_nil))))))))))))) (g_nm 2))
      (m_seq (m_parT 3 4 (m_up (m_c (.str "abcdefghijklmnopqrstuvwxyz"))) (mA lstA m_nil))
      (m_seq (m_for (mA krng1 (m_cons (m_var 1) m_nil)) (g_nm 5) (lp_l_crew5 T))
      (m_ret (m_call1 2 (m_l_mixed T) 0 (m_cons (m_var 4) m_nil))))))
def m_l_crew (T : Tx K mg) : List X → Option Rf := bodyF 12 [0] (mb_l_crew T)
theorem ok_l_crew (T : Tx K mg) : FG P w K mg base 3 T.a_l_crew T.fd_l_crew P_l_crew (spF K Lk0 2 [0] (m_l_crew T)) :=
  fun_okF T.F_l_crew sc_l_crew (by decide) fun cdv A outer s H E hr hc => by
    exact ⟨_, (pss_cons (ps_set (i := 2) sc_l_crew.nd rfl (.inl rfl) (pe_lst (pa_cons pe_str (pa_cons pe_str (pa_cons pe_str (pa_cons pe_str (pa_cons pe_str (pa_cons pe_str (pa_cons pe_str (pa_cons pe_str (pa_cons pe_str (pa_cons pe_str (pa_cons pe_str (pa_cons pe_str pa_nil))))))))))))))
      (pss_cons (ps_asg (pe_tupF (pa_cons pe_str (pa_cons (pe_lst pa_nil) pa_nil))) (pg_tup (by rfl) (pgs_cons (pg_name (i := 3) sc_l_crew.nd rfl (.inr rfl)) (pgs_cons (pg_name (i := 4) sc_l_crew.nd rfl (.inr rfl)) pgs_nil))))
      (pss_cons (ps_for (passes_of rfl) rfl (pi_range1 (by rfl) T.m_range (pa_cons (pv 1) pa_nil)) (pg_name (i := 5) sc_l_crew.nd rfl (.inl rfl))
       (pss_cons (ps_par (i := 6) (j := 7) (by rfl) sc_l_crew.nd rfl rfl (by decide) rfl rfl (pa_cons (pe_ix ix_list (pe_lst (pa_cons pe_int (pa_cons pe_int (pa_cons pe_int (pa_cons (pe_op op_add pe_int (pf_call (W := WD E) (ok_l_draw T) (hr.mono (by decide)) hc (by rfl) T.g_l_draw T.F_l_draw.kp T.b_l_draw (takes_of rfl rfl rfl rfl) (pa_cons (pv 0) (pa_cons pe_int pa_nil)))) pa_nil))))) (pf_call (W := WD E) (ok_l_draw T) (hr.mono (by decide)) hc (by rfl) T.g_l_draw T.F_l_draw.kp T.b_l_draw (takes_of rfl rfl rfl rfl) (pa_cons (pv 0) (pa_cons pe_int pa_nil))) (fun _ _ => rfl)) (pa_cons (pf_call (W := WD E) (ok_l_draw T) (hr.mono (by decide)) hc (by rfl) T.g_l_draw T.F_l_draw.kp T.b_l_draw (takes_of rfl rfl rfl rfl) (pa_cons (pv 0) (pa_cons pe_int pa_nil))) pa_nil)) (by rfl))
        (pss_cons (ps_set (i := 8) sc_l_crew.nd rfl (.inr rfl) (pe_join pe_str (pe_lc (own := [("_law_sign", 10)]) (g := gName 10) (tt := tYes) rfl sc_l_crew.nd (pi_range1 (by rfl) T.m_range (pa_cons (pv 6) pa_nil)) (blkOk_by (N := N_l_crew) (sc := defScope s_l_crew) (by decide +kernel)) (fun _ _ _ _ _ => pg_name (i := 10) sc_l_crew.nd rfl (Or.inl rfl)) (fun _ _ _ _ _ => pts_nil) (fun _ _ _ _ _ => (pf_call (W := W0) (ok_l_pick T) (hr.mono (by decide)) hc (by rfl) T.g_l_pick T.F_l_pick.kp T.b_l_pick takes0 (pa_cons (pv 0) (pa_cons (pv 3) pa_nil)))))))
        (pss_cons (ps_if (pt_cmpR (op_eqD hr.units) (pv 7) pe_int (nomark _))
         (pss_one (ps_set (i := 8) sc_l_crew.nd rfl (.inr rfl) (pf_call (W := WD E) (ok_l_pick T) (hr.mono (by decide)) hc (by rfl) T.g_l_pick T.F_l_pick.kp T.b_l_pick (takes_of rfl rfl rfl rfl) (pa_cons (pv 0) (pa_cons (pv 2) pa_nil)))))
         pss_nil)
        (pss_cons (ps_if (PW.pt (pw_and (pt_cmpR (op_eqD hr.units) (pv 7) pe_int (nomark _)) (pw_and1 (pt_cmpR (op_neD hr.units) (pv 4) (pe_lst pa_nil) (nomark _)))))
         (pss_one (ps_set (i := 8) sc_l_crew.nd rfl (.inr rfl) (pe_ix ix_list (pv 4) (pe_un un_neg pe_int) (fun _ _ => rfl))))
         pss_nil)
        (pss_cons (ps_set (i := 9) sc_l_crew.nd rfl (.inl rfl) (pe_op op_cat (pe_lst (pa_cons (pv 8) pa_nil)) (pe_lc (own := [("_law_sign", 10)]) (g := gName 10) (tt := tYes) rfl sc_l_crew.nd (pi_str (pv 3)) (blkOk_by (N := N_l_crew) (sc := defScope s_l_crew) (by decide +kernel)) (fun _ _ _ _ _ => pg_name (i := 10) sc_l_crew.nd rfl (Or.inl rfl)) (fun _ _ _ _ _ => pts_nil) (fun _ _ _ _ _ => (pe_op op_add_str (pe_slice sl_str (pv 8) po_none (po_some pe_int)) (pv 10))))))
        (pss_one (ps_expr (pe_bm PySem.F.plainAttrs_list PySem.F.slot_list_append PySem.F.type_list_append mt_append (pv 4) (pa_cons (pe_ix ix_list (pe_lc (own := [("_law_name", 11)]) (g := gName 11)  rfl sc_l_crew.nd (pi_list (pv 9)) (blkOk_by (N := N_l_crew) (sc := defScope s_l_crew) (by decide +kernel)) (fun _ _ _ _ _ => pg_name (i := 11) sc_l_crew.nd rfl (Or.inl rfl)) (fun _ _ _ _ _ => pts_one (pt_cmpR (show OpR _ (compareOp .NotIn) (rIn K true) from op_notIn_seq) (pv 11) (pv 4) (by rfl))) (fun _ _ _ _ _ => (pv 11))) pe_int (fun _ _ => rfl)) pa_nil))))))))))
      (pss_one (ps_ret (pf_call (W := WD E) (ok_l_mixed T) (hr.mono (by decide)) hc (by rfl) T.g_l_mixed T.F_l_mixed.kp T.b_l_mixed (takes_of rfl rfl rfl rfl) (pa_cons (pv 0) (pa_cons (pv 4) pa_nil)))))))),
      (seq_S (set_S (a_lst (cons_A (c_D (Fz.str _)) (cons_A (c_D (Fz.str _)) (cons_A (c_D (Fz.str _)) (cons_A (c_D (Fz.str _)) (cons_A (c_D (Fz.str _)) (cons_A (c_D (Fz.str _)) (cons_A (c_D (Fz.str _)) (cons_A (c_D (Fz.str _)) (cons_A (c_D (Fz.str _)) (cons_A (c_D (Fz.str _)) (cons_A (c_D (Fz.str _)) (cons_A (c_D (Fz.str _)) nil_A))))))))))))) (nm_G (i := 2)) (by decide))
      (seq_S (parT_S (by decide) (by decide) (up_D (c_D (Fz.str _))) (a_lst nil_A))
      (seq_S (for_S (rng1_I (cons_A (var_D (i := 1)) nil_A)) (nm_G (i := 5)) (seq_S (par_S (by decide) (by decide) (up_D (op2_G o_ixL (fr_X (a_lst (cons_A (c_D (Fz.int _)) (cons_A (c_D (Fz.int _)) (cons_A (c_D (Fz.int _)) (cons_A (op2_G o_add (c_D (Fz.int _)) (fr_X (call1_X (i := 0) (fun _ _ => trivial) (cons_A (c_D (Fz.int _)) nil_A)))) nil_A)))))) (fr_X (call1_X (i := 0) (fun _ _ => trivial) (cons_A (c_D (Fz.int _)) nil_A))))) (call1_X (i := 0) (fun _ _ => trivial) (cons_A (c_D (Fz.int _)) nil_A)))
      (seq_S (set_S (up_D (join_D (c_D (Fz.str _)) (fr_X (lc_X (rng1_I (cons_A (var_D (i := 6)) nil_A)) (nm_G (i := 10)) yes_T (fr_X (call1_X (i := 0) (fun _ _ => trivial) (cons_A (var_D (i := 3)) nil_A))) (by decide))))) (nm_G (i := 8)) (by decide))
      (seq_S (if_S (test_T (op2_G o_eqD (var_D (i := 7)) (c_D (Fz.int _)))) (set_S (call1_X (i := 0) (fun _ _ => trivial) (cons_A (var_D (i := 2)) nil_A)) (nm_G (i := 8)) (by decide)) next_S)
      (seq_S (if_S (and_T (test_T (op2_G o_eqD (var_D (i := 7)) (c_D (Fz.int _)))) (test_T (l2_D lk_neD eqD_flat (fr_X (a_lst nil_A))))) (set_S (up_D (ixV_D (un_D o_neg (c_D (Fz.int _))))) (nm_G (i := 8)) (by decide)) next_S)
      (seq_S (set_S (op2_G o_catL (fr_X (a_lst (cons_A (var_D (i := 8)) nil_A))) (fr_X (lc_X (str_I (var_D (i := 3))) (nm_G (i := 10)) yes_T (op2_G o_catS (sl_G o_slS (var_D (i := 8)) none_O (some_O (c_D (Fz.int _)))) (var_D (i := 10))) (by decide)))) (nm_G (i := 9)) (by decide))
      (drop_S (append_X (i := 4) (op2_G o_ixL (fr_X (lc_X (list_I (var_D (i := 9))) (nm_G (i := 11)) (test_T (r2_D (lk_in true) inF_flat (var_D (i := 11)))) (var_D (i := 11)) (by decide))) (c_D (Fz.int _)))))))))) (by decide))
      (ret_S (call1_X (i := 0) (fun _ _ => trivial) (cons_A (var_D (i := 4)) nil_A))))))⟩
def lp_l_slip1 (T : Tx K mg) : SM := (m_set (m_up (m2 addI (m2 mulI (m_var 2) (m2 powI (m_c (.int 10)) (m_c (.int 7)))) (m_fr (m_call1 2 (m_l_draw T) 0 (m_cons (m2 powI (m_c (.int 10)) (m_c (.int 7))) m_nil))))) (g_nm 2))
def mb_l_slip (T : Tx K mg) : SM := (m_seq (m_set (m_call1 2 (m_l_draw T) 0 (m_cons (m_c (.int 6)) m_nil)) (g_nm 1))
      (m_seq (m_set (m_call1 2 (m_l_draw T) 0 (m_cons (m2 ixL (m_fr (mA lstA (m_cons (m_c (.int 3)) (m_cons (m_c (.int 13)) (m_cons (m_c (.int 27721)) (m_cons (m_c (.int 40)) (m_cons (m_c (.int 1000000)) (m_cons (m_c (.int 10)) m_nil)))))))) (m_var 1)) m_nil)) (g_nm 2))
      (m_seq (m_if (m1 kbool (m2 (eqD false) (m_var 1) (m_c (.int 3))))
      (m_set (m_up (m2 addI (m2 mulI (m_var 2) (m_c (.int 27720))) (m_fr (m_call1 2 (m_l_draw T) 0 (m_cons (m_c (.int 3)) m_nil))))) (g_nm 2))
      m_next)
      (m_seq (m_if (m1 kbool (m2 (eqD false) (m_var 1) (m_c (.int 5))))
      (m_for (mA krng1 (m_cons (m_fr (m_call1 2 (m_l_draw T) 0 (m_cons (m_c (.int 9)) m_nil))) m_nil)) (g_nm 3) (lp_l_slip1 T))
      m_next)
      (m_ret (m_up (m2 mulI (m_var 2) (m2 ixL (m_fr (mA lstA (m_cons (m_c (.int 1)) (m_cons (m_c (.int 1)) (m_cons (m1 negI (m_c (.int 1))) m_nil))))) (m_fr (m_call1 2 (m_l_draw T) 0 (m_cons (m_c (.int 3)) m_nil)))))))))))
def m_l_slip (T : Tx K mg) : List X → Option Rf := bodyF 4 [0] (mb_l_slip T)
theorem ok_l_slip (T : Tx K mg) : FG P w K mg base 2 T.a_l_slip T.fd_l_slip P_l_slip (spF K Lk0 1 [0] (m_l_slip T)) :=
  fun_okF T.F_l_slip sc_l_slip (by decide) fun cdv A outer s H E hr hc => by
    exact ⟨_, (pss_cons (ps_set (i := 1) sc_l_slip.nd rfl (.inl rfl) (pf_call (W := WD E) (ok_l_draw T) (hr.mono (by decide)) hc (by rfl) T.g_l_draw T.F_l_draw.kp T.b_l_draw (takes_of rfl rfl rfl rfl) (pa_cons (pv 0) (pa_cons pe_int pa_nil))))
      (pss_cons (ps_set (i := 2) sc_l_slip.nd rfl (.inl rfl) (pf_call (W := WD E) (ok_l_draw T) (hr.mono (by decide)) hc (by rfl) T.g_l_draw T.F_l_draw.kp T.b_l_draw (takes_of rfl rfl rfl rfl) (pa_cons (pv 0) (pa_cons (pe_ix ix_list (pe_lst (pa_cons pe_int (pa_cons pe_int (pa_cons pe_int (pa_cons pe_int (pa_cons pe_int (pa_cons pe_int pa_nil))))))) (pv 1) (fun _ _ => rfl)) pa_nil))))
      (pss_cons (ps_if (pt_cmpR (op_eqD hr.units) (pv 1) pe_int (nomark _))
       (pss_one (ps_set (i := 2) sc_l_slip.nd rfl (.inl rfl) (pe_op op_add (pe_op op_mulW (pv 2) pe_int) (pf_call (W := WD E) (ok_l_draw T) (hr.mono (by decide)) hc (by rfl) T.g_l_draw T.F_l_draw.kp T.b_l_draw (takes_of rfl rfl rfl rfl) (pa_cons (pv 0) (pa_cons pe_int pa_nil))))))
       pss_nil)
      (pss_cons (ps_if (pt_cmpR (op_eqD hr.units) (pv 1) pe_int (nomark _))
       (pss_one (ps_for (passes_of rfl) rfl (pi_range1 (by rfl) T.m_range (pa_cons (pf_call (W := WD E) (ok_l_draw T) (hr.mono (by decide)) hc (by rfl) T.g_l_draw T.F_l_draw.kp T.b_l_draw (takes_of rfl rfl rfl rfl) (pa_cons (pv 0) (pa_cons pe_int pa_nil))) pa_nil)) (pg_name (i := 3) sc_l_slip.nd rfl (.inl rfl))
         (pss_one (ps_set (i := 2) sc_l_slip.nd rfl (.inl rfl) (pe_op op_add (pe_op op_mulW (pv 2) (pe_op op_pow pe_int pe_int)) (pf_call (W := WD E) (ok_l_draw T) (hr.mono (by decide)) hc (by rfl) T.g_l_draw T.F_l_draw.kp T.b_l_draw (takes_of rfl rfl rfl rfl) (pa_cons (pv 0) (pa_cons (pe_op op_pow pe_int pe_int) pa_nil))))))))
       pss_nil)
      (pss_one (ps_ret (pe_op op_mulW (pv 2) (pe_ix ix_list (pe_lst (pa_cons pe_int (pa_cons pe_int (pa_cons (pe_un un_neg pe_int) pa_nil)))) (pf_call (W := WD E) (ok_l_draw T) (hr.mono (by decide)) hc (by rfl) T.g_l_draw T.F_l_draw.kp T.b_l_draw (takes_of rfl rfl rfl rfl) (pa_cons (pv 0) (pa_cons pe_int pa_nil))) (fun _ _ => rfl))))))))),
      (seq_S (set_S (call1_X (i := 0) (fun _ _ => trivial) (cons_A (c_D (Fz.int _)) nil_A)) (nm_G (i := 1)) (by decide))
      (seq_S (set_S (call1_X (i := 0) (fun _ _ => trivial) (cons_A (op2_G o_ixL (fr_X (a_lst (cons_A (c_D (Fz.int _)) (cons_A (c_D (Fz.int _)) (cons_A (c_D (Fz.int _)) (cons_A (c_D (Fz.int _)) (cons_A (c_D (Fz.int _)) (cons_A (c_D (Fz.int _)) nil_A)))))))) (var_D (i := 1))) nil_A)) (nm_G (i := 2)) (by decide))
      (seq_S (if_S (test_T (op2_G o_eqD (var_D (i := 1)) (c_D (Fz.int _)))) (set_S (up_D (op2_G o_add (op2_G o_mulW (var_D (i := 2)) (c_D (Fz.int _))) (fr_X (call1_X (i := 0) (fun _ _ => trivial) (cons_A (c_D (Fz.int _)) nil_A))))) (nm_G (i := 2)) (by decide)) next_S)
      (seq_S (if_S (test_T (op2_G o_eqD (var_D (i := 1)) (c_D (Fz.int _)))) (for_S (rng1_I (cons_A (fr_X (call1_X (i := 0) (fun _ _ => trivial) (cons_A (c_D (Fz.int _)) nil_A))) nil_A)) (nm_G (i := 3)) (set_S (up_D (op2_G o_add (op2_G o_mulW (var_D (i := 2)) (op2_G o_pow (c_D (Fz.int _)) (c_D (Fz.int _)))) (fr_X (call1_X (i := 0) (fun _ _ => trivial) (cons_A (op2_G o_pow (c_D (Fz.int _)) (c_D (Fz.int _))) nil_A))))) (nm_G (i := 2)) (by decide)) (by decide)) next_S)
      (ret_S (up_D (op2_G o_mulW (var_D (i := 2)) (op2_G o_ixL (fr_X (a_lst (cons_A (c_D (Fz.int _)) (cons_A (c_D (Fz.int _)) (cons_A (un_D o_neg (c_D (Fz.int _))) nil_A))))) (fr_X (call1_X (i := 0) (fun _ _ => trivial) (cons_A (c_D (Fz.int _)) nil_A)))))))))))⟩
def el_l_marks1 (T : Tx K mg) : OM D := (m_fr (m_call1 1 (m_l_slip T) 0 m_nil))
def mb_l_marks (T : Tx K mg) : SM := (m_seq (m_set (m_lc (m1 klist (m_var 1)) (g_nm 3) (m_k true) (el_l_marks1 T) [3]) (g_nm 2))
      (m_seq (m_if (m1 kbool (m2 (eqD false) (m_fr (m_call1 2 (m_l_draw T) 0 (m_cons (m_c (.int 8)) m_nil))) (m_c (.int 0))))
      (m_set (m2 repL (m_fr (m_sl slL (m_var 2) m_noPart (m1 kpart (m_c (.int 1))))) (m1 lenG (m_var 1))) (g_nm 2))
      m_next)
      (m_ret (mA dictZG (m_cons (m_var 1) (m_cons (m_var 2) m_nil))))))
def m_l_marks (T : Tx K mg) : List X → Option Rf := bodyF 4 [0] (mb_l_marks T)
theorem ok_l_marks (T : Tx K mg) : FG P w K mg base 3 T.a_l_marks T.fd_l_marks P_l_marks (spF K Lk0 2 [0] (m_l_marks T)) :=
  fun_okF T.F_l_marks sc_l_marks (by decide) fun cdv A outer s H E hr hc => by
    exact ⟨_, (pss_cons (ps_setLc (i := 2) (own := [("_law_name", 3)]) (g := gName 3) (tt := tYes) rfl sc_l_marks.nd rfl rfl (sw_true rfl rfl rfl (by decide +kernel)) (pi_list (pv 1)) (blkOk_by (N := N_l_marks) (sc := defScope s_l_marks) (by decide +kernel)) (fun _ _ _ _ _ => pg_name (i := 3) sc_l_marks.nd rfl (Or.inl rfl)) (fun _ _ _ _ _ => pts_nil) (fun _ _ _ _ _ => (pf_call (W := W0) (ok_l_slip T) (hr.mono (by decide)) hc (by rfl) T.g_l_slip T.F_l_slip.kp T.b_l_slip takes0 (pa_cons (pv 0) pa_nil))))
      (pss_cons (ps_if (pt_cmpR (op_eqD hr.units) (pf_call (W := WD E) (ok_l_draw T) (hr.mono (by decide)) hc (by rfl) T.g_l_draw T.F_l_draw.kp T.b_l_draw (takes_of rfl rfl rfl rfl) (pa_cons (pv 0) (pa_cons pe_int pa_nil))) pe_int (nomark _))
       (pss_one (ps_set (i := 2) sc_l_marks.nd rfl (.inl rfl) (pe_op op_rep (pe_slice sl_list (pv 2) po_none (po_some pe_int)) (pe_callB call_len_seq (by rfl) T.m_len (by decide +kernel) (pa_cons (pv 1) pa_nil)))))
       pss_nil)
      (pss_one (ps_ret (pe_dictZip rfl T.m_dict T.m_zip (pa_cons (pv 1) (pa_cons (pv 2) pa_nil))))))),
      (seq_S (set_S (lc_X (list_I (var_D (i := 1))) (nm_G (i := 3)) yes_T (fr_X (call1_X (i := 0) (fun _ _ => trivial) nil_A)) (by decide)) (nm_G (i := 2)) (by decide))
      (seq_S (if_S (test_T (op2_G o_eqD (fr_X (call1_X (i := 0) (fun _ _ => trivial) (cons_A (c_D (Fz.int _)) nil_A))) (c_D (Fz.int _)))) (set_S (op2_G o_repL (fr_X (sl_G o_slL (var_D (i := 2)) none_O (some_O (c_D (Fz.int _))))) (op1_of_lk lk_len lenG_flat (var_D (i := 1)))) (nm_G (i := 2)) (by decide)) next_S)
      (ret_S (dictZ_X (cons_A (var_D (i := 1)) (cons_A (var_D (i := 2)) nil_A))))))⟩
def if_l_goes1 (T : Tx K mg) : OM Bool := (m1 kbool (m2 (eqD true) (m_var 5) (m_fr (mA lstA m_nil))))
def lp_l_goes2 (T : Tx K mg) : SM := (m_seq (m_set (m_up (m2 modI (m2 getG (m_var 1) (ifAny 3 (m_ixV 3 (m1 negI (m_c (.int 1)))))) (m1 lenG (m_var 5)))) (g_nm 6))
      (m_seq (m_drop (m_append 3 (m2 ixL (m_var 5) (m_var 6))))
      (m_set (m2 catL (m_fr (m_sl slL (m_var 5) (m1 kpart (m2 addI (m_var 6) (m_c (.int 1)))) m_noPart)) (m_fr (m_sl slL (m_var 5) m_noPart (m1 kpart (m_var 6))))) (g_nm 5))))
def mb_l_goes (T : Tx K mg) : SM := (m_seq (m_par 3 4 (mA lstA (m_cons (m_var 2) m_nil)) (m_up (m_on isLst idxL (m_var 0) (m_var 2))))
      (m_seq (m_set (m2 catL (m_fr (m_sl slL (m_var 0) (m1 kpart (m2 addI (m_var 4) (m_c (.int 1)))) m_noPart)) (m_fr (m_sl slL (m_var 0) m_noPart (m1 kpart (m_var 4))))) (g_nm 5))
      (m_seq (m_while 100000 (if_l_goes1 T) (lp_l_goes2 T))
      (m_seq (m_set (m_up (m_on isLst idxL (m_var 0) (ifAny 3 (m_ixV 3 (m1 negI (m_c (.int 1))))))) (g_nm 4))
      (m_seq (m_set (m2 catL (m_fr (m_sl slL (m_var 0) (m1 kpart (m2 addI (m_var 4) (m_c (.int 1)))) m_noPart)) (m_fr (m_sl slL (m_var 0) m_noPart (m1 kpart (m2 addI (m_var 4) (m_c (.int 1))))))) (g_nm 7))
      (m_ret (m_up (mA tupA (m_cons (m1 tupG (m_var 3)) (m_cons (m2 ixL (m_var 7) (m2 modI (m2 getG (m_var 1) (ifAny 3 (m_ixV 3 (m1 negI (m_c (.int 1)))))) (m1 lenG (m_var 0)))) m_nil))))))))))
def m_l_goes (T : Tx K mg) : List X → Option Rf := bodyF 8 [] (mb_l_goes T)
theorem ok_l_goes (T : Tx K mg) : FG P w K mg base 1 T.a_l_goes T.fd_l_goes P_l_goes (spF K Lk0 3 [] (m_l_goes T)) :=
  fun_okF T.F_l_goes sc_l_goes (by decide) fun cdv A outer s H E hr hc => by
    have hu := hu_of hr
    exact ⟨_, (pss_cons (ps_par (i := 3) (j := 4) (by rfl) sc_l_goes.nd rfl rfl (by decide) rfl rfl (pa_cons (pe_lst (pa_cons (pv 2) pa_nil)) (pa_cons (pe_bm PySem.F.plainAttrs_list PySem.F.slot_list_index PySem.F.type_list_index mt_index (pv 0) (pa_cons (pv 2) pa_nil)) pa_nil)) (by rfl))
      (pss_cons (ps_set (i := 5) sc_l_goes.nd rfl (.inl rfl) (pe_op op_cat (pe_slice sl_list (pv 0) (po_some (pe_op op_add (pv 4) pe_int)) po_none) (pe_slice sl_list (pv 0) po_none (po_some (pv 4)))))
      (pss_cons (ps_while (passes_of rfl) (pt_cmpR (op_neD hr.units) (pv 5) (pe_lst pa_nil) (nomark _))
       (pss_cons (ps_set (i := 6) sc_l_goes.nd rfl (.inl rfl) (pe_op op_mod (pe_dget hu (pv 1) (pe_ix ix_list (pv 3) (pe_un un_neg pe_int) (fun _ _ => rfl)) (fun _ _ => rfl)) (pe_callB call_len_seq (by rfl) T.m_len (by decide +kernel) (pa_cons (pv 5) pa_nil))))
        (pss_cons (ps_expr (pe_bm PySem.F.plainAttrs_list PySem.F.slot_list_append PySem.F.type_list_append mt_append (pv 3) (pa_cons (pe_ix ix_list (pv 5) (pv 6) (fun _ _ => rfl)) pa_nil)))
        (pss_one (ps_set (i := 5) sc_l_goes.nd rfl (.inl rfl) (pe_op op_cat (pe_slice sl_list (pv 5) (po_some (pe_op op_add (pv 6) pe_int)) po_none) (pe_slice sl_list (pv 5) po_none (po_some (pv 6)))))))))
      (pss_cons (ps_set (i := 4) sc_l_goes.nd rfl (.inl rfl) (pe_bm PySem.F.plainAttrs_list PySem.F.slot_list_index PySem.F.type_list_index mt_index (pv 0) (pa_cons (pe_ix ix_list (pv 3) (pe_un un_neg pe_int) (fun _ _ => rfl)) pa_nil)))
      (pss_cons (ps_set (i := 7) sc_l_goes.nd rfl (.inl rfl) (pe_op op_cat (pe_slice sl_list (pv 0) (po_some (pe_op op_add (pv 4) pe_int)) po_none) (pe_slice sl_list (pv 0) po_none (po_some (pe_op op_add (pv 4) pe_int)))))
      (pss_one (ps_ret (pe_tupF (pa_cons (pe_callTy call_tupleF (by rfl) T.m_tuple (by decide +kernel) (pa_cons (pv 3) pa_nil)) (pa_cons (pe_ix ix_list (pv 7) (pe_op op_mod (pe_dget hu (pv 1) (pe_ix ix_list (pv 3) (pe_un un_neg pe_int) (fun _ _ => rfl)) (fun _ _ => rfl)) (pe_callB call_len_seq (by rfl) T.m_len (by decide +kernel) (pa_cons (pv 0) pa_nil))) (fun _ _ => rfl)) pa_nil)))))))))),
      (seq_S (par_S (by decide) (by decide) (a_lst (cons_A (var_D (i := 2)) nil_A)) (up_D (idxL_D (var_D (i := 0)) (var_D (i := 2)))))
      (seq_S (set_S (op2_G o_catL (fr_X (sl_G o_slL (var_D (i := 0)) (some_O (op2_G o_add (var_D (i := 4)) (c_D (Fz.int _)))) none_O)) (fr_X (sl_G o_slL (var_D (i := 0)) none_O (some_O (var_D (i := 4)))))) (nm_G (i := 5)) (by decide))
      (seq_S (while_S (n := 100000) (test_T (op2_G o_neD (var_D (i := 5)) (fr_X (a_lst nil_A)))) (seq_S (set_S (up_D (op2_G o_mod (dget_D (var_D (i := 1)) (ixV_D (un_D o_neg (c_D (Fz.int _))))) (op1_of_lk lk_len lenG_flat (var_D (i := 5))))) (nm_G (i := 6)) (by decide))
      (seq_S (drop_S (append_X (i := 3) (op2_G o_ixL (var_D (i := 5)) (var_D (i := 6)))))
      (set_S (op2_G o_catL (fr_X (sl_G o_slL (var_D (i := 5)) (some_O (op2_G o_add (var_D (i := 6)) (c_D (Fz.int _)))) none_O)) (fr_X (sl_G o_slL (var_D (i := 5)) none_O (some_O (var_D (i := 6)))))) (nm_G (i := 5)) (by decide)))))
      (seq_S (set_S (up_D (idxL_D (var_D (i := 0)) (ixV_D (un_D o_neg (c_D (Fz.int _)))))) (nm_G (i := 4)) (by decide))
      (seq_S (set_S (op2_G o_catL (fr_X (sl_G o_slL (var_D (i := 0)) (some_O (op2_G o_add (var_D (i := 4)) (c_D (Fz.int _)))) none_O)) (fr_X (sl_G o_slL (var_D (i := 0)) none_O (some_O (op2_G o_add (var_D (i := 4)) (c_D (Fz.int _))))))) (nm_G (i := 7)) (by decide))
      (ret_S (up_D (a_tup (cons_A (tuple_D (var_D (i := 3))) (cons_A (op2_G o_ixL (var_D (i := 7)) (op2_G o_mod (dget_D (var_D (i := 1)) (ixV_D (un_D o_neg (c_D (Fz.int _))))) (op1_of_lk lk_len lenG_flat (var_D (i := 0))))) nil_A))))))))))⟩
def if_l_common1 (T : Tx K mg) : OM Bool := (m1 kbool (m2 (eqD true) (m_var 1) (m_c (.int 0))))
def lp_l_common2 (T : Tx K mg) : SM := (m_par 0 1 (m_mv 1) (m_up (m2 modI (m_var 0) (m_var 1))))
def mb_l_common (T : Tx K mg) : SM := (m_seq (m_while 100000 (if_l_common1 T) (lp_l_common2 T))
      (m_ret (m_up (m1 absG (m_var 0)))))
def m_l_common (T : Tx K mg) : List X → Option Rf := bodyF 2 [] (mb_l_common T)
theorem ok_l_common (T : Tx K mg) : FG P w K mg base 1 T.a_l_common T.fd_l_common P_l_common (spF K Lk0 2 [] (m_l_common T)) :=
  fun_okF T.F_l_common sc_l_common (by decide) fun cdv A outer s H E hr hc => by
    exact ⟨_, (pss_cons (ps_while (passes_of rfl) (pt_cmpR (op_neD hr.units) (pv 1) pe_int (nomark _))
       (pss_one (ps_par (i := 0) (j := 1) (by rfl) sc_l_common.nd rfl rfl (by decide) rfl rfl (pa_cons (pv 1) (pa_cons (pe_op op_mod (pv 0) (pv 1)) pa_nil)) (by rfl))))
      (pss_one (ps_ret (pe_callB call_abs (by rfl) T.m_abs (by decide +kernel) (pa_cons (pv 0) pa_nil))))),
      (seq_S (while_S (n := 100000) (test_T (op2_G o_neD (var_D (i := 1)) (c_D (Fz.int _)))) (par_S (by decide) (by decide) (mv_X (i := 1)) (up_D (op2_G o_mod (var_D (i := 0)) (var_D (i := 1))))))
      (ret_S (up_D (op1_of_lk lk_abs absG_flat (var_D (i := 0))))))⟩
def mb_l_multiple (T : Tx K mg) : SM := (m_ret (m_up (m2 divI (m2 mulI (m_var 0) (m_var 1)) (m_fr (m_call 2 (m_l_common T) (m_cons (m_var 0) (m_cons (m_var 1) m_nil)))))))
def m_l_multiple (T : Tx K mg) : List X → Option Rf := bodyF 2 [] (mb_l_multiple T)
theorem ok_l_multiple (T : Tx K mg) : FG P w K mg base 2 T.a_l_multiple T.fd_l_multiple P_l_multiple (spF K Lk0 2 [] (m_l_multiple T)) :=
  fun_okF T.F_l_multiple sc_l_multiple (by decide) fun cdv A outer s H E hr hc => by
    exact ⟨_, (pss_one (ps_ret (pe_op op_fdivW (pe_op op_mulW (pv 0) (pv 1)) (pf_call (W := WD E) (ok_l_common T) (hr.mono (by decide)) hc (by rfl) T.g_l_common T.F_l_common.kp T.b_l_common (takes_of rfl rfl rfl rfl) (pa_cons (pv 0) (pa_cons (pv 1) pa_nil)))))),
      (ret_S (up_D (op2_G o_divW (op2_G o_mulW (var_D (i := 0)) (var_D (i := 1))) (fr_X (call_X (fun _ _ => trivial) (cons_A (var_D (i := 0)) (cons_A (var_D (i := 1)) nil_A)))))))⟩
def el_l_said_by1 (T : Tx K mg) : OM D := (mA tupA (m_cons (m_var 4) (m_cons (m_ite (m1 kbool (m2 (eqD false) (m_var 3) (m_var 2))) (m1 lenG (m_var 0)) (m2 subI (m_var 2) (m_var 3))) m_nil)))
def mb_l_said_by (T : Tx K mg) : SM := (m_seq (m_set (m_up (m2 subI (m1 lenG (m_var 0)) (m_c (.int 1)))) (g_nm 2))
      (m_ret (m_lc (mA kenumT (m_cons (m_var 1) m_nil)) (g_tup 2 (g_cons (g_nm 3) (g_cons (g_nm 4) g_nil))) (m_k true) (el_l_said_by1 T) [3, 4])))
def m_l_said_by (T : Tx K mg) : List X → Option Rf := bodyF 5 [] (mb_l_said_by T)
theorem ok_l_said_by (T : Tx K mg) : FG P w K mg base 1 T.a_l_said_by T.fd_l_said_by P_l_said_by (spF K Lk0 2 [] (m_l_said_by T)) :=
  fun_okF T.F_l_said_by sc_l_said_by (by decide) fun cdv A outer s H E hr hc => by
    exact ⟨_, (pss_cons (ps_set (i := 2) sc_l_said_by.nd rfl (.inr rfl) (pe_op op_sub (pe_callB call_len_seq (by rfl) T.m_len (by decide +kernel) (pa_cons (pv 0) pa_nil)) pe_int))
      (pss_one (ps_ret (pe_lc (own := [("_law_at", 3), ("_law_name", 4)]) (g := gTup K 2 (gCons (gName 3) (gCons (gName 4) gNil))) (tt := tYes) rfl sc_l_said_by.nd (pi_enumT (by rfl) T.m_enumerate (pa_cons (pv 1) pa_nil)) (blkOk_by (N := N_l_said_by) (sc := defScope s_l_said_by) (by decide +kernel)) (fun _ _ _ _ _ => pg_tup (by rfl) (pgs_cons (pg_name (i := 3) sc_l_said_by.nd rfl (Or.inl rfl)) (pgs_cons (pg_name (i := 4) sc_l_said_by.nd rfl (Or.inl rfl)) pgs_nil))) (fun _ _ _ _ _ => pts_nil) (fun _ _ _ _ _ => (pe_tupF (pa_cons (pv 4) (pa_cons (pe_ifExp (pt_cmpR (op_eqD hr.units) (pv 3) (pv 2) (nomark _)) (pe_callB (show CallR _ (.builtin "len") (Evl.rLenS K) from call_len_seq) (by rfl) T.m_len (by decide +kernel) (pa_cons (pv 0) pa_nil)) (pe_op op_sub (pv 2) (pv 3))) pa_nil)))))))),
      (seq_S (set_S (up_D (op2_G o_sub (op1_of_lk lk_len lenG_flat (var_D (i := 0))) (c_D (Fz.int _)))) (nm_G (i := 2)) (by decide))
      (ret_S (lc_X (enumT_I (cons_A (var_D (i := 1)) nil_A)) (tup_G (cons_Gs (nm_G (i := 3)) (cons_Gs (nm_G (i := 4)) nil_Gs))) yes_T (a_tup (cons_A (var_D (i := 4)) (cons_A (if_G (test_T (op2_G o_eqD (var_D (i := 3)) (var_D (i := 2)))) (op1_of_lk lk_len lenG_flat (var_D (i := 0))) (op2_G o_sub (var_D (i := 2)) (var_D (i := 3)))) nil_A))) (by decide))))⟩
def el_l_needed1 (T : Tx K mg) : OM D := (mA tupA (m_cons (m_var 4) (m_cons (m_c (.int 1)) m_nil)))
def lp_l_needed2 (T : Tx K mg) : SM := (m_put 2 (m_var 4) (m_fr (m_call 2 (m_l_multiple T) (m_cons (ifAny 2 (m_getV 2 (m_var 4))) (m_cons (m_var 5) m_nil)))))
def lp_l_needed3 (T : Tx K mg) : SM := (m_for (m1 klist (m_fr (m_call 2 (m_l_said_by T) (m_cons (m_var 0) (m_cons (m2 ixT (m_fr (m_call 3 (m_l_goes T) (m_cons (m_var 0) (m_cons (m_var 1) (m_cons (m_var 3) m_nil))))) (m_c (.int 0))) m_nil))))) (g_tup 2 (g_cons (g_nm 4) (g_cons (g_nm 5) g_nil))) (lp_l_needed2 T))
def mb_l_needed (T : Tx K mg) : SM := (m_seq (m_set (m1 dictPG (m_fr (m_lc (m1 klist (m_var 0)) (g_nm 4) (m_k true) (el_l_needed1 T) [4]))) (g_nm 2))
      (m_seq (m_for (m1 klist (m_var 0)) (g_nm 3) (lp_l_needed3 T))
      (m_ret (m_mv 2))))
def m_l_needed (T : Tx K mg) : List X → Option Rf := bodyF 6 [] (mb_l_needed T)
theorem ok_l_needed (T : Tx K mg) : FG P w K mg base 3 T.a_l_needed T.fd_l_needed P_l_needed (spF K Lk0 2 [] (m_l_needed T)) :=
  fun_okF T.F_l_needed sc_l_needed (by decide) fun cdv A outer s H E hr hc => by
    have hu := hu_of hr
    exact ⟨_, (pss_cons (ps_set (i := 2) sc_l_needed.nd rfl (.inl rfl) (pe_callTy (call_dictP rfl) (by rfl) T.m_dict (by decide +kernel) (pa_cons (pe_lc (own := [("_law_name", 4)]) (g := gName 4) (tt := tYes) rfl sc_l_needed.nd (pi_list (pv 0)) (blkOk_by (N := N_l_needed) (sc := defScope s_l_needed) (by decide +kernel)) (fun _ _ _ _ _ => pg_name (i := 4) sc_l_needed.nd rfl (Or.inl rfl)) (fun _ _ _ _ _ => pts_nil) (fun _ _ _ _ _ => (pe_tupF (pa_cons (pv 4) (pa_cons pe_int pa_nil))))) pa_nil)))
      (pss_cons (ps_for (passes_of rfl) rfl (pi_list (pv 0)) (pg_name (i := 3) sc_l_needed.nd rfl (.inl rfl))
       (pss_one (ps_for (passes_of rfl) rfl (pi_list (pf_call (W := WD E) (ok_l_said_by T) (hr.mono (by decide)) hc (by rfl) T.g_l_said_by T.F_l_said_by.kp T.b_l_said_by (takes_of rfl rfl rfl rfl) (pa_cons (pv 0) (pa_cons (pe_ix ix_tup (pf_call (W := WD E) (ok_l_goes T) (hr.mono (by decide)) hc (by rfl) T.g_l_goes T.F_l_goes.kp T.b_l_goes (takes_of rfl rfl rfl rfl) (pa_cons (pv 0) (pa_cons (pv 1) (pa_cons (pv 3) pa_nil)))) pe_int (fun _ _ => rfl)) pa_nil)))) (pg_tup (by rfl) (pgs_cons (pg_name (i := 4) sc_l_needed.nd rfl (.inl rfl)) (pgs_cons (pg_name (i := 5) sc_l_needed.nd rfl (.inl rfl)) pgs_nil)))
         (pss_one (ps_dput hu (pv 2) (pv 4) (pf_call (W := WD E) (ok_l_multiple T) (hr.mono (by decide)) hc (by rfl) T.g_l_multiple T.F_l_multiple.kp T.b_l_multiple (takes_of rfl rfl rfl rfl) (pa_cons (pe_dget hu (pv 2) (pv 4) (fun _ _ => rfl)) (pa_cons (pv 5) pa_nil))) rfl)))))
      (pss_one (ps_ret (pv 2))))),
      (seq_S (set_S (dictP_X (fr_X (lc_X (list_I (var_D (i := 0))) (nm_G (i := 4)) yes_T (a_tup (cons_A (var_D (i := 4)) (cons_A (c_D (Fz.int _)) nil_A))) (by decide)))) (nm_G (i := 2)) (by decide))
      (seq_S (for_S (list_I (var_D (i := 0))) (nm_G (i := 3)) (for_S (list_I (fr_X (call_X (fun _ _ => trivial) (cons_A (var_D (i := 0)) (cons_A (op2_G o_ixT (fr_X (call_X (fun _ _ => trivial) (cons_A (var_D (i := 0)) (cons_A (var_D (i := 1)) (cons_A (var_D (i := 3)) nil_A))))) (c_D (Fz.int _))) nil_A))))) (tup_G (cons_Gs (nm_G (i := 4)) (cons_Gs (nm_G (i := 5)) nil_Gs))) (put_S (i := 2) (var_D (i := 4)) (fr_X (call_X (fun _ _ => trivial) (cons_A (dgetV_D (var_D (i := 4))) (cons_A (var_D (i := 5)) nil_A))))) (by decide)) (by decide))
      (ret_S (mv_X (i := 2)))))⟩
def el_l_all_rounds1 (T : Tx K mg) : OM D := (m_fr (m_call 3 (m_l_goes T) (m_cons (m_var 0) (m_cons (m_var 1) (m_cons (m_var 2) m_nil)))))
def mb_l_all_rounds (T : Tx K mg) : SM := (m_ret (m_lc (m1 klist (m_var 0)) (g_nm 2) (m_k true) (el_l_all_rounds1 T) [2]))
def m_l_all_rounds (T : Tx K mg) : List X → Option Rf := bodyF 3 [] (mb_l_all_rounds T)
theorem ok_l_all_rounds (T : Tx K mg) : FG P w K mg base 2 T.a_l_all_rounds T.fd_l_all_rounds P_l_all_rounds (spF K Lk0 2 [] (m_l_all_rounds T)) :=
  fun_okF T.F_l_all_rounds sc_l_all_rounds (by decide) fun cdv A outer s H E hr hc => by
    exact ⟨_, (pss_one (ps_ret (pe_lc (own := [("_law_begin_here", 2)]) (g := gName 2) (tt := tYes) rfl sc_l_all_rounds.nd (pi_list (pv 0)) (blkOk_by (N := N_l_all_rounds) (sc := defScope s_l_all_rounds) (by decide +kernel)) (fun _ _ _ _ _ => pg_name (i := 2) sc_l_all_rounds.nd rfl (Or.inl rfl)) (fun _ _ _ _ _ => pts_nil) (fun _ _ _ _ _ => (pf_call (W := W0) (ok_l_goes T) (hr.mono (by decide)) hc (by rfl) T.g_l_goes T.F_l_goes.kp T.b_l_goes takes0 (pa_cons (pv 0) (pa_cons (pv 1) (pa_cons (pv 2) pa_nil)))))))),
      (ret_S (lc_X (list_I (var_D (i := 0))) (nm_G (i := 2)) yes_T (fr_X (call_X (fun _ _ => trivial) (cons_A (var_D (i := 0)) (cons_A (var_D (i := 1)) (cons_A (var_D (i := 2)) nil_A))))) (by decide)))⟩
def mb_l_with (T : Tx K mg) : SM := (m_seq (m_set (m1 dictDG (m_var 0)) (g_nm 3))
      (m_seq (m_put 3 (m_var 1) (m_var 2))
      (m_ret (m_mv 3))))
def m_l_with (T : Tx K mg) : List X → Option Rf := bodyF 4 [] (mb_l_with T)
theorem ok_l_with (T : Tx K mg) : FG P w K mg base 1 T.a_l_with T.fd_l_with P_l_with (spF K Lk0 3 [] (m_l_with T)) :=
  fun_okF T.F_l_with sc_l_with (by decide) fun cdv A outer s H E hr hc => by
    have hu := hu_of hr
    exact ⟨_, (pss_cons (ps_set (i := 3) sc_l_with.nd rfl (.inl rfl) (pe_callTy call_dictD (by rfl) T.m_dict (by decide +kernel) (pa_cons (pv 0) pa_nil)))
      (pss_cons (ps_dput hu (pv 3) (pv 1) (pv 2) rfl)
      (pss_one (ps_ret (pv 3))))),
      (seq_S (set_S (dictD_X (var_D (i := 0))) (nm_G (i := 3)) (by decide))
      (seq_S (put_S (i := 3) (var_D (i := 1)) (var_D (i := 2)))
      (ret_S (mv_X (i := 3)))))⟩
def lp_l_none_less1 (T : Tx K mg) : SM := (m_if (m1 kbool (m2 (eqD false) (m_fr (m_call 2 (m_l_all_rounds T) (m_cons (m_var 1) (m_cons (m_fr (m_call 3 (m_l_with T) (m_cons (m_var 2) (m_cons (m_var 4) (m_cons (m_var 6) m_nil))))) m_nil)))) (m_var 3)))
      (m_ret (m_up (m_c (.bl false))))
      m_next)
def lp_l_none_less2 (T : Tx K mg) : SM := (m_seq (m_set (m1 rgG (mA (arg2 min2) (m_cons (m2 getG (m_var 2) (m_var 4)) (m_cons (m_c (.int 6)) m_nil)))) (g_nm 5))
      (m_seq (m_if (m1 kbool (m2 gtI (m2 getG (m_var 2) (m_var 4)) (m_c (.int 0))))
      (m_set (m2 catL (m_var 5) (m_fr (mA lstA (m_cons (m2 subI (m2 getG (m_var 2) (m_var 4)) (m_c (.int 1))) (m_cons (m_fr (m_call1 2 (m_l_draw T) 0 (m_cons (m2 getG (m_var 2) (m_var 4)) m_nil))) (m_cons (m2 divI (m2 getG (m_var 2) (m_var 4)) (m_c (.int 2))) m_nil)))))) (g_nm 5))
      m_next)
      (m_for (m1 klist (m_var 5)) (g_nm 6) (lp_l_none_less1 T))))
def mb_l_none_less (T : Tx K mg) : SM := (m_seq (m_for (m1 klist (m_fr (m_sl slL (m_fr (m_call1 2 (m_l_mixed T) 0 (m_cons (m_var 1) m_nil))) m_noPart (m1 kpart (m_c (.int 3)))))) (g_nm 4) (lp_l_none_less2 T))
      (m_ret (m_up (m_c (.bl true)))))
def m_l_none_less (T : Tx K mg) : List X → Option Rf := bodyF 7 [0] (mb_l_none_less T)
theorem ok_l_none_less (T : Tx K mg) : FG P w K mg base 3 T.a_l_none_less T.fd_l_none_less P_l_none_less (spF K Lk0 4 [0] (m_l_none_less T)) :=
  fun_okF T.F_l_none_less sc_l_none_less (by decide) fun cdv A outer s H E hr hc => by
    have hu := hu_of hr
    exact ⟨_, (pss_cons (ps_for (passes_of rfl) rfl (pi_list (pe_slice sl_list (pf_call (W := WD E) (ok_l_mixed T) (hr.mono (by decide)) hc (by rfl) T.g_l_mixed T.F_l_mixed.kp T.b_l_mixed (takes_of rfl rfl rfl rfl) (pa_cons (pv 0) (pa_cons (pv 1) pa_nil))) po_none (po_some pe_int))) (pg_name (i := 4) sc_l_none_less.nd rfl (.inl rfl))
       (pss_cons (ps_set (i := 5) sc_l_none_less.nd rfl (.inl rfl) (pe_listRg rfl (by rfl) T.m_list (prg_1 (by rfl) T.m_range (pe_callB (call_min2 rfl) (by rfl) T.m_min (by decide +kernel) (pa_cons (pe_dget hu (pv 2) (pv 4) (fun _ _ => rfl)) (pa_cons pe_int pa_nil))))))
        (pss_cons (ps_if (pt_cmpR op_gt (pe_dget hu (pv 2) (pv 4) (fun _ _ => rfl)) pe_int (nomark _))
         (pss_one (ps_set (i := 5) sc_l_none_less.nd rfl (.inl rfl) (pe_op op_cat (pv 5) (pe_lst (pa_cons (pe_op op_sub (pe_dget hu (pv 2) (pv 4) (fun _ _ => rfl)) pe_int) (pa_cons (pf_call (W := WD E) (ok_l_draw T) (hr.mono (by decide)) hc (by rfl) T.g_l_draw T.F_l_draw.kp T.b_l_draw (takes_of rfl rfl rfl rfl) (pa_cons (pv 0) (pa_cons (pe_dget hu (pv 2) (pv 4) (fun _ _ => rfl)) pa_nil))) (pa_cons (pe_op op_fdivW (pe_dget hu (pv 2) (pv 4) (fun _ _ => rfl)) pe_int) pa_nil)))))))
         pss_nil)
        (pss_one (ps_for (passes_of rfl) rfl (pi_list (pv 5)) (pg_name (i := 6) sc_l_none_less.nd rfl (.inl rfl))
         (pss_one (ps_if (pt_cmpR (op_eqD hr.units) (pf_call (W := WD E) (ok_l_all_rounds T) (hr.mono (by decide)) hc (by rfl) T.g_l_all_rounds T.F_l_all_rounds.kp T.b_l_all_rounds (takes_of rfl rfl rfl rfl) (pa_cons (pv 1) (pa_cons (pf_call (W := WD E) (ok_l_with T) (hr.mono (by decide)) hc (by rfl) T.g_l_with T.F_l_with.kp T.b_l_with (takes_of rfl rfl rfl rfl) (pa_cons (pv 2) (pa_cons (pv 4) (pa_cons (pv 6) pa_nil)))) pa_nil))) (pv 3) (nomark _))
           (pss_one (ps_ret pe_bl))
           pss_nil)))))))
      (pss_one (ps_ret pe_bl))),
      (seq_S (for_S (list_I (fr_X (sl_G o_slL (fr_X (call1_X (i := 0) (fun _ _ => trivial) (cons_A (var_D (i := 1)) nil_A))) none_O (some_O (c_D (Fz.int _)))))) (nm_G (i := 4)) (seq_S (set_S (listRg_X (min2_D (cons_A (dget_D (var_D (i := 2)) (var_D (i := 4))) (cons_A (c_D (Fz.int _)) nil_A)))) (nm_G (i := 5)) (by decide))
      (seq_S (if_S (test_T (op2_G o_gt (dget_D (var_D (i := 2)) (var_D (i := 4))) (c_D (Fz.int _)))) (set_S (op2_G o_catL (var_D (i := 5)) (fr_X (a_lst (cons_A (op2_G o_sub (dget_D (var_D (i := 2)) (var_D (i := 4))) (c_D (Fz.int _))) (cons_A (fr_X (call1_X (i := 0) (fun _ _ => trivial) (cons_A (dget_D (var_D (i := 2)) (var_D (i := 4))) nil_A))) (cons_A (op2_G o_divW (dget_D (var_D (i := 2)) (var_D (i := 4))) (c_D (Fz.int _))) nil_A)))))) (nm_G (i := 5)) (by decide)) next_S)
      (for_S (list_I (var_D (i := 5))) (nm_G (i := 6)) (if_S (test_T (op2_G o_eqD (fr_X (call_X (fun _ _ => trivial) (cons_A (var_D (i := 1)) (cons_A (fr_X (call_X (fun _ _ => trivial) (cons_A (var_D (i := 2)) (cons_A (var_D (i := 4)) (cons_A (var_D (i := 6)) nil_A))))) nil_A)))) (var_D (i := 3)))) (ret_S (up_D (c_D (Fz.bl _)))) next_S) (by decide)))) (by decide))
      (ret_S (up_D (c_D (Fz.bl _)))))⟩
def mb_Ring_eq (T : Tx K mg) : SM := (m_ret (m_up (m_ite (m1 kbool (m1 (isiC T.a_Ring) (m_var 1))) (m_ite (m1 kbool (m2 (eqD false) (m1 (fldG T.a_Ring "_names") (m_var 0)) (m1 (fldG T.a_Ring "_names") (m_var 1)))) (m2 (eqKD false) (m1 (fldG T.a_Ring "_slips") (m_var 0)) (m1 (fldG T.a_Ring "_slips") (m_var 1))) (m_k (.bl false))) (m_k (.bl false)))))
def m_Ring_eq (T : Tx K mg) : List X → Option Rf := bodyF 2 [] (mb_Ring_eq T)
theorem ok_Ring_eq (T : Tx K mg) : FG P w K mg base 1 T.a_Ring_eq T.fd_Ring_eq P_Ring_eq (spF K Lk0 2 [] (m_Ring_eq T)) :=
  fun_okF T.F_Ring_eq sc_Ring_eq (by decide) fun cdv A outer s H E hr hc => by
    exact ⟨_, (pss_one (ps_ret (pe_and (pe_callB (C8.call_isC T.is_Ring) (by rfl) T.m_isinstance (by decide +kernel) (pa_cons (pv 1) (pa_cons (C8.pe_gc (v := .ref T.a_Ring) rfl ⟨_, T.g_Ring, rfl⟩) pa_nil))) (pe_and (pe_cmpR (op_eqD hr.units) (pe_fld (pv 0) rfl) (pe_fld (pv 1) rfl) (nomark _)) (pe_one (pe_cmpR (GL.op_eqK (GL.u66 hr)) (pe_fld (pv 0) rfl) (pe_fld (pv 1) rfl) (nomark _))))))),
      (ret_S (up_D (and_D (isiC_D (var_D (i := 1))) (and_D (op2_G o_eqD (fld_D T.cl_Ring T.n_Ring__names (var_D (i := 0))) (fld_D T.cl_Ring T.n_Ring__names (var_D (i := 1)))) (op2_G o_eqK (fld_D T.cl_Ring T.n_Ring__slips (var_D (i := 0))) (fld_D T.cl_Ring T.n_Ring__slips (var_D (i := 1))))))))⟩
end
end K31
namespace K31
open PySem PySem.Spec PyProof.Rows L2 GF GD
section
variable {P : Program} {w : World} {K : PySem.W.Frag} {mg : Str → Option Value} {base : Heap}
def el_law1 (T : Tx K mg) : OM D := (mA tupA (m_cons (m_var 11) (m_cons (m2 modI (m2 getG (m_var 4) (m_var 11)) (m2 getG (m_var 6) (m_var 11))) m_nil)))
def lp_law2 (T : Tx K mg) : SM := (m_seq (m_set (m_call1 2 (m_l_crew T) 1 (m_cons (m2 addI (m_c (.int 2)) (m_fr (m_call1 2 (m_l_draw T) 1 (m_cons (m_c (.int 11)) m_nil)))) m_nil)) (g_nm 3))
      (m_seq (m_set (m_call1 2 (m_l_marks T) 1 (m_cons (m_var 3) m_nil)) (g_nm 4))
      (m_seq (m_parT 5 6 (m_make T.a_Ring 3 (m_Ring_init T) (m_cons (m_var 3) (m_cons (m_var 4) m_nil))) (m_call 2 (m_l_needed T) (m_cons (m_var 3) (m_cons (m_var 4) m_nil))))
      (m_seq (m_set (m_call 1 (m_least_of T) (m_cons (m_var 5) m_nil)) (g_nm 7))
      (m_seq (m_if (m_ite (m_not (m1 kbool (m1 (isiC T.a_Ring) (m_var 7)))) (m_k true) (m_ite (m1 kbool (m2 (eqD true) (m_fr (m_meth T.a_Ring "names" 1 (m_Ring_names T) (m_var 7) m_nil)) (m_var 3))) (m_k true) (m1 kbool (m2 (eqKD true) (m_fr (m_meth T.a_Ring "slips" 1 (m_Ring_slips T) (m_var 5) m_nil)) (m_var 4)))))
      (m_ret (m_up (m_c (.bl false))))
      m_next)
      (m_seq (m_par 8 9 (m_meth T.a_Ring "slips" 1 (m_Ring_slips T) (m_var 7) m_nil) (m1 dictPG (m_fr (m_lc (m1 klist (m_var 3)) (g_nm 11) (m_k true) (el_law1 T) [11]))))
      (m_seq (m_if (m_ite (m1 kbool (m2 (eqD true) (m1 reprDG (m_var 8)) (m1 reprDG (m_var 9)))) (m_k true) (m_not (m1 kbool (m_eqM T.a_Ring (m_Ring_eq T) (m_fr (m_callK0 1 (m_least_of T) [0] 1 (m_cons (m_var 7) m_nil))) (m_var 7)))))
      (m_ret (m_up (m_c (.bl false))))
      m_next)
      (m_seq (m_set (m_call 2 (m_l_all_rounds T) (m_cons (m_var 3) (m_cons (m_var 8) m_nil))) (g_nm 10))
      (m_if (m_ite (m1 kbool (m2 (eqD true) (m_var 10) (m_fr (m_call 2 (m_l_all_rounds T) (m_cons (m_var 3) (m_cons (m_var 4) m_nil)))))) (m_k true) (m_not (m1 kbool (m_fr (m_call1 4 (m_l_none_less T) 1 (m_cons (m_var 3) (m_cons (m_var 8) (m_cons (m_var 10) m_nil))))))))
      (m_ret (m_up (m_c (.bl false))))
      m_next)))))))))
def mb_law (T : Tx K mg) : SM := (m_seq (m_set (m_call 1 (m_l_begin T) (m_cons (m_var 0) m_nil)) (g_nm 1))
      (m_seq (m_for (mA krng1 (m_cons (m2 addI (m_c (.int 2)) (mA (arg2 min2) (m_cons (m1 lenG (m_var 0)) (m_cons (m_c (.int 4)) m_nil)))) m_nil)) (g_nm 2) (lp_law2 T))
      (m_ret (m_up (m_c (.bl true))))))
def m_law (T : Tx K mg) : List X → Option Rf := bodyF 12 [] (mb_law T)
theorem ok_law (T : Tx K mg) : FG P w K mg base 8 T.a_law T.fd_law P_law (spF K Lk0 1 [] (m_law T)) :=
  fun_okF T.F_law sc_law (by decide) fun cdv A outer s H E hr hc => by
    have hu := hu_of hr
    exact ⟨_, (pss_cons (ps_set (i := 1) sc_law.nd rfl (.inl rfl) (pf_call (W := WD E) (ok_l_begin T) (hr.mono (by decide)) hc (by rfl) T.g_l_begin T.F_l_begin.kp T.b_l_begin (takes_of rfl rfl rfl rfl) (pa_cons (pv 0) pa_nil)))
      (pss_cons (ps_for (passes_of rfl) rfl (pi_range1 (by rfl) T.m_range (pa_cons (pe_op op_add pe_int (pe_callB (call_min2 rfl) (by rfl) T.m_min (by decide +kernel) (pa_cons (pe_callB call_len_seq (by rfl) T.m_len (by decide +kernel) (pa_cons (pv 0) pa_nil)) (pa_cons pe_int pa_nil)))) pa_nil)) (pg_name (i := 2) sc_law.nd rfl (.inl rfl))
       (pss_cons (ps_set (i := 3) sc_law.nd rfl (.inl rfl) (pf_call (W := WD E) (ok_l_crew T) (hr.mono (by decide)) hc (by rfl) T.g_l_crew T.F_l_crew.kp T.b_l_crew (takes_of rfl rfl rfl rfl) (pa_cons (pv 1) (pa_cons (pe_op op_add pe_int (pf_call (W := WD E) (ok_l_draw T) (hr.mono (by decide)) hc (by rfl) T.g_l_draw T.F_l_draw.kp T.b_l_draw (takes_of rfl rfl rfl rfl) (pa_cons (pv 1) (pa_cons pe_int pa_nil)))) pa_nil))))
        (pss_cons (ps_set (i := 4) sc_law.nd rfl (.inr rfl) (pf_call (W := WD E) (ok_l_marks T) (hr.mono (by decide)) hc (by rfl) T.g_l_marks T.F_l_marks.kp T.b_l_marks (takes_of rfl rfl rfl rfl) (pa_cons (pv 1) (pa_cons (pv 3) pa_nil))))
        (pss_cons (ps_asg (pe_tupF (pa_cons (pf_make (W := WD E) T.M_Ring (ok_Ring_init T) (hr.mono (by decide)) hc rfl T.g_Ring T.b_Ring_init (takes_of rfl rfl rfl rfl) (pa_cons (pv 3) (pa_cons (pv 4) pa_nil))) (pa_cons (pf_call (W := WD E) (ok_l_needed T) (hr.mono (by decide)) hc (by rfl) T.g_l_needed T.F_l_needed.kp T.b_l_needed (takes_of rfl rfl rfl rfl) (pa_cons (pv 3) (pa_cons (pv 4) pa_nil))) pa_nil))) (pg_tup (by rfl) (pgs_cons (pg_name (i := 5) sc_law.nd rfl (.inl rfl)) (pgs_cons (pg_name (i := 6) sc_law.nd rfl (.inr rfl)) pgs_nil))))
        (pss_cons (ps_set (i := 7) sc_law.nd rfl (.inl rfl) (pf_call (W := WD E) (ok_least_of T) (hr.mono (by decide)) hc (by rfl) T.g_least_of T.F_least_of.kp T.b_least_of (takes_of rfl rfl rfl rfl) (pa_cons (pv 5) pa_nil)))
        (pss_cons (ps_if (PW.pt (pw_or (pt_not (pt_val (pe_callB (C8.call_isC T.is_Ring) (by rfl) T.m_isinstance (by decide +kernel) (pa_cons (pv 7) (pa_cons (C8.pe_gc (v := .ref T.a_Ring) rfl ⟨_, T.g_Ring, rfl⟩) pa_nil))))) (pw_or (pt_cmpR (op_neD hr.units) (pf_meth0 (W := WD E) (pv 7) T.cl_Ring T.mt_Ring_names (ok_Ring_names T) (hr.mono (by decide)) hc T.b_Ring_names (takes_of rfl rfl rfl rfl)) (pv 3) (nomark _)) (pw_or1 (pt_cmpR (GL.op_neK (GL.u66 hr)) (pf_meth0 (W := WD E) (pv 5) T.cl_Ring T.mt_Ring_slips (ok_Ring_slips T) (hr.mono (by decide)) hc T.b_Ring_slips (takes_of rfl rfl rfl rfl)) (pv 4) (nomark _))))))
         (pss_one (ps_ret pe_bl))
         pss_nil)
        (pss_cons (ps_par (i := 8) (j := 9) (by rfl) sc_law.nd rfl rfl (by decide) rfl rfl (pa_cons (pf_meth0 (W := WD E) (pv 7) T.cl_Ring T.mt_Ring_slips (ok_Ring_slips T) (hr.mono (by decide)) hc T.b_Ring_slips (takes_of rfl rfl rfl rfl)) (pa_cons (pe_callTy (call_dictP rfl) (by rfl) T.m_dict (by decide +kernel) (pa_cons (pe_lc (own := [("_law_name", 11)]) (g := gName 11) (tt := tYes) rfl sc_law.nd (pi_list (pv 3)) (blkOk_by (N := N_law) (sc := defScope s_law) (by decide +kernel)) (fun _ _ _ _ _ => pg_name (i := 11) sc_law.nd rfl (Or.inl rfl)) (fun _ _ _ _ _ => pts_nil) (fun _ _ _ _ _ => (pe_tupF (pa_cons (pv 11) (pa_cons (pe_op op_mod (pe_dget hu (pv 4) (pv 11) (fun _ _ => rfl)) (pe_dget hu (pv 6) (pv 11) (fun _ _ => rfl))) pa_nil))))) pa_nil)) pa_nil)) (by rfl))
        (pss_cons (ps_if (PW.pt (pw_or (pt_cmpR (op_neD hr.units) (pe_callB (GL.call_reprD hr.units hc) (by rfl) T.m_repr (by decide +kernel) (pa_cons (pv 8) pa_nil)) (pe_callB (GL.call_reprD hr.units hc) (by rfl) T.m_repr (by decide +kernel) (pa_cons (pv 9) pa_nil)) (nomark _)) (pw_or1 (pt_not (pt_cmpR (op_eqM (ok_Ring_eq T) (hr.mono (by decide)) hc T.mt_Ring_eq T.b_Ring_eq) (pf_callK0 (W := WD E) (ok_least_of T) (hr.mono (by decide)) hc (by rfl) T.g_least_of T.F_least_of.kp T.kb_least_of (takes_of rfl rfl rfl rfl) (pk_cons (pv 7) pk_nil)) (pv 7) (nomark _))))))
         (pss_one (ps_ret pe_bl))
         pss_nil)
        (pss_cons (ps_set (i := 10) sc_law.nd rfl (.inl rfl) (pf_call (W := WD E) (ok_l_all_rounds T) (hr.mono (by decide)) hc (by rfl) T.g_l_all_rounds T.F_l_all_rounds.kp T.b_l_all_rounds (takes_of rfl rfl rfl rfl) (pa_cons (pv 3) (pa_cons (pv 8) pa_nil))))
        (pss_one (ps_if (PW.pt (pw_or (pt_cmpR (op_neD hr.units) (pv 10) (pf_call (W := WD E) (ok_l_all_rounds T) (hr.mono (by decide)) hc (by rfl) T.g_l_all_rounds T.F_l_all_rounds.kp T.b_l_all_rounds (takes_of rfl rfl rfl rfl) (pa_cons (pv 3) (pa_cons (pv 4) pa_nil))) (nomark _)) (pw_or1 (pt_not (pt_val (pf_call (W := WD E) (ok_l_none_less T) (hr.mono (by decide)) hc (by rfl) T.g_l_none_less T.F_l_none_less.kp T.b_l_none_less (takes_of rfl rfl rfl rfl) (pa_cons (pv 1) (pa_cons (pv 3) (pa_cons (pv 8) (pa_cons (pv 10) pa_nil))))))))))
         (pss_one (ps_ret pe_bl))
         pss_nil)))))))))))
      (pss_one (ps_ret pe_bl)))),
      (seq_S (set_S (call_X (fun _ _ => trivial) (cons_A (var_D (i := 0)) nil_A)) (nm_G (i := 1)) (by decide))
      (seq_S (for_S (rng1_I (cons_A (op2_G o_add (c_D (Fz.int _)) (min2_D (cons_A (op1_of_lk lk_len lenG_flat (var_D (i := 0))) (cons_A (c_D (Fz.int _)) nil_A)))) nil_A)) (nm_G (i := 2)) (seq_S (set_S (call1_X (i := 1) (fun _ _ => trivial) (cons_A (op2_G o_add (c_D (Fz.int _)) (fr_X (call1_X (i := 1) (fun _ _ => trivial) (cons_A (c_D (Fz.int _)) nil_A)))) nil_A)) (nm_G (i := 3)) (by decide))
      (seq_S (set_S (call1_X (i := 1) (fun _ _ => trivial) (cons_A (var_D (i := 3)) nil_A)) (nm_G (i := 4)) (by decide))
      (seq_S (parT_S (by decide) (by decide) (make_X (fun _ _ => trivial) (cons_A (var_D (i := 3)) (cons_A (var_D (i := 4)) nil_A))) (call_X (fun _ _ => trivial) (cons_A (var_D (i := 3)) (cons_A (var_D (i := 4)) nil_A))))
      (seq_S (set_S (call_X (fun _ _ => trivial) (cons_A (var_D (i := 5)) nil_A)) (nm_G (i := 7)) (by decide))
      (seq_S (if_S (or_T (not_T (val_T (isiC_D (var_D (i := 7))))) (or_T (test_T (op2_G o_neD (fr_X (meth_X (fun _ _ => trivial) (var_D (i := 7)) nil_A)) (var_D (i := 3)))) (test_T (op2_G o_neK (fr_X (meth_X (fun _ _ => trivial) (var_D (i := 5)) nil_A)) (var_D (i := 4)))))) (ret_S (up_D (c_D (Fz.bl _)))) next_S)
      (seq_S (par_S (by decide) (by decide) (meth_X (fun _ _ => trivial) (var_D (i := 7)) nil_A) (dictP_X (fr_X (lc_X (list_I (var_D (i := 3))) (nm_G (i := 11)) yes_T (a_tup (cons_A (var_D (i := 11)) (cons_A (op2_G o_mod (dget_D (var_D (i := 4)) (var_D (i := 11))) (dget_D (var_D (i := 6)) (var_D (i := 11)))) nil_A))) (by decide)))))
      (seq_S (if_S (or_T (test_T (op2_G o_neD (op1_of_lk lk_reprD reprDG_flat (var_D (i := 8))) (op1_of_lk lk_reprD reprDG_flat (var_D (i := 9))))) (not_T (test_T (eqM_D (fun _ _ => trivial) (fr_X (callK0_X (fun _ _ => trivial) (cons_A (var_D (i := 7)) nil_A))) (var_D (i := 7)))))) (ret_S (up_D (c_D (Fz.bl _)))) next_S)
      (seq_S (set_S (call_X (fun _ _ => trivial) (cons_A (var_D (i := 3)) (cons_A (var_D (i := 8)) nil_A))) (nm_G (i := 10)) (by decide))
      (if_S (or_T (test_T (op2_G o_neD (var_D (i := 10)) (fr_X (call_X (fun _ _ => trivial) (cons_A (var_D (i := 3)) (cons_A (var_D (i := 4)) nil_A)))))) (not_T (val_T (fr_X (call1_X (i := 1) (fun _ _ => trivial) (cons_A (var_D (i := 3)) (cons_A (var_D (i := 8)) (cons_A (var_D (i := 10)) nil_A)))))))) (ret_S (up_D (c_D (Fz.bl _)))) next_S))))))))) (by decide))
      (ret_S (up_D (c_D (Fz.bl _))))))⟩
end
end K31
namespace K31
open PySem PySem.Spec PyProof.Rows L2 GF GD GL
local macro_rules
  | `(tactic| simp! [$ls,*]) => `(tactic| simp only [m_seq, m_set, m_up, m_fr, m1, m2, k2, mA, m_var, m_mv, m_c, m_k, m_ite, kif, m_if, kifS, m_not, m_ret, kret, m_drop, kdrop, m_cons, kc, kc2, m_nil, m_call, kcall, bnd_ok, bnd_ex, bndS_ok, bndS_ex, seqS_nx, seqS_rt, seqS_bk, seqS_ct, seqS_ex, loopS_nx, loopS_rt, loopS_ct, loopS_bk,
  un?, gt, st', kset, g_nm, g_tup, g_cons, g_nil, knot, kdrop, ifAny, ifOl, lkOl, m_r2, m_l2, m_l1, kv1, kv2, kix, m_ixV, m_append, kap, m_sl, ks0, ks1, ks2, m_noPart, kpart, m_on, kon2, isLst, isTup, isStr, m_or, isTupX, m_call1, kcall1, m_callN, kcallN, kcallN1, appD, m_callB, kcallB, m_meth, kmeth, m_make, kmake, m_makeB, kmakeB, m_par, kpar1, kpar2, m_par3, kpar3, m_parT, kparT, m_consX, m_nilX, kXs, kXs2, m_st, kst, m_setF, m_fldV, m_getV, kgetV, m_put, kput, kput2, m_reverse, m_clear, m_for, klist, ktup, kseq_l, kseq_t, m_lc, m_dc, m_while, m_brk, m_cnt, m_next, m_chain, kch0, kch1, kch, GD.intOp, leI, ltI, geI, gtI, addI, subI, modI, kbool, knotD, isiG, lenG, eqD_int, finF, colE, frz, Option.map_some, List.length_cons, List.length_nil, List.map_cons, List.map_nil, Bool.false_xor, Bool.true_xor, Bool.not_true, Bool.not_false, decide_true, decide_false, ite_true, ite_false, reduceIte, if_true, if_false, eq_self, Bool.false_eq_true, true_and, and_true, GD.flat_strs, Option.isNone_none, Nat.reduceAdd, Nat.reduceSub, Nat.reduceMul, Nat.reduceLT, Nat.reduceEqDiff, Int.reduceEq, Int.reduceLT, Int.reduceLE, Int.reduceAdd, Int.reduceSub, Int.reduceNeg, Int.cast_ofNat_Int, Int.natCast_zero, Int.natCast_one, $ls,*])

section
variable {K : PySem.W.Frag} {mg : Str → Option Value} (T : Tx K mg)
theorem is_number_ok (z : Int) : m_is_number T [.fz (.int z)] = some (.ok (.fz (.bl true)) []) := rfl
theorem is_name_ok {z : Str} (h : NameOk z) : m_is_name T [.fz (.str z)] = some (.ok (.fz (.bl true)) []) := by
  show finF [] (mb_is_name T [some (.fz (.str z)), none]) = _
  unfold mb_is_name
  have hz : z.length = z.cps.toList.length := Array.length_toList.symm
  have hl : lenS (.str z) = some (.int (z.length : Nat)) := by
    unfold lenS
    simp only
    rw [if_pos (Nat.le_trans h.len (by decide))]
  have h1 : (1 : Int) ≤ (z.length : Nat) := by have := h.1; omega
  have h8 : ((z.length : Nat) : Int) ≤ 8 := by have := h.len; omega
  have e := lc_map (mg := g_nm 1) (mt := m_k true) (me := el_is_name1 T) (vs := [1]) (e0 := [some (.fz (.str z)), none]) (fun _ => .bl true) (z.cps.toList.map fun c => D.str ⟨#[c]⟩) (fun d hd => by
    obtain ⟨c, hc, rfl⟩ := List.mem_map.mp hd
    refine ⟨[some (.fz (.str z)), some (.fz (.str ⟨#[c]⟩))], ?_, rfl⟩
    unfold lcT el_is_name1
    have hm : c ∈ ("abcdefghijklmnopqrstuvwxyz" : Str).cps.toList := abc_mem.mpr (h.2.2 c hc)
    simp! [inSign, hm]) (by rw [List.length_map]; exact small_sz (by have := h.2.1; omega))
  have k : kstr (.str z) = some (z.cps.toList.map fun c => D.str ⟨#[c]⟩) := rfl
  simp! [hl, h1, h8, k, wpE, e, all_true_bl]
theorem names_e {ns : List Str} (g : GoodNs ns) (x : D) : lcL (g_nm 1) (m_k true) (el_is_names1 T) [1] (strD ns) [] [some (.fz x), none] = some (.ok (.ol ((strD ns).map fun _ => D.bl true)) [some (.fz x), none]) :=
  lc_map (fun _ => .bl true) (strD ns) (fun d hd => by
    obtain ⟨c, hc, rfl⟩ := List.mem_map.mp hd
    refine ⟨[some (.fz x), some (.fz (.str c))], ?_, rfl⟩
    unfold lcT el_is_names1
    simp! [is_name_ok T (g.ok c hc)]) (by rw [List.length_map]; exact small_sz (by have := g.twelve; omega))
theorem setG_l {ns : List Str} (g : GoodNs ns) : setG (.lst (strD ns)) = some (.int (ns.length : Nat)) := by
  unfold setG
  simp only [strsOf_strs]
  rw [if_pos (by have := g.twelve; omega), GSet.firsts_of_nodup g.nd]
theorem setG_t {ns : List Str} (hn : ns.Nodup) (hl : ns.length ≤ 100) : setG (.tup (strD ns)) = some (.int (ns.length : Nat)) := by
  unfold setG
  simp only [strsOf_strs]
  rw [if_pos (by omega), GSet.firsts_of_nodup hn]
theorem is_names_l {ns : List Str} (g : GoodNs ns) : m_is_names T [.fz (.lst (strD ns))] = some (.ok (.fz (.bl true)) []) := by
  show finF [] (mb_is_names T [some (.fz (.lst (strD ns))), none]) = _
  unfold mb_is_names
  have h2 : (2 : Int) ≤ (ns.length : Nat) := by have := g.two; omega
  have h12 : ((ns.length : Nat) : Int) ≤ 12 := by have := g.twelve; omega
  simp! [isiLT, lenA, List.length_map, h2, h12, wpE, names_e T g, all_true_bl, setG_l g]
theorem is_names_t {ns : List Str} (g : GoodNs ns) : m_is_names T [.fz (.tup (strD ns))] = some (.ok (.fz (.bl true)) []) := by
  show finF [] (mb_is_names T [some (.fz (.tup (strD ns))), none]) = _
  unfold mb_is_names
  have h2 : (2 : Int) ≤ (ns.length : Nat) := by have := g.two; omega
  have h12 : ((ns.length : Nat) : Int) ≤ 12 := by have := g.twelve; omega
  simp! [isiLT, lenA, List.length_map, h2, h12, wpE, names_e T g, all_true_bl, setG_t g.nd (by have := g.twelve; omega)]
theorem check_names_l {ns : List Str} (g : GoodNs ns) : m_check_names T [.fz (.lst (strD ns))] = some (.ok (.fz .non) []) := by
  show finF [] (mb_check_names T [some (.fz (.lst (strD ns)))]) = _
  unfold mb_check_names
  simp! [is_names_l T g]
theorem check_name_l {ns : List Str} {x : Str} (h : x ∈ ns) : m_check_name T [.fz (.lst (strD ns)), .fz (.str x)] = some (.ok (.fz .non) []) := by
  show finF [] (mb_check_name T [some (.fz (.lst (strD ns))), some (.fz (.str x))]) = _
  unfold mb_check_name
  simp! [inF_lst, h]
theorem check_name_t {ns : List Str} {x : Str} (h : x ∈ ns) : m_check_name T [.fz (.tup (strD ns)), .fz (.str x)] = some (.ok (.fz .non) []) := by
  show finF [] (mb_check_name T [some (.fz (.tup (strD ns))), some (.fz (.str x))]) = _
  unfold mb_check_name
  simp! [inF_tup, h]
/-- a dict of slips -/
structure SlD (kds : List (Key × D)) (ns : List Str) (sl : Str → Int) : Prop where
  len : kds.length = ns.length
  at_ : ∀ n ∈ ns, valG kds (Sum.inr n : Key) = some (.int (sl n))
theorem getG_ok {kds : List (Key × D)} {ns : List Str} {sl : Str → Int} (h : SlD kds ns sl) {x : Str} (hx : x ∈ ns) : getG (.dic kds) (.str x) = some (.int (sl x)) := by
  unfold getG
  simp only [toK, h.at_ x hx]
theorem is_slips_ok {ns : List Str} {kds : List (Key × D)} {sl : Str → Int} (g : GoodNs ns) (h : SlD kds ns sl) : m_is_slips T [.fz (.lst (strD ns)), .fz (.dic kds)] = some (.ok (.fz (.bl true)) []) := by
  show finF [] (mb_is_slips T [some (.fz (.lst (strD ns))), some (.fz (.dic kds)), none]) = _
  unfold mb_is_slips
  have e := lc_map (mg := g_nm 2) (mt := m_k true) (me := el_is_slips1 T) (vs := [2]) (e0 := [some (.fz (.lst (strD ns))), some (.fz (.dic kds)), none]) (fun _ => .bl true) (strD ns) (fun d hd => by
    obtain ⟨c, hc, rfl⟩ := List.mem_map.mp hd
    refine ⟨[some (.fz (.lst (strD ns))), some (.fz (.dic kds)), some (.fz (.str c))], ?_, rfl⟩
    unfold lcT el_is_slips1
    have hd : dinG false (.str c) (.dic kds) = some (.bl true) := by
      unfold dinG
      simp only [toK, h.at_ c hc]
      rfl
    simp! [hd, getG_ok h hc, is_number_ok]) (by rw [List.length_map]; exact small_sz (by have := g.twelve; omega))
  simp! [lenDG, h.len, List.length_map, wpE, e, all_true_bl]
theorem behind_l {ns : List Str} {x : Str} (h : x ∈ ns) (hl : ns.length ≤ 100) : m_listed_behind T [.fz (.lst (strD ns)), .fz (.str x)] = some (.ok (.ol (strD (rot ns x))) []) := by
  show finF [] (mb_listed_behind T [some (.fz (.lst (strD ns))), some (.fz (.str x)), none]) = _
  unfold mb_listed_behind
  have hz : (cutG (strD ns) (some (((ns.idxOf x : Nat) : Int) + 1)) none).length + (cutG (strD ns) none (some (((ns.idxOf x : Nat) : Int) + 1))).length ≤ sizeLine := by
    rw [show ((ns.idxOf x : Nat) : Int) + 1 = ((ns.idxOf x + 1 : Nat) : Int) from by omega, cutG_take, cutG_drop, List.length_take, List.length_drop, List.length_map]
    exact small_sz (by omega)
  have hr : cutG (strD ns) (some (((ns.idxOf x : Nat) : Int) + 1)) none ++ cutG (strD ns) none (some (((ns.idxOf x : Nat) : Int) + 1)) = strD (rot ns x) := by
    rw [show ((ns.idxOf x : Nat) : Int) + 1 = ((ns.idxOf x + 1 : Nat) : Int) from by omega, cutG_take, cutG_drop]
    unfold rot
    rw [strD, strD, List.map_append, List.map_drop, List.map_take]
  simp! [idxL_ok h, slL, catL, hz, hr]
theorem behind_t {ns : List Str} {x : Str} (h : x ∈ ns) (hl : ns.length ≤ 100) : m_listed_behind T [.fz (.tup (strD ns)), .fz (.str x)] = some (.ok (.fz (.tup (strD (rot ns x)))) []) := by
  show finF [] (mb_listed_behind T [some (.fz (.tup (strD ns))), some (.fz (.str x)), none]) = _
  unfold mb_listed_behind
  have hz : (cutG (strD ns) (some (((ns.idxOf x : Nat) : Int) + 1)) none).length + (cutG (strD ns) none (some (((ns.idxOf x : Nat) : Int) + 1))).length ≤ sizeLine := by
    rw [show ((ns.idxOf x : Nat) : Int) + 1 = ((ns.idxOf x + 1 : Nat) : Int) from by omega, cutG_take, cutG_drop, List.length_take, List.length_drop, List.length_map]
    exact small_sz (by omega)
  have hr : cutG (strD ns) (some (((ns.idxOf x : Nat) : Int) + 1)) none ++ cutG (strD ns) none (some (((ns.idxOf x : Nat) : Int) + 1)) = strD (rot ns x) := by
    rw [show ((ns.idxOf x : Nat) : Int) + 1 = ((ns.idxOf x + 1 : Nat) : Int) from by omega, cutG_take, cutG_drop]
    unfold rot
    rw [strD, strD, List.map_append, List.map_drop, List.map_take]
  simp! [idxT_ok h, slT, catT, hz, hr]
theorem behind_ok (b : Bool) {ns : List Str} {x : Str} (h : x ∈ ns) (hl : ns.length ≤ 100) : ∃ y, m_listed_behind T [.fz (seqD b (strD ns)), .fz (.str x)] = some (.ok y []) ∧ frz y = seqD b (strD (rot ns x)) := by
  cases b
  · exact ⟨_, behind_l T h hl, rfl⟩
  · exact ⟨_, behind_t T h hl, rfl⟩
theorem sit_ok (b c : Bool) {ns found : List Str} {x : Str} (h : x ∈ ns) (hl : ns.length ≤ 100) : m_who_sit T [.fz (seqD b (strD ns)), .fz (seqD c (strD (found ++ [x])))] = some (.ok (.ol (strD (sitting ns (found ++ [x]) x))) []) := by
  show finF [] (mb_who_sit T [some (.fz (seqD b (strD ns))), some (.fz (seqD c (strD (found ++ [x])))), none]) = _
  unfold mb_who_sit
  obtain ⟨y, hy, hf⟩ := behind_ok T b h hl
  have e := lc_filter (mg := g_nm 2) (mt := if_who_sit2 T) (me := el_who_sit1 T) (vs := [2]) (e0 := [some (.fz (seqD b (strD ns))), some (.fz (seqD c (strD (found ++ [x])))), none]) (fun d => match d with | .str s => !decide (s ∈ found ++ [x]) | _ => false) (strD (rot ns x)) (fun d hd => by
    obtain ⟨s, hs, rfl⟩ := List.mem_map.mp hd
    refine ⟨[some (.fz (seqD b (strD ns))), some (.fz (seqD c (strD (found ++ [x])))), some (.fz (.str s))], ?_, rfl⟩
    unfold lcT if_who_sit2 el_who_sit1
    simp! [inF_ok]
    by_cases hm : s ∈ found ++ [x]
    · simp only [hm, decide_true, Bool.not_true]; rfl
    · simp only [hm, decide_false, Bool.not_false]; rfl) (by rw [List.length_map, rot_len]; exact small_sz (by omega))
  have e2 : (strD (rot ns x)).filter (fun d => match d with | .str s => !decide (s ∈ found ++ [x]) | _ => false) = strD (sitting ns (found ++ [x]) x) := by
    unfold sitting
    rw [strD, strD, List.filter_map]
    rfl
  rw [e2] at e
  simp! [lastD, negI, hy, hf, kseq_ok, wpE, e]
/-- a ring -/
abbrev ringD (C : Addr) (ns : List Str) (kds : List (Key × D)) : D := .ins C [("_names", .lst (strD ns)), ("_slips", .dic kds)]
theorem fld_names {C : Addr} {ns : List Str} {kds : List (Key × D)} : fldG C "_names" (ringD C ns kds) = some (.lst (strD ns)) := by
  unfold fldG
  simp only [if_true]
  rfl
theorem fld_slips {C : Addr} {ns : List Str} {kds : List (Key × D)} : fldG C "_slips" (ringD C ns kds) = some (.dic kds) := by
  unfold fldG
  simp only [if_true]
  rw [List.lookup_cons, show (("_slips" : Str) == ("_names" : Str)) = false from by decide +kernel]
  rfl
theorem counted_ok {ns row : List Str} {kds : List (Key × D)} {sl : Str → Int} (h : SlD kds ns sl) {g : Str} (hg : g ∈ ns) (hr : row ≠ []) : m_Ring_counted_on T [.fz (ringD T.a_Ring ns kds), .fz (.str g), .fz (.lst (strD row))] = some (.ok (.fz (.str (row.getD (sl g % (row.length : Int)).toNat Str.empty))) []) := by
  show finF [] (mb_Ring_counted_on T [some (.fz (ringD T.a_Ring ns kds)), some (.fz (.str g)), some (.fz (.lst (strD row)))]) = _
  unfold mb_Ring_counted_on
  have hp : (0 : Int) < (row.length : Nat) := by have := List.length_pos_iff.mpr hr; omega
  obtain ⟨j, e1, e2, e3, e4⟩ := spot (sl g) hr
  have ei : ixL (.lst (strD row)) (.int (sl g % (row.length : Int))) = some (.str (row.getD (sl g % (row.length : Int)).toNat Str.empty)) := by
    unfold ixL
    simp only
    rw [e1, at_ok e4, Int.toNat_natCast]
  simp! [fld_slips, getG_ok h hg, List.length_map, hp, ei]
theorem nolk {ns : List Str} {kds : List (Key × D)} {m : Str} (h1 : (m == ("_names" : Str)) = false) (h2 : (m == ("_slips" : Str)) = false) : List.lookup m [(("_names" : Str), D.lst (strD ns)), (("_slips" : Str), D.dic kds)] = none := by
  rw [List.lookup_cons, h1]
  simp only
  rw [List.lookup_cons, h2]
  rfl
theorem sit_ll {ns found : List Str} {x : Str} (h : x ∈ ns) (hl : ns.length ≤ 100) : m_who_sit T [.fz (.lst (strD ns)), .fz (.lst (strD (found ++ [x])))] = some (.ok (.ol (strD (sitting ns (found ++ [x]) x))) []) := sit_ok T false false h hl
theorem sit_tt {ns found : List Str} {x : Str} (h : x ∈ ns) (hl : ns.length ≤ 100) : m_who_sit T [.fz (.tup (strD ns)), .fz (.tup (strD (found ++ [x])))] = some (.ok (.ol (strD (sitting ns (found ++ [x]) x))) []) := sit_ok T true true h hl
theorem order_loop {ns : List Str} {kds : List (Key × D)} {sl : Str → Int} {b : Str} (g : GoodNs ns) (h : SlD kds ns sl) : ∀ (k fuel : Nat) (found : List Str) (x : Str), x ∈ ns → found.length + 1 + (sitting ns (found ++ [x]) x).length = ns.length → (sitting ns (found ++ [x]) x).length = k → k < fuel →
    whL (if_Ring_order1 T) (lp_Ring_order2 T) fuel
      [some (.fz (ringD T.a_Ring ns kds)), some (.fz (.str b)), some (.ol (strD (found ++ [x])))] = some (.nx [some (.fz (ringD T.a_Ring ns kds)), some (.fz (.str b)), some (.ol (strD (found ++ [x] ++ nexts sl k x (sitting ns (found ++ [x]) x))))])
  | k, 0, _, _, _, _, _, hf => absurd hf (Nat.not_lt_zero _)
  | k, fuel + 1, found, x, hx, hlen, hk, hf => by
    have l12 := g.twelve
    rw [whL]
    cases k with
    | zero =>
      have hlt : ¬ (((found ++ [x]).length : Nat) : Int) < (ns.length : Nat) := by rw [List.length_append, List.length_singleton]; omega
      unfold if_Ring_order1
      simp! [fld_names, List.length_map, hlt]
      rw [nexts, List.append_nil]
    | succ k =>
      have hlt : (((found ++ [x]).length : Nat) : Int) < (ns.length : Nat) := by rw [List.length_append, List.length_singleton]; omega
      have hne : sitting ns (found ++ [x]) x ≠ [] := fun e => by rw [e] at hk; cases hk
      have hat : atI (strD (found ++ [x])) (-1) = some (.str x) := last_l found x
      have hsz : (found ++ [x]).length < sizeLine := by rw [List.length_append, List.length_singleton]; exact small_lt (by omega)
      have ih := order_loop (b := b) g h k fuel (found ++ [x])
      obtain ⟨j, ej, hj, hjn, hget⟩ := spot (sl x) hne
      obtain ⟨hnx, hmem⟩ := sitting_next (goers := found ++ [x]) g.nd hx hj
      have e1 : if_Ring_order1 T [some (.fz (ringD T.a_Ring ns kds)), some (.fz (.str b)), some (.ol (strD (found ++ [x])))] = some (.ok true [some (.fz (ringD T.a_Ring ns kds)), some (.fz (.str b)), some (.ol (strD (found ++ [x])))]) := by
        unfold if_Ring_order1
        simp! [fld_names, List.length_map, hlt]
      rw [e1]
      show loopS (lp_Ring_order2 T _) (whL (if_Ring_order1 T) (lp_Ring_order2 T) fuel) = _
      rw [show lp_Ring_order2 T [some (.fz (ringD T.a_Ring ns kds)), some (.fz (.str b)), some (.ol (strD (found ++ [x])))] = some (.nx [some (.fz (ringD T.a_Ring ns kds)), some (.fz (.str b)), some (.ol (strD (found ++ [x]) ++ [.str ((sitting ns (found ++ [x]) x).getD (sl x % ((sitting ns (found ++ [x]) x).length : Int)).toNat Str.empty)]))]) from by
        unfold lp_Ring_order2
        simp! [fld_names, List.length_map, hlt, negI, hat, sit_ll T hx (show ns.length ≤ 100 by omega), nolk (ns := ns) (kds := kds) (show (("_counted_on" : Str) == ("_names" : Str)) = false by decide +kernel) (by decide +kernel), counted_ok T h hx hne, hsz], loopS_nx]
      have hcl := cut_len hj
      have hi := ih _ hmem (by rw [hnx, List.length_append, List.length_singleton, hcl]; omega) (by rw [hnx, hcl]; omega) (by omega)
      rw [hnx] at hi
      rw [hjn, nexts_step hjn, show strD (found ++ [x]) ++ [D.str ((sitting ns (found ++ [x]) x).getD j Str.empty)] = strD (found ++ [x] ++ [(sitting ns (found ++ [x]) x).getD j Str.empty]) from (List.map_append (f := D.str) (l₁ := found ++ [x]) (l₂ := [(sitting ns (found ++ [x]) x).getD j Str.empty])).symm,
        show found ++ [x] ++ ((sitting ns (found ++ [x]) x).getD j Str.empty :: nexts sl k ((sitting ns (found ++ [x]) x).getD j Str.empty) (List.drop (j + 1) (sitting ns (found ++ [x]) x) ++ List.take j (sitting ns (found ++ [x]) x))) = found ++ [x] ++ [(sitting ns (found ++ [x]) x).getD j Str.empty] ++ nexts sl k ((sitting ns (found ++ [x]) x).getD j Str.empty) (List.drop (j + 1) (sitting ns (found ++ [x]) x) ++ List.take j (sitting ns (found ++ [x]) x)) from by rw [List.append_assoc (found ++ [x])]; rfl]
      exact hi
theorem order_ok {ns : List Str} {kds : List (Key × D)} {sl : Str → Int} {b : Str} (g : GoodNs ns) (h : SlD kds ns sl) (hb : b ∈ ns) : m_Ring_order T [.fz (ringD T.a_Ring ns kds), .fz (.str b)] = some (.ok (.fz (.tup (strD (orderOf ns sl b)))) []) := by
  show finF [] (mb_Ring_order T [some (.fz (ringD T.a_Ring ns kds)), some (.fz (.str b)), none]) = _
  unfold mb_Ring_order
  have l12 := g.twelve
  have e := order_loop T (b := b) g h (ns.length - 1) 100000 [] b hb (by rw [List.nil_append, sitting_first g.nd hb, behind_len hb]; show 0 + 1 + (ns.length - 1) = ns.length; have := g.two; omega) (by rw [List.nil_append, sitting_first g.nd hb, behind_len hb]) (by omega)
  rw [List.nil_append, sitting_first g.nd hb] at e
  have e2 : strD ([b] ++ nexts sl (ns.length - 1) b (behind ns b)) = strD (orderOf ns sl b) := rfl
  rw [e2] at e
  have hc : 1 ≤ sizeLine := by decide
  have e3 : tupG (.lst (strD (orderOf ns sl b))) = some (.tup (strD (orderOf ns sl b))) := rfl
  have e4 : whL (if_Ring_order1 T) (lp_Ring_order2 T) 100000
      [some (.fz (ringD T.a_Ring ns kds)), some (.fz (.str b)), some (.ol [.str b])] = _ := e
  simp! [fld_names, check_name_l T hb, lstA, hc, e4, e3]
theorem next_ok {ns : List Str} {kds : List (Key × D)} {sl : Str → Int} {b : Str} (g : GoodNs ns) (h : SlD kds ns sl) (hb : b ∈ ns) : m_Ring_next_of T [.fz (ringD T.a_Ring ns kds), .fz (.str b)] = some (.ok (.fz (.str (nextOf ns sl b))) []) := by
  show finF [] (mb_Ring_next_of T [some (.fz (ringD T.a_Ring ns kds)), some (.fz (.str b)), none]) = _
  unfold mb_Ring_next_of
  have l12 := g.twelve
  have hm := last_mem (sl := sl) hb
  have e1 : ixT (.tup (strD (orderOf ns sl b))) (.int (-1)) = some (.str (lastOf ns sl b)) := by
    rw [← order_split]
    exact last_t _ _
  have hr : rot ns (lastOf ns sl b) ≠ [] := fun z => by
    have := rot_len (ns := ns) (x := lastOf ns sl b)
    rw [z] at this
    have := g.two
    simp at *
    omega
  have e2 : (rot ns (lastOf ns sl b)).getD (sl (lastOf ns sl b) % ((rot ns (lastOf ns sl b)).length : Int)).toNat Str.empty = nextOf ns sl b := by
    rw [rot_len]; rfl
  simp! [nolk (ns := ns) (kds := kds) (show (("order" : Str) == ("_names" : Str)) = false by decide +kernel) (by decide +kernel), nolk (ns := ns) (kds := kds) (show (("_counted_on" : Str) == ("_names" : Str)) = false by decide +kernel) (by decide +kernel), order_ok T g h hb, negI, e1, fld_names, behind_l T hm (show ns.length ≤ 100 by omega), counted_ok T h hm hr, e2]
theorem names_ok {ns : List Str} {kds : List (Key × D)} : m_Ring_names T [.fz (ringD T.a_Ring ns kds)] = some (.ok (.ol (strD ns)) []) := by
  show finF [] (mb_Ring_names T [some (.fz (ringD T.a_Ring ns kds))]) = _
  unfold mb_Ring_names
  simp! [fld_names, listG]
end
end K31
namespace K31
open PySem PySem.Spec PyProof.Rows L2 GF GD GL
/-! what a sighting says -/
def tell (ns : List Str) : List Str → Str → List Str → List (Str × Nat × Nat)
  | _, _, [] => []
  | found, g, x :: r => (g, (sitting ns found g).idxOf x, (sitting ns found g).length) :: tell ns (found ++ [x]) x r
theorem nd_inj {S : List Str} (hn : S.Nodup) {i j : Nat} (hi : i < S.length) (hj : j < S.length) (e : S[i] = S[j]) : i = j := by
  have h := List.pairwise_iff_getElem.mp hn
  rcases Nat.lt_trichotomy i j with k | k | k
  · exact absurd e (h i j hi hj k)
  · exact k
  · exact absurd e.symm (h j i hj hi k)
theorem getD_idx {S : List Str} {x : Str} {j : Nat} (hn : S.Nodup) (hx : x ∈ S) (hj : j < S.length) : S.getD j Str.empty = x ↔ S.idxOf x = j := by
  have h1 := idx_at hx
  have h2 := idx_lt hx
  rw [List.getD_eq_getElem?_getD, List.getElem?_eq_getElem hj]
  show S[j] = x ↔ _
  obtain ⟨h3, h4⟩ := List.getElem?_eq_some_iff.mp h1
  constructor
  · intro e
    exact nd_inj hn h3 hj (h4.trans e.symm)
  · intro e
    subst e
    exact h4
theorem tell_nexts {ns : List Str} {sl : Str → Int} (hn : ns.Nodup) : ∀ (rest found : List Str) (g : Str), g ∈ ns → rest.Nodup → (∀ y ∈ rest, y ∈ ns ∧ y ∉ found) →
    ((nexts sl (sitting ns found g).length g (sitting ns found g)).take rest.length = rest ↔ ∀ p ∈ tell ns found g rest, sl p.1 % (p.2.2 : Int) = (p.2.1 : Int))
  | [], _, _, _, _, _ => by simp [tell]
  | x :: r, found, g, hg, hd, hr => by
    have hx := hr x List.mem_cons_self
    have hxs : x ∈ sitting ns found g := sit_mem.mpr hx
    have hne : sitting ns found g ≠ [] := fun e => by rw [e] at hxs; cases hxs
    have hnd : (sitting ns found g).Nodup := sit_nd hn
    obtain ⟨j, ej, hj, hjn, hget⟩ := spot (sl g) hne
    obtain ⟨hnx, hmem⟩ := sitting_next (goers := found) hn hg hj
    have hcl := cut_len hj
    have hk : (sitting ns found g).length = (sitting ns found g).length - 1 + 1 := by omega
    have hgd := getD_idx hnd hxs hj
    rw [hk, nexts_step hjn, List.length_cons, List.take_succ_cons, tell]
    obtain ⟨hd1, hd2⟩ := List.nodup_cons.mp hd
    have ih := tell_nexts (sl := sl) hn r (found ++ [x]) x hx.1 hd2 (fun y hy => ⟨(hr y (List.mem_cons_of_mem _ hy)).1, fun z => by
      rcases List.mem_append.mp z with z | z
      · exact (hr y (List.mem_cons_of_mem _ hy)).2 z
      · rw [List.mem_singleton.mp z] at hy; exact hd1 hy⟩)
    rw [List.cons.injEq, List.forall_mem_cons]
    have key : (sitting ns found g).getD j Str.empty = x ↔ sl g % ((sitting ns found g).length : Int) = (((sitting ns found g).idxOf x : Nat) : Int) := by
      rw [hgd, ej]
      omega
    constructor
    · rintro ⟨e1, e2⟩
      refine ⟨key.mp e1, ih.mp ?_⟩
      rw [e1] at hnx e2
      rw [hnx, hcl]
      exact e2
    · rintro ⟨e1, e2⟩
      have e3 := key.mpr e1
      refine ⟨e3, ?_⟩
      have e4 := ih.mpr e2
      rw [e3] at hnx ⊢
      rw [hnx, hcl] at e4
      exact e4
end K31
namespace K31
open PySem PySem.Spec PyProof.Rows L2 GF GD GL
local macro_rules
  | `(tactic| simp! [$ls,*]) => `(tactic| simp only [m_seq, m_set, m_up, m_fr, m1, m2, k2, mA, m_var, m_mv, m_c, m_k, m_ite, kif, m_if, kifS, m_not, m_ret, kret, m_drop, kdrop, m_cons, kc, kc2, m_nil, m_call, kcall, bnd_ok, bnd_ex, bndS_ok, bndS_ex, seqS_nx, seqS_rt, seqS_bk, seqS_ct, seqS_ex, loopS_nx, loopS_rt, loopS_ct, loopS_bk,
  un?, gt, st', kset, g_nm, g_tup, g_cons, g_nil, knot, kdrop, ifAny, ifOl, lkOl, m_r2, m_l2, m_l1, kv1, kv2, kix, m_ixV, m_append, kap, m_sl, ks0, ks1, ks2, m_noPart, kpart, m_on, kon2, isLst, isTup, isStr, m_or, isTupX, m_call1, kcall1, m_callN, kcallN, kcallN1, appD, m_callB, kcallB, m_meth, kmeth, m_make, kmake, m_makeB, kmakeB, m_par, kpar1, kpar2, m_par3, kpar3, m_parT, kparT, m_consX, m_nilX, kXs, kXs2, m_st, kst, m_setF, m_fldV, m_getV, kgetV, m_put, kput, kput2, m_reverse, m_clear, m_for, klist, ktup, kseq_l, kseq_t, m_lc, m_dc, m_while, m_brk, m_cnt, m_next, m_chain, kch0, kch1, kch, GD.intOp, leI, ltI, geI, gtI, addI, subI, modI, kbool, knotD, isiG, lenG, eqD_int, finF, colE, frz, Option.map_some, List.length_cons, List.length_nil, List.map_cons, List.map_nil, Bool.false_xor, Bool.true_xor, Bool.not_true, Bool.not_false, decide_true, decide_false, ite_true, ite_false, reduceIte, if_true, if_false, eq_self, Bool.false_eq_true, true_and, and_true, GD.flat_strs, Option.isNone_none, Nat.reduceAdd, Nat.reduceSub, Nat.reduceMul, Nat.reduceLT, Nat.reduceEqDiff, Int.reduceEq, Int.reduceLT, Int.reduceLE, Int.reduceAdd, Int.reduceSub, Int.reduceNeg, Int.cast_ofNat_Int, Int.natCast_zero, Int.natCast_one, $ls,*])

section
variable {K : PySem.W.Frag} {mg : Str → Option Value} (T : Tx K mg)
def cnt (a n : Nat) : List D := (List.range n).map fun k => D.int ((a + k : Nat) : Int)
theorem cnt_zero (a : Nat) : cnt a 0 = [] := rfl
theorem cnt_succ (a n : Nat) : cnt a (n + 1) = .int ((a : Nat) : Int) :: cnt (a + 1) n := by
  unfold cnt
  rw [List.range_succ_eq_map, List.map_cons, List.map_map]
  congr 1
  refine List.map_congr_left fun k _ => ?_
  show D.int _ = D.int _
  congr 1
  rw [show Nat.succ k = k + 1 from rfl]
  omega
theorem krng2_ok {n : Nat} (h : n ≤ 100000) : krng2 [.int 1, .int (n : Nat)] = some (cnt 1 (n - 1)) := by
  unfold krng2
  simp only
  rw [if_pos ⟨by decide, by omega, by omega⟩]
  congr 1
  unfold cnt
  rw [show (((n : Nat) : Int) - 1).toNat = n - 1 from by omega]
  refine List.map_congr_left fun k _ => ?_
  show D.int _ = D.int _
  congr 1
theorem lstA_nil : lstA [] = some (.ol []) := if_pos (Nat.zero_le _)
theorem krng1_ok {n : Nat} (h : n ≤ 100000) : krng1 [.int (n : Nat)] = some (cnt 0 n) := by
  unfold krng1
  simp only
  rw [if_pos ⟨by omega, by omega⟩]
  congr 1
  unfold cnt
  rw [Int.toNat_natCast]
  refine List.map_congr_left fun k _ => ?_
  show D.int _ = D.int _
  congr 1
  omega
abbrev restD (p : Str × Nat × Nat) : D := .tup [.int (p.2.1 : Nat), .int (p.2.2 : Nat)]
abbrev pairD (p : Str × Nat × Nat) : D := .tup [.str p.1, restD p]
theorem take_at (f r : List Str) (x : Str) : (f ++ [x] ++ r).take (f.length + 1) = f ++ [x] := by
  rw [List.take_append_of_le_length (by rw [List.length_append, List.length_singleton]; omega), List.take_of_length_le (by rw [List.length_append, List.length_singleton]; omega)]
theorem next_at (f r : List Str) (x y : Str) : (f ++ [x] ++ y :: r)[f.length + 1]? = some y := by
  rw [List.getElem?_append_right (by rw [List.length_append, List.length_singleton]; omega), List.length_append, List.length_singleton, Nat.sub_self]
  rfl
theorem told_loop {ns : List Str} (g : GoodNs ns) : ∀ (rest f : List Str) (x : Str) (acc : List D) (x3 x4 : Option X), x ∈ ns → (∀ y ∈ rest, y ∈ ns ∧ y ∉ f ++ [x]) → rest.Nodup → f.length + rest.length ≤ 100 → acc.length ≤ f.length →
    ∃ y3 y4, forL (g_nm 3) (lp_rests_told1 T) (cnt (f.length + 1) rest.length) [some (.fz (.tup (strD ns))), some (.fz (.tup (strD (f ++ [x] ++ rest)))), some (.ol acc), x3, x4] = some (.nx [some (.fz (.tup (strD ns))), some (.fz (.tup (strD (f ++ [x] ++ rest)))), some (.ol (acc ++ (tell ns (f ++ [x]) x rest).map restD)), y3, y4])
  | [], f, x, acc, x3, x4, _, _, _, _, _ => ⟨x3, x4, by rw [tell, List.map_nil, List.append_nil acc]; rfl⟩
  | y :: r, f, x, acc, x3, x4, hx, hr, hd, hl, ha => by
    rw [List.length_cons] at hl
    have l12 := g.twelve
    have hy := hr y List.mem_cons_self
    have hys : y ∈ sitting ns (f ++ [x]) x := sit_mem.mpr hy
    have e1 : slT (.tup (strD (f ++ [x] ++ y :: r))) none (some ((f.length + 1 : Nat) : Int)) = some (.tup (strD (f ++ [x]))) := by
      unfold slT
      simp only
      rw [cutG_take, strD, strD, ← List.map_take, take_at]
    have e2 : ixT (.tup (strD (f ++ [x] ++ y :: r))) (.int ((f.length + 1 : Nat) : Int)) = some (.str y) := at_ok (next_at f r x y)
    have h2 : 2 ≤ sizeLine := by decide
    have h3 : acc.length < sizeLine := small_lt (by omega)
    have body : lp_rests_told1 T [some (.fz (.tup (strD ns))), some (.fz (.tup (strD (f ++ [x] ++ y :: r)))), some (.ol acc), some (.fz (.int ((f.length + 1 : Nat) : Int))), x4] = some (.nx [some (.fz (.tup (strD ns))), some (.fz (.tup (strD (f ++ [x] ++ y :: r)))), some (.ol (acc ++ [restD (x, (sitting ns (f ++ [x]) x).idxOf y, (sitting ns (f ++ [x]) x).length)])), some (.fz (.int ((f.length + 1 : Nat) : Int))), some (.fz (.lst (strD (sitting ns (f ++ [x]) x))))]) := by
      unfold lp_rests_told1
      simp! [e1, e2, sit_tt T hx (show ns.length ≤ 100 by omega), idxL_ok hys, List.length_map, tupA, h2, h3]
    obtain ⟨hd1, hd2⟩ := List.nodup_cons.mp hd
    obtain ⟨y3, y4, ih⟩ := told_loop g r (f ++ [x]) y (acc ++ [restD (x, (sitting ns (f ++ [x]) x).idxOf y, (sitting ns (f ++ [x]) x).length)]) (some (.fz (.int ((f.length + 1 : Nat) : Int)))) (some (.fz (.lst (strD (sitting ns (f ++ [x]) x))))) hy.1
      (fun z hz => ⟨(hr z (List.mem_cons_of_mem _ hz)).1, fun w => by
        rcases List.mem_append.mp w with w | w
        · exact (hr z (List.mem_cons_of_mem _ hz)).2 w
        · rw [List.mem_singleton.mp w] at hz; exact hd1 hz⟩) hd2 (by rw [List.length_append, List.length_singleton]; omega) (by rw [List.length_append, List.length_append, List.length_singleton, List.length_singleton]; omega)
    refine ⟨y3, y4, ?_⟩
    rw [List.length_cons, cnt_succ, forL]
    show loopS (lp_rests_told1 T [some (.fz (.tup (strD ns))), some (.fz (.tup (strD (f ++ [x] ++ y :: r)))), some (.ol acc), some (.fz (.int ((f.length + 1 : Nat) : Int))), x4]) _ = _
    rw [body, loopS_nx]
    rw [List.length_append, List.length_singleton, List.append_assoc (f ++ [x]) [y] r, List.append_assoc acc] at ih
    exact ih
theorem rests_told_ok {ns gs rest : List Str} {b : Str} (hgs : gs = b :: rest) (g : GoodNs ns) (hb : b ∈ ns) (hr : ∀ y ∈ rest, y ∈ ns ∧ y ≠ b) (hd : rest.Nodup) (hl : rest.length ≤ 90) : m_rests_told T [.fz (.tup (strD ns)), .fz (.tup (strD gs))] = some (.ok (.ol ((tell ns [b] b rest).map restD)) []) := by
  show finF [] (mb_rests_told T [some (.fz (.tup (strD ns))), some (.fz (.tup (strD gs))), none, none, none]) = _
  unfold mb_rests_told
  obtain ⟨y3, y4, e⟩ := told_loop T g rest [] b [] none none hb (fun y hy => ⟨(hr y hy).1, fun z => (hr y hy).2 (List.mem_singleton.mp z)⟩) hd (by simp; omega) (Nat.le_refl _)
  rw [List.nil_append, List.nil_append, List.singleton_append, ← hgs, List.length_nil, Nat.zero_add] at e
  have hlen : gs.length = rest.length + 1 := by rw [hgs, List.length_cons]
  have ek : krng2 [.int 1, .int ((gs.length : Nat) : Int)] = some (cnt 1 rest.length) := by
    rw [krng2_ok (by omega), hlen, Nat.add_sub_cancel]
  have e0 : m_set (mA lstA m_nil) (g_nm 2) [some (.fz (.tup (strD ns))), some (.fz (.tup (strD gs))), none, none, none] = some (.nx [some (.fz (.tup (strD ns))), some (.fz (.tup (strD gs))), some (.ol []), none, none]) := by simp! [lstA_nil]
  have e1 : (m_cons (m_c (.int 1)) (m_cons (m1 lenG (m_var 1)) m_nil)) [some (.fz (.tup (strD ns))), some (.fz (.tup (strD gs))), some (.ol []), none, none] = some (.ok [.int 1, .int ((gs.length : Nat) : Int)] [some (.fz (.tup (strD ns))), some (.fz (.tup (strD gs))), some (.ol []), none, none]) := by simp! [List.length_map]
  rw [seq_nx e0, seq_nx (for_ok (mA_ok e1 ek) e)]
  simp! []
end
end K31
namespace K31
open PySem PySem.Spec PyProof.Rows L2 GF GD GL
local macro_rules
  | `(tactic| simp! [$ls,*]) => `(tactic| simp only [m_seq, m_set, m_up, m_fr, m1, m2, k2, mA, m_var, m_mv, m_c, m_k, m_ite, kif, m_if, kifS, m_not, m_ret, kret, m_drop, kdrop, m_cons, kc, kc2, m_nil, m_call, kcall, bnd_ok, bnd_ex, bndS_ok, bndS_ex, seqS_nx, seqS_rt, seqS_bk, seqS_ct, seqS_ex, loopS_nx, loopS_rt, loopS_ct, loopS_bk,
  un?, gt, st', kset, g_nm, g_tup, g_cons, g_nil, knot, kdrop, ifAny, ifOl, lkOl, m_r2, m_l2, m_l1, kv1, kv2, kix, m_ixV, m_append, kap, m_sl, ks0, ks1, ks2, m_noPart, kpart, m_on, kon2, isLst, isTup, isStr, m_or, isTupX, m_call1, kcall1, m_callN, kcallN, kcallN1, appD, m_callB, kcallB, m_meth, kmeth, m_make, kmake, m_makeB, kmakeB, m_par, kpar1, kpar2, m_par3, kpar3, m_parT, kparT, m_consX, m_nilX, kXs, kXs2, m_st, kst, m_setF, m_fldV, m_getV, kgetV, m_put, kput, kput2, m_reverse, m_clear, m_for, klist, ktup, kseq_l, kseq_t, m_lc, m_dc, m_while, m_brk, m_cnt, m_next, m_chain, kch0, kch1, kch, GD.intOp, leI, ltI, geI, gtI, addI, subI, modI, kbool, knotD, isiG, lenG, eqD_int, finF, colE, frz, Option.map_some, List.length_cons, List.length_nil, List.map_cons, List.map_nil, Bool.false_xor, Bool.true_xor, Bool.not_true, Bool.not_false, decide_true, decide_false, ite_true, ite_false, reduceIte, if_true, if_false, eq_self, Bool.false_eq_true, true_and, and_true, GD.flat_strs, Option.isNone_none, Nat.reduceAdd, Nat.reduceSub, Nat.reduceMul, Nat.reduceLT, Nat.reduceEqDiff, Int.reduceEq, Int.reduceLT, Int.reduceLE, Int.reduceAdd, Int.reduceSub, Int.reduceNeg, Int.cast_ofNat_Int, Int.natCast_zero, Int.natCast_one, $ls,*])

section
variable {K : PySem.W.Frag} {mg : Str → Option Value} (T : Tx K mg)
def lateD : Option Str → D
  | none => .non
  | some z => .str z
abbrev sightD (ns gs : List Str) (z : Option Str) : D := .tup [.tup (strD ns), .tup (strD gs), lateD z]
structure Sight (ns gs : List Str) (b : Str) (rest : List Str) (z : Option Str) : Prop where
  good : GoodNs ns
  eg : gs = b :: rest
  inb : b ∈ ns
  inr : ∀ y ∈ rest, y ∈ ns ∧ y ≠ b
  nd : rest.Nodup
  len : rest.length + 1 ≤ ns.length
  late : ∀ y, z = some y → y ∈ ns ∧ gs.length = ns.length
variable {ns gs rest : List Str} {b : Str} {z : Option Str}
theorem Sight.ndg (s : Sight ns gs b rest z) : gs.Nodup := by
  rw [s.eg]
  exact List.nodup_cons.mpr ⟨fun h => (s.inr b h).2 rfl, s.nd⟩
theorem Sight.lg (s : Sight ns gs b rest z) : gs.length = rest.length + 1 := by rw [s.eg, List.length_cons]
theorem Sight.mem (s : Sight ns gs b rest z) : ∀ y ∈ gs, y ∈ ns := fun y hy => by
  rw [s.eg] at hy
  rcases List.mem_cons.mp hy with rfl | hy
  · exact s.inb
  · exact (s.inr y hy).1
theorem is_goers_ok (s : Sight ns gs b rest z) : m_is_goers T [.fz (.tup (strD ns)), .fz (.tup (strD gs))] = some (.ok (.fz (.bl true)) []) := by
  show finF [] (mb_is_goers T [some (.fz (.tup (strD ns))), some (.fz (.tup (strD gs))), none]) = _
  unfold mb_is_goers
  have l12 := s.good.twelve
  have hl := s.lg
  have hl2 := s.len
  have e := lc_map (mg := g_nm 2) (mt := m_k true) (me := el_is_goers1 T) (vs := [2]) (e0 := [some (.fz (.tup (strD ns))), some (.fz (.tup (strD gs))), none]) (fun _ => .bl true) (strD gs) (fun d hd => by
    obtain ⟨c, hc, rfl⟩ := List.mem_map.mp hd
    refine ⟨[some (.fz (.tup (strD ns))), some (.fz (.tup (strD gs))), some (.fz (.str c))], ?_, rfl⟩
    unfold lcT el_is_goers1
    simp! [inF_tup, s.mem c hc]) (by rw [List.length_map]; exact small_sz (by omega))
  have h0 : ¬ ((gs.length : Nat) : Int) = 0 := by omega
  simp! [List.length_map, h0, wpE, e, all_true_bl, setG_t s.ndg (show gs.length ≤ 100 by omega)]
theorem is_sighting_ok (s : Sight ns gs b rest z) : m_is_sighting T [.fz (sightD ns gs z)] = some (.ok (.fz (.bl true)) []) := by
  show finF [] (mb_is_sighting T [some (.fz (sightD ns gs z)), none, none, none]) = _
  unfold mb_is_sighting
  cases z with
  | none => simp! [lateD, is_names_t T s.good, is_goers_ok T s, isN, GD.isNon]
  | some y =>
    obtain ⟨h1, h2⟩ := s.late y rfl
    simp! [lateD, is_names_t T s.good, is_goers_ok T s, isN, GD.isNon, List.length_map, h2, inF_tup, h1]
/-- all that a sighting says -/
def told1 (ns : List Str) (b : Str) (rest : List Str) (z : Option Str) : List (Str × Nat × Nat) :=
  tell ns [b] b rest ++ match z with
    | none => []
    | some y => [((b :: rest).getLast (List.cons_ne_nil _ _), (rot ns ((b :: rest).getLast (List.cons_ne_nil _ _))).idxOf y, ns.length)]
def due (ns : List Str) (b : Str) (rest : List Str) (z : Option Str) : List (Str × Nat × Nat) := (told1 ns b rest z).filter fun p => decide (p.2.2 ≠ 1)
theorem tell_names {ns : List Str} : ∀ (rest f : List Str) (g : Str), (tell ns f g rest).map (·.1) = (g :: rest).take rest.length
  | [], _, _ => rfl
  | x :: r, f, g => by
    rw [tell, List.map_cons, tell_names r (f ++ [x]) x, List.length_cons, List.take_succ_cons]
theorem tell_len {ns : List Str} (rest f : List Str) (g : Str) : (tell ns f g rest).length = rest.length := by
  have := congrArg List.length (tell_names (ns := ns) rest f g)
  rw [List.length_map, List.length_take, List.length_cons] at this
  omega
theorem last_split (b : Str) (rest : List Str) : (b :: rest).take rest.length ++ [(b :: rest).getLast (List.cons_ne_nil _ _)] = b :: rest := by
  have h := List.dropLast_concat_getLast (List.cons_ne_nil b rest)
  rw [List.dropLast_eq_take] at h
  exact h
/-- goers beside rests -/
theorem zip_told (ns : List Str) (b : Str) (rest : List Str) (z : Option Str) : (strD (b :: rest)).zip ((told1 ns b rest z).map restD) = (told1 ns b rest z).map fun p => (D.str p.1, restD p) := by
  have go : ∀ (xs : List Str) (ps : List (Str × Nat × Nat)), ps.map (·.1) = xs.take ps.length → (strD xs).zip (ps.map restD) = ps.map fun p => (D.str p.1, restD p) := by
    intro xs ps
    induction ps generalizing xs with
    | nil => intro _; simp
    | cons p r ih =>
      intro h
      cases xs with
      | nil => cases h
      | cons x xr =>
        rw [List.map_cons, List.length_cons, List.take_succ_cons] at h
        obtain ⟨h1, h2⟩ := List.cons.inj h
        rw [strD, List.map_cons, List.map_cons, List.zip_cons_cons, List.map_cons, ← ih xr h2, h1]
  apply go
  unfold told1
  cases z with
  | none => rw [List.append_nil, tell_names, tell_len]
  | some y =>
    simp only [List.map_append, List.map_cons, List.map_nil, List.length_append, List.length_cons, List.length_nil, tell_names, tell_len]
    rw [last_split, List.take_of_length_le (by simp)]
end
end K31
namespace K31
open PySem PySem.Spec PyProof.Rows L2 GF GD GL
local macro_rules
  | `(tactic| simp! [$ls,*]) => `(tactic| simp only [m_seq, m_set, m_up, m_fr, m1, m2, k2, mA, m_var, m_mv, m_c, m_k, m_ite, kif, m_if, kifS, m_not, m_ret, kret, m_drop, kdrop, m_cons, kc, kc2, m_nil, m_call, kcall, bnd_ok, bnd_ex, bndS_ok, bndS_ex, seqS_nx, seqS_rt, seqS_bk, seqS_ct, seqS_ex, loopS_nx, loopS_rt, loopS_ct, loopS_bk,
  un?, gt, st', kset, g_nm, g_tup, g_cons, g_nil, knot, kdrop, ifAny, ifOl, lkOl, m_r2, m_l2, m_l1, kv1, kv2, kix, m_ixV, m_append, kap, m_sl, ks0, ks1, ks2, m_noPart, kpart, m_on, kon2, isLst, isTup, isStr, m_or, isTupX, m_call1, kcall1, m_callN, kcallN, kcallN1, appD, m_callB, kcallB, m_meth, kmeth, m_make, kmake, m_makeB, kmakeB, m_par, kpar1, kpar2, m_par3, kpar3, m_parT, kparT, m_consX, m_nilX, kXs, kXs2, m_st, kst, m_setF, m_fldV, m_getV, kgetV, m_put, kput, kput2, m_reverse, m_clear, m_for, klist, ktup, kseq_l, kseq_t, m_lc, m_dc, m_while, m_brk, m_cnt, m_next, m_chain, kch0, kch1, kch, GD.intOp, leI, ltI, geI, gtI, addI, subI, modI, kbool, knotD, isiG, lenG, eqD_int, finF, colE, frz, Option.map_some, List.length_cons, List.length_nil, List.map_cons, List.map_nil, Bool.false_xor, Bool.true_xor, Bool.not_true, Bool.not_false, decide_true, decide_false, ite_true, ite_false, reduceIte, if_true, if_false, eq_self, Bool.false_eq_true, true_and, and_true, GD.flat_strs, Option.isNone_none, Nat.reduceAdd, Nat.reduceSub, Nat.reduceMul, Nat.reduceLT, Nat.reduceEqDiff, Int.reduceEq, Int.reduceLT, Int.reduceLE, Int.reduceAdd, Int.reduceSub, Int.reduceNeg, Int.cast_ofNat_Int, Int.natCast_zero, Int.natCast_one, $ls,*])

section
variable {K : PySem.W.Frag} {mg : Str → Option Value} (T : Tx K mg)
variable {ns gs rest : List Str} {b : Str} {z : Option Str}
abbrev lastS (b : Str) (rest : List Str) : Str := (b :: rest).getLast (List.cons_ne_nil _ _)
theorem last_gs (s : Sight ns gs b rest z) : ixT (.tup (strD gs)) (.int (-1)) = some (.str (lastS b rest)) := by
  rw [s.eg, ← last_split b rest]
  have := last_t ((b :: rest).take rest.length) (lastS b rest)
  rw [last_split] at this ⊢
  exact this
theorem last_in (s : Sight ns gs b rest z) : lastS b rest ∈ ns := s.mem _ (by rw [s.eg]; exact List.getLast_mem _)
theorem tupA2 (x y : D) : tupA [x, y] = some (.tup [x, y]) := if_pos (show 2 ≤ sizeLine by decide)
theorem filt_due (ps : List (Str × Nat × Nat)) : (ps.map fun p => D.tuw [.str p.1, restD p]).filterMap (fun d => match d with | .tuw [x, .tup [i, .int m]] => if m ≠ 1 then some (.tup [x, .tup [i, .int m]]) else none | _ => none) = (ps.filter fun p => decide (p.2.2 ≠ 1)).map pairD := by
  induction ps with
  | nil => rfl
  | cons p r ih =>
    rw [List.map_cons, List.filterMap_cons, ih, List.filter_cons]
    by_cases h : p.2.2 = 1
    · simp [h]
    · have h2 : ¬ ((p.2.2 : Nat) : Int) = 1 := by omega
      simp [h, h2]
theorem says_ok (s : Sight ns gs b rest z) : m_says T [.fz (sightD ns gs z)] = some (.ok (.ol ((due ns b rest z).map pairD)) []) := by
  show finF [] (mb_says T [some (.fz (sightD ns gs z)), none, none, none, none, none, none]) = _
  unfold mb_says
  have l12 := s.good.twelve
  have hl := s.lg
  have hl2 := s.len
  have hlast := last_in s
  have a1 : m_if (m_not (m1 kbool (m_fr (m_call 1 (m_is_sighting T) (m_cons (m_var 0) m_nil))))) m_never m_next [some (.fz (sightD ns gs z)), none, none, none, none, none, none] = some (.nx [some (.fz (sightD ns gs z)), none, none, none, none, none, none]) := by
    simp! [is_sighting_ok T s]
  have a2 : m_set (m_mv 0) (g_tup 3 (g_cons (g_nm 1) (g_cons (g_nm 2) (g_cons (g_nm 3) g_nil)))) [some (.fz (sightD ns gs z)), none, none, none, none, none, none] = some (.nx [some (.fz (sightD ns gs z)), some (.fz (.tup (strD ns))), some (.fz (.tup (strD gs))), some (.fz (lateD z)), none, none, none]) := by
    simp! []
  have a0 : m_cons (m_var 1) (m_cons (m_var 2) m_nil) [some (.fz (sightD ns gs z)), some (.fz (.tup (strD ns))), some (.fz (.tup (strD gs))), some (.fz (lateD z)), none, none, none] = some (.ok [.tup (strD ns), .tup (strD gs)] [some (.fz (sightD ns gs z)), some (.fz (.tup (strD ns))), some (.fz (.tup (strD gs))), some (.fz (lateD z)), none, none, none]) := by simp! []
  have a3 : m_set (m_call 2 (m_rests_told T) (m_cons (m_var 1) (m_cons (m_var 2) m_nil))) (g_nm 4) [some (.fz (sightD ns gs z)), some (.fz (.tup (strD ns))), some (.fz (.tup (strD gs))), some (.fz (lateD z)), none, none, none] = some (.nx [some (.fz (sightD ns gs z)), some (.fz (.tup (strD ns))), some (.fz (.tup (strD gs))), some (.fz (lateD z)), some (.ol ((tell ns [b] b rest).map restD)), none, none]) :=
    set_ok (call_ok a0 rfl (rests_told_ok T s.eg s.good s.inb s.inr s.nd (show rest.length ≤ 90 by omega))) rfl
  have hsz : (tell ns [b] b rest).length < sizeLine := by rw [tell_len]; exact small_lt (by omega)
  have a4 : m_if (m1 kbool (m2 notN (m_var 3) (m_c .non))) (m_drop (m_append 4 (mA tupA (m_cons (m_on isTup idxT (m_fr (m_call 2 (m_listed_behind T) (m_cons (m_var 1) (m_cons (m2 ixT (m_var 2) (m1 negI (m_c (.int 1)))) m_nil)))) (m_var 3)) (m_cons (m1 lenG (m_var 1)) m_nil))))) m_next
      [some (.fz (sightD ns gs z)), some (.fz (.tup (strD ns))), some (.fz (.tup (strD gs))), some (.fz (lateD z)), some (.ol ((tell ns [b] b rest).map restD)), none, none] = some (.nx [some (.fz (sightD ns gs z)), some (.fz (.tup (strD ns))), some (.fz (.tup (strD gs))), some (.fz (lateD z)), some (.ol ((told1 ns b rest z).map restD)), none, none]) := by
    cases z with
    | none =>
      simp! [lateD, notN, GD.isNon, told1, List.append_nil]
    | some y =>
      obtain ⟨h1, h2⟩ := s.late y rfl
      have hr : y ∈ rot ns (lastS b rest) := (rotP_perm ns _).mem_iff.mpr h1
      simp! [lateD, notN, GD.isNon, negI, last_gs s, behind_t T hlast (show ns.length ≤ 100 by omega), idxT_ok hr, List.length_map, tupA2, hsz, told1, List.map_append]
  rw [seq_nx a1, seq_nx a2, seq_nx a3, seq_nx a4]
  have k1 : kzipM [.tup (strD gs), .lst ((told1 ns b rest z).map restD)] = some ((told1 ns b rest z).map fun p => D.tuw [.str p.1, restD p]) := by
    unfold kzipM
    simp only
    rw [s.eg, zip_told, List.map_map]
    rfl
  have hll : (told1 ns b rest z).length ≤ 13 := by
    unfold told1
    rw [List.length_append, tell_len]
    cases z <;> simp <;> omega
  have e := lc_pure (mg := g_tup 2 (g_cons (g_nm 5) (g_cons (g_nm 6) g_nil))) (mt := if_says2 T) (me := el_says1 T) (vs := [5, 6]) (e0 := [some (.fz (sightD ns gs z)), some (.fz (.tup (strD ns))), some (.fz (.tup (strD gs))), some (.fz (lateD z)), some (.fz (.lst ((told1 ns b rest z).map restD))), none, none])
    (fun d => match d with | .tuw [x, .tup [i, .int m]] => if m ≠ 1 then some (.tup [x, .tup [i, .int m]]) else none | _ => none) ((told1 ns b rest z).map fun p => D.tuw [.str p.1, restD p]) [] (fun d hd => by
      obtain ⟨p, hp, rfl⟩ := List.mem_map.mp hd
      refine ⟨[some (.fz (sightD ns gs z)), some (.fz (.tup (strD ns))), some (.fz (.tup (strD gs))), some (.fz (lateD z)), some (.fz (.lst ((told1 ns b rest z).map restD))), some (.fz (.str p.1)), some (.fz (restD p))], ?_, rfl⟩
      have hx : ixT (restD p) (.int 1) = some (.int (p.2.2 : Nat)) := rfl
      unfold lcT if_says2 el_says1
      by_cases h : ((p.2.2 : Nat) : Int) = 1
      · simp! [hx, h, ne_eq, not_true]
      · simp! [hx, h, ne_eq, not_false_eq_true, tupA2]) (by rw [List.length_map, List.length_nil]; exact small_sz (by omega))
  rw [filt_due, List.nil_append] at e
  have b1 : m_cons (m_var 2) (m_cons (m_var 4) m_nil) [some (.fz (sightD ns gs z)), some (.fz (.tup (strD ns))), some (.fz (.tup (strD gs))), some (.fz (lateD z)), some (.ol ((told1 ns b rest z).map restD)), none, none] = some (.ok [.tup (strD gs), .lst ((told1 ns b rest z).map restD)] [some (.fz (sightD ns gs z)), some (.fz (.tup (strD ns))), some (.fz (.tup (strD gs))), some (.fz (lateD z)), some (.fz (.lst ((told1 ns b rest z).map restD))), none, none]) := by
    simp! []
  have b2 : m_lc (mA kzipM (m_cons (m_var 2) (m_cons (m_var 4) m_nil))) (g_tup 2 (g_cons (g_nm 5) (g_cons (g_nm 6) g_nil))) (if_says2 T) (el_says1 T) [5, 6] [some (.fz (sightD ns gs z)), some (.fz (.tup (strD ns))), some (.fz (.tup (strD gs))), some (.fz (lateD z)), some (.ol ((told1 ns b rest z).map restD)), none, none] = some (.ok (.ol ((due ns b rest z).map pairD)) [some (.fz (sightD ns gs z)), some (.fz (.tup (strD ns))), some (.fz (.tup (strD gs))), some (.fz (lateD z)), some (.fz (.lst ((told1 ns b rest z).map restD))), none, none]) := by
    unfold m_lc
    rw [mA_ok b1 k1, bnd_ok]
    exact e
  rw [ret_ok b2]
  rfl
end
end K31
namespace K31
open PySem PySem.Spec PyProof.Rows L2 GF GD GL
local macro_rules
  | `(tactic| simp! [$ls,*]) => `(tactic| simp only [m_seq, m_set, m_up, m_fr, m1, m2, k2, mA, m_var, m_mv, m_c, m_k, m_ite, kif, m_if, kifS, m_not, m_ret, kret, m_drop, kdrop, m_cons, kc, kc2, m_nil, m_call, kcall, bnd_ok, bnd_ex, bndS_ok, bndS_ex, seqS_nx, seqS_rt, seqS_bk, seqS_ct, seqS_ex, loopS_nx, loopS_rt, loopS_ct, loopS_bk,
  un?, gt, st', kset, g_nm, g_tup, g_cons, g_nil, knot, kdrop, ifAny, ifOl, lkOl, m_r2, m_l2, m_l1, kv1, kv2, kix, m_ixV, m_append, kap, m_sl, ks0, ks1, ks2, m_noPart, kpart, m_on, kon2, isLst, isTup, isStr, m_or, isTupX, m_call1, kcall1, m_callN, kcallN, kcallN1, appD, m_callB, kcallB, m_meth, kmeth, m_make, kmake, m_makeB, kmakeB, m_par, kpar1, kpar2, m_par3, kpar3, m_parT, kparT, m_consX, m_nilX, kXs, kXs2, m_st, kst, m_setF, m_fldV, m_getV, kgetV, m_put, kput, kput2, m_reverse, m_clear, m_for, klist, ktup, kseq_l, kseq_t, m_lc, m_dc, m_while, m_brk, m_cnt, m_next, m_chain, kch0, kch1, kch, GD.intOp, leI, ltI, geI, gtI, addI, subI, modI, kbool, knotD, isiG, lenG, eqD_int, finF, colE, frz, Option.map_some, List.length_cons, List.length_nil, List.map_cons, List.map_nil, Bool.false_xor, Bool.true_xor, Bool.not_true, Bool.not_false, decide_true, decide_false, ite_true, ite_false, reduceIte, if_true, if_false, eq_self, Bool.false_eq_true, true_and, and_true, GD.flat_strs, Option.isNone_none, Nat.reduceAdd, Nat.reduceSub, Nat.reduceMul, Nat.reduceLT, Nat.reduceEqDiff, Int.reduceEq, Int.reduceLT, Int.reduceLE, Int.reduceAdd, Int.reduceSub, Int.reduceNeg, Int.cast_ofNat_Int, Int.natCast_zero, Int.natCast_one, $ls,*])

theorem putG_new {kds : List (Key × D)} {k : Key} {d : D} (h : k ∉ kds.map (·.1)) : putG kds k d = kds ++ [(k, d)] := by
  unfold putG
  rw [if_neg]
  intro z
  rw [List.any_eq_true] at z
  obtain ⟨p, hp, e⟩ := z
  exact h (List.mem_map.mpr ⟨p, hp, of_decide_eq_true e⟩)
theorem dc_pure {mg : X → En → Option En} {mk mv : OM D} {vs : List Nat} {e0 : En} (f : Str → D) : ∀ (ns : List Str) (acc : List (Key × D)), (∀ n ∈ ns, ∃ e1, dcT mg (m_k true) mk mv (.str n) e0 = some (some ((Sum.inr n : Key), f n), e1) ∧ wpE e1 vs = e0) → ns.Nodup → (∀ n ∈ ns, (Sum.inr n : Key) ∉ acc.map (·.1)) → acc.length + ns.length ≤ 1000 →
    dcL mg (m_k true) mk mv vs (strD ns) acc e0 = some (.ok (.od (acc ++ ns.map fun n => ((Sum.inr n : Key), f n))) e0)
  | [], acc, _, _, _, _ => by rw [strD, List.map_nil, dcL, List.map_nil, List.append_nil]
  | n :: r, acc, h, hd, hk, hl => by
    obtain ⟨e1, h1, h2⟩ := h n List.mem_cons_self
    obtain ⟨d1, d2⟩ := List.nodup_cons.mp hd
    rw [List.length_cons] at hl
    rw [strD, List.map_cons, dcL, h1]
    show (if acc.length < sizeLine then dcL mg (m_k true) mk mv vs (strD r) (putG acc (Sum.inr n) (f n)) (wpE e1 vs) else none) = _
    rw [if_pos (small_lt (by omega)), h2, putG_new (hk n List.mem_cons_self), dc_pure f r _ (fun y hy => h y (List.mem_cons_of_mem _ hy)) d2 (fun y hy z => by
      rw [List.map_append] at z
      rcases List.mem_append.mp z with z | z
      · exact hk y (List.mem_cons_of_mem _ hy) z
      · have := List.mem_singleton.mp z
        rw [Sum.inr.injEq] at this
        rw [this] at hy
        exact d1 hy) (by rw [List.length_append, List.length_singleton]; omega), List.append_assoc]
    rfl
section
variable {K : PySem.W.Frag} {mg : Str → Option Value} (T : Tx K mg)
def slD (ns : List Str) (sl : Str → Int) : List (Key × D) := ns.map fun n => ((Sum.inr n : Key), D.int (sl n))
theorem slD_ok {ns : List Str} {sl : Str → Int} : SlD (slD ns sl) ns sl := by
  refine ⟨by unfold slD; rw [List.length_map], fun n hn => ?_⟩
  unfold slD valG
  induction ns with
  | nil => cases hn
  | cons x r ih =>
    rw [List.map_cons, List.find?_cons]
    by_cases h : x = n
    · subst h
      simp
    · have : decide ((Sum.inr x : Key) = Sum.inr n) = false := decide_eq_false fun z => h (Sum.inr.inj z)
      rw [this]
      exact ih ((List.mem_cons.mp hn).resolve_left fun z => h z.symm)
theorem nm_ne : ¬ (("_names" : Str) = "_slips") := by decide +kernel
theorem init_ok {ns : List Str} {kds : List (Key × D)} {sl : Str → Int} (g : GoodNs ns) (h : SlD kds ns sl) : m_Ring_init T [.oi T.a_Ring [], .fz (.lst (strD ns)), .fz (.dic kds)] = some (.ok (.fz .non) [.oi T.a_Ring [("_names", .ol (strD ns)), ("_slips", .od (slD ns sl))]]) := by
  show finF [0] (mb_Ring_init T [some (.oi T.a_Ring []), some (.fz (.lst (strD ns))), some (.fz (.dic kds)), none]) = _
  unfold mb_Ring_init
  have l12 := g.twelve
  have a1 : m_drop (m_call 1 (m_check_names T) (m_cons (m_var 1) m_nil)) [some (.oi T.a_Ring []), some (.fz (.lst (strD ns))), some (.fz (.dic kds)), none] = some (.nx [some (.oi T.a_Ring []), some (.fz (.lst (strD ns))), some (.fz (.dic kds)), none]) := by
    simp! [check_names_l T g]
  have a2 : m_if (m_not (m1 kbool (m_fr (m_call 2 (m_is_slips T) (m_cons (m_var 1) (m_cons (m_var 2) m_nil)))))) m_never m_next [some (.oi T.a_Ring []), some (.fz (.lst (strD ns))), some (.fz (.dic kds)), none] = some (.nx [some (.oi T.a_Ring []), some (.fz (.lst (strD ns))), some (.fz (.dic kds)), none]) := by
    simp! [is_slips_ok T g h]
  have a3 : m_setF 0 "_names" T.a_Ring (m1 listG (m_var 1)) [some (.oi T.a_Ring []), some (.fz (.lst (strD ns))), some (.fz (.dic kds)), none] = some (.nx [some (.oi T.a_Ring [("_names", .ol (strD ns))]), some (.fz (.lst (strD ns))), some (.fz (.dic kds)), none]) := by
    simp! [listG, ksetF, putFx]
  have e := dc_pure (mg := g_nm 3) (mk := el_Ring_init1 T) (mv := el_Ring_init2 T) (vs := [3]) (e0 := [some (.oi T.a_Ring [("_names", .ol (strD ns))]), some (.fz (.lst (strD ns))), some (.fz (.dic kds)), none]) (fun n => .int (sl n)) ns [] (fun n hn => by
    refine ⟨[some (.oi T.a_Ring [("_names", .ol (strD ns))]), some (.fz (.lst (strD ns))), some (.fz (.dic kds)), some (.fz (.str n))], ?_, rfl⟩
    unfold dcT el_Ring_init1 el_Ring_init2
    simp! [toK, getG_ok h hn]) g.nd (fun _ _ z => nomatch z) (by simp; omega)
  have b1 : (m1 klist (m_var 1)) [some (.oi T.a_Ring [("_names", .ol (strD ns))]), some (.fz (.lst (strD ns))), some (.fz (.dic kds)), none] = some (.ok (strD ns) [some (.oi T.a_Ring [("_names", .ol (strD ns))]), some (.fz (.lst (strD ns))), some (.fz (.dic kds)), none]) := by simp! []
  have b2 : m_dc (m1 klist (m_var 1)) (g_nm 3) (m_k true) (el_Ring_init1 T) (el_Ring_init2 T) [3] [some (.oi T.a_Ring [("_names", .ol (strD ns))]), some (.fz (.lst (strD ns))), some (.fz (.dic kds)), none] = some (.ok (.od (slD ns sl)) [some (.oi T.a_Ring [("_names", .ol (strD ns))]), some (.fz (.lst (strD ns))), some (.fz (.dic kds)), none]) := by
    unfold m_dc
    rw [b1, bnd_ok]
    exact e
  have a4 : m_setF 0 "_slips" T.a_Ring (m_dc (m1 klist (m_var 1)) (g_nm 3) (m_k true) (el_Ring_init1 T) (el_Ring_init2 T) [3]) [some (.oi T.a_Ring [("_names", .ol (strD ns))]), some (.fz (.lst (strD ns))), some (.fz (.dic kds)), none] = some (.nx [some (.oi T.a_Ring [("_names", .ol (strD ns)), ("_slips", .od (slD ns sl))]), some (.fz (.lst (strD ns))), some (.fz (.dic kds)), none]) := by
    unfold m_setF
    rw [b2, bndS_ok]
    simp! [ksetF, putFx, nm_ne]
  rw [seq_nx a1, seq_nx a2, seq_nx a3, a4]
  simp! []
theorem frz_ring {C : Addr} {ns : List Str} {sl : Str → Int} : frz (.oi C [("_names", .ol (strD ns)), ("_slips", .od (slD ns sl))]) = ringD C ns (slD ns sl) := rfl
end
end K31
namespace K31
open PySem PySem.Spec PyProof.Rows L2 GF GD GL
local macro_rules
  | `(tactic| simp! [$ls,*]) => `(tactic| simp only [m_seq, m_set, m_up, m_fr, m1, m2, k2, mA, m_var, m_mv, m_c, m_k, m_ite, kif, m_if, kifS, m_not, m_ret, kret, m_drop, kdrop, m_cons, kc, kc2, m_nil, m_call, kcall, bnd_ok, bnd_ex, bndS_ok, bndS_ex, seqS_nx, seqS_rt, seqS_bk, seqS_ct, seqS_ex, loopS_nx, loopS_rt, loopS_ct, loopS_bk,
  un?, gt, st', kset, g_nm, g_tup, g_cons, g_nil, knot, kdrop, ifAny, ifOl, lkOl, m_r2, m_l2, m_l1, kv1, kv2, kix, m_ixV, m_append, kap, m_sl, ks0, ks1, ks2, m_noPart, kpart, m_on, kon2, isLst, isTup, isStr, m_or, isTupX, m_call1, kcall1, m_callN, kcallN, kcallN1, appD, m_callB, kcallB, m_meth, kmeth, m_make, kmake, m_makeB, kmakeB, m_par, kpar1, kpar2, m_par3, kpar3, m_parT, kparT, m_consX, m_nilX, kXs, kXs2, m_st, kst, m_setF, m_fldV, m_getV, kgetV, m_put, kput, kput2, m_reverse, m_clear, m_for, klist, ktup, kseq_l, kseq_t, m_lc, m_dc, m_while, m_brk, m_cnt, m_next, m_chain, kch0, kch1, kch, GD.intOp, leI, ltI, geI, gtI, addI, subI, modI, kbool, knotD, isiG, lenG, eqD_int, finF, colE, frz, Option.map_some, List.length_cons, List.length_nil, List.map_cons, List.map_nil, Bool.false_xor, Bool.true_xor, Bool.not_true, Bool.not_false, decide_true, decide_false, ite_true, ite_false, reduceIte, if_true, if_false, eq_self, Bool.false_eq_true, true_and, and_true, GD.flat_strs, Option.isNone_none, Nat.reduceAdd, Nat.reduceSub, Nat.reduceMul, Nat.reduceLT, Nat.reduceEqDiff, Int.reduceEq, Int.reduceLT, Int.reduceLE, Int.reduceAdd, Int.reduceSub, Int.reduceNeg, Int.cast_ofNat_Int, Int.natCast_zero, Int.natCast_one, $ls,*])

section
variable {K : PySem.W.Frag} {mg : Str → Option Value} (T : Tx K mg)
theorem between_ok {k lo hi : Int} (h1 : lo ≤ k) (h2 : k ≤ hi) : m_check_between T [.fz (.int k), .fz (.int lo), .fz (.int hi)] = some (.ok (.fz .non) []) := by
  show finF [] (mb_check_between T [some (.fz (.int k)), some (.fz (.int lo)), some (.fz (.int hi))]) = _
  unfold mb_check_between
  simp! [is_number_ok, h1, h2]
theorem in2_ok {k n : Int} (h : k ≠ 0) : inF false (.int k) (.tup [.int 0, .int n]) = some (.bl (decide (k = n))) := by
  unfold inF
  simp only
  rw [if_pos ⟨rfl, rfl⟩]
  congr 2
  show xor false ((0 == k) || ((n == k) || false)) = _
  have e0 : ((0 : Int) == k) = false := beq_false_of_ne fun z => h z.symm
  rw [e0, Bool.false_or, Bool.or_false, Bool.false_xor]
  by_cases e : k = n
  · subst e; simp
  · rw [decide_eq_false e]; exact beq_false_of_ne fun z => e z.symm
theorem tupA3 (x y z : D) : tupA [x, y, z] = some (.tup [x, y, z]) := if_pos (show 3 ≤ sizeLine by decide)
theorem slT_take (ns : List Str) (k : Nat) : slT (.tup (strD ns)) none (some ((k : Nat) : Int)) = some (.tup (strD (ns.take k))) := by
  unfold slT
  simp only
  rw [cutG_take, strD, strD, List.map_take]
theorem order_len {ns : List Str} {sl : Str → Int} {b : Str} (hb : b ∈ ns) : (orderOf ns sl b).length = ns.length := (order_perm hb).length_eq
theorem seen_ok {ns : List Str} {kds : List (Key × D)} {sl : Str → Int} {b : Str} {k : Nat} (g : GoodNs ns) (h : SlD kds ns sl) (hb : b ∈ ns) (k1 : 1 ≤ k) (k2 : k ≤ ns.length) :
    m_sighting_of T [.fz (ringD T.a_Ring ns kds), .fz (.str b), .fz (.int (k : Nat)), .fz (.bl true)] = some (.ok (.fz (sightD ns ((orderOf ns sl b).take k) (if k = ns.length then some (nextOf ns sl b) else none))) []) := by
  show finF [] (mb_sighting_of T [some (.fz (ringD T.a_Ring ns kds)), some (.fz (.str b)), some (.fz (.int (k : Nat))), some (.fz (.bl true)), none, none, none]) = _
  unfold mb_sighting_of
  have hk : ((k : Nat) : Int) ≠ 0 := by omega
  have nl1 := nolk (ns := ns) (kds := kds) (show (("order" : Str) == ("_names" : Str)) = false by decide +kernel) (by decide +kernel)
  have nl2 := nolk (ns := ns) (kds := kds) (show (("next_of" : Str) == ("_names" : Str)) = false by decide +kernel) (by decide +kernel)
  have nl3 := nolk (ns := ns) (kds := kds) (show (("names" : Str) == ("_names" : Str)) = false by decide +kernel) (by decide +kernel)
  have a1 : m_set (m_up (m1 tupG (m_fr (m_meth T.a_Ring "names" 1 (m_Ring_names T) (m_var 0) m_nil)))) (g_nm 4) [some (.fz (ringD T.a_Ring ns kds)), some (.fz (.str b)), some (.fz (.int (k : Nat))), some (.fz (.bl true)), none, none, none] = some (.nx [some (.fz (ringD T.a_Ring ns kds)), some (.fz (.str b)), some (.fz (.int (k : Nat))), some (.fz (.bl true)), some (.fz (.tup (strD ns))), none, none]) := by
    simp! [nl3, K31.names_ok T, tupG]
  have a2 : m_drop (m_call 2 (m_check_name T) (m_cons (m_var 4) (m_cons (m_var 1) m_nil))) [some (.fz (ringD T.a_Ring ns kds)), some (.fz (.str b)), some (.fz (.int (k : Nat))), some (.fz (.bl true)), some (.fz (.tup (strD ns))), none, none] = some (.nx [some (.fz (ringD T.a_Ring ns kds)), some (.fz (.str b)), some (.fz (.int (k : Nat))), some (.fz (.bl true)), some (.fz (.tup (strD ns))), none, none]) := by
    simp! [check_name_t T hb]
  have a3 : m_drop (m_call 3 (m_check_between T) (m_cons (m_var 2) (m_cons (m_c (.int 0)) (m_cons (m1 lenG (m_var 4)) m_nil)))) [some (.fz (ringD T.a_Ring ns kds)), some (.fz (.str b)), some (.fz (.int (k : Nat))), some (.fz (.bl true)), some (.fz (.tup (strD ns))), none, none] = some (.nx [some (.fz (ringD T.a_Ring ns kds)), some (.fz (.str b)), some (.fz (.int (k : Nat))), some (.fz (.bl true)), some (.fz (.tup (strD ns))), none, none]) := by
    simp! [List.length_map, between_ok T (show (0 : Int) ≤ ((k : Nat) : Int) by omega) (show ((k : Nat) : Int) ≤ ((ns.length : Nat) : Int) by omega)]
  have a4 : m_set (m_up (m2 (inF false) (m_var 2) (mA tupA (m_cons (m_c (.int 0)) (m_cons (m1 lenG (m_var 4)) m_nil))))) (g_nm 5) [some (.fz (ringD T.a_Ring ns kds)), some (.fz (.str b)), some (.fz (.int (k : Nat))), some (.fz (.bl true)), some (.fz (.tup (strD ns))), none, none] = some (.nx [some (.fz (ringD T.a_Ring ns kds)), some (.fz (.str b)), some (.fz (.int (k : Nat))), some (.fz (.bl true)), some (.fz (.tup (strD ns))), some (.fz (.bl (decide (((k : Nat) : Int) = ((ns.length : Nat) : Int))))), none]) := by
    simp! [List.length_map, tupA2, in2_ok hk]
  have a5 : m_set (m_meth T.a_Ring "order" 2 (m_Ring_order T) (m_var 0) (m_cons (m_var 1) m_nil)) (g_nm 6) [some (.fz (ringD T.a_Ring ns kds)), some (.fz (.str b)), some (.fz (.int (k : Nat))), some (.fz (.bl true)), some (.fz (.tup (strD ns))), some (.fz (.bl (decide (((k : Nat) : Int) = ((ns.length : Nat) : Int))))), none] = some (.nx [some (.fz (ringD T.a_Ring ns kds)), some (.fz (.str b)), some (.fz (.int (k : Nat))), some (.fz (.bl true)), some (.fz (.tup (strD ns))), some (.fz (.bl (decide (((k : Nat) : Int) = ((ns.length : Nat) : Int))))), some (.fz (.tup (strD (orderOf ns sl b))))]) := by
    simp! [nl1, order_ok T g h hb]
  rw [seq_nx a1, seq_nx a2, seq_nx a3, seq_nx a4, seq_nx a5]
  by_cases e : k = ns.length
  · have e2 : ((k : Nat) : Int) = ((ns.length : Nat) : Int) := by omega
    rw [if_pos e, show (orderOf ns sl b).take k = orderOf ns sl b from List.take_of_length_le (by rw [order_len hb]; omega)]
    simp! [e2, isB, nl2, next_ok T g h hb, tupA3, lateD]
    try rfl
  · have e2 : ¬ ((k : Nat) : Int) = ((ns.length : Nat) : Int) := by omega
    rw [if_neg e]
    simp! [e2, slT_take, tupA3, lateD]
    try rfl
end
end K31
namespace K31
open PySem PySem.Spec PyProof.Rows L2 GF GD GL
local macro_rules
  | `(tactic| simp! [$ls,*]) => `(tactic| simp only [m_seq, m_set, m_up, m_fr, m1, m2, k2, mA, m_var, m_mv, m_c, m_k, m_ite, kif, m_if, kifS, m_not, m_ret, kret, m_drop, kdrop, m_cons, kc, kc2, m_nil, m_call, kcall, bnd_ok, bnd_ex, bndS_ok, bndS_ex, seqS_nx, seqS_rt, seqS_bk, seqS_ct, seqS_ex, loopS_nx, loopS_rt, loopS_ct, loopS_bk,
  un?, gt, st', kset, g_nm, g_tup, g_cons, g_nil, knot, kdrop, ifAny, ifOl, lkOl, m_r2, m_l2, m_l1, kv1, kv2, kix, m_ixV, m_append, kap, m_sl, ks0, ks1, ks2, m_noPart, kpart, m_on, kon2, isLst, isTup, isStr, m_or, isTupX, m_call1, kcall1, m_callN, kcallN, kcallN1, appD, m_callB, kcallB, m_meth, kmeth, m_make, kmake, m_makeB, kmakeB, m_par, kpar1, kpar2, m_par3, kpar3, m_parT, kparT, m_consX, m_nilX, kXs, kXs2, m_st, kst, m_setF, m_fldV, m_getV, kgetV, m_put, kput, kput2, m_reverse, m_clear, m_for, klist, ktup, kseq_l, kseq_t, m_lc, m_dc, m_while, m_brk, m_cnt, m_next, m_chain, kch0, kch1, kch, GD.intOp, leI, ltI, geI, gtI, addI, subI, modI, kbool, knotD, isiG, lenG, eqD_int, finF, colE, frz, Option.map_some, List.length_cons, List.length_nil, List.map_cons, List.map_nil, Bool.false_xor, Bool.true_xor, Bool.not_true, Bool.not_false, decide_true, decide_false, ite_true, ite_false, reduceIte, if_true, if_false, eq_self, Bool.false_eq_true, true_and, and_true, GD.flat_strs, Option.isNone_none, Nat.reduceAdd, Nat.reduceSub, Nat.reduceMul, Nat.reduceLT, Nat.reduceEqDiff, Int.reduceEq, Int.reduceLT, Int.reduceLE, Int.reduceAdd, Int.reduceSub, Int.reduceNeg, Int.cast_ofNat_Int, Int.natCast_zero, Int.natCast_one, $ls,*])

section
variable {K : PySem.W.Frag} {mg : Str → Option Value} (T : Tx K mg)
def StK (s : X) : Prop := ∃ cs k m, s = .st cs k m ∧ 0 < cs.length ∧ cs.length ≤ 63 ∧ m.natAbs < B4
theorem draw_ok {s : X} {n : Int} (h : StK s) (hn : 0 < n) (hb : n.natAbs < B4) : ∃ d s', m_l_draw T [s, .fz (.int n)] = some (.ok (.fz (.int d)) [s']) ∧ 0 ≤ d ∧ d < n ∧ StK s' := by
  obtain ⟨cs, k, m, rfl, h1, h2, h3⟩ := h
  refine ⟨drawV cs k m n, drawS cs k m n, ?_, ?_, ?_, ?_⟩
  · show drawF _ = _
    unfold drawF
    simp only
    rw [if_pos ⟨hn, hb, h1, h2, h3⟩]
  · unfold drawV
    simp only
    split <;> exact Int.emod_nonneg _ (Int.ne_of_gt hn)
  · unfold drawV
    simp only
    split <;> exact Int.emod_lt_of_pos _ hn
  · unfold drawS
    simp only
    split
    · exact ⟨_, _, _, rfl, by rw [List.length_set]; exact h1, by rw [List.length_set]; exact h2, h3⟩
    · refine ⟨_, _, _, rfl, h1, h2, ?_⟩
      generalize cs.getD (k % (cs.length : Int)).toNat 0 = c
      have n1 : 0 ≤ hashN m c := Int.emod_nonneg (m * 48271 + c + 12345) (show (2147483647 : Int) ≠ 0 by decide)
      have n2 : hashN m c < 2147483647 := Int.emod_lt_of_pos (m * 48271 + c + 12345) (show (0 : Int) < 2147483647 by decide)
      exact lt_B4 (Nat.lt_of_lt_of_le (show (hashN m c).natAbs < 2147483647 by omega) (by decide))
theorem small_B4 {n : Nat} (h : n ≤ 100000) : ((n : Nat) : Int).natAbs < B4 := lt_B4 (Nat.lt_of_le_of_lt (show (n : Int).natAbs ≤ 100000 by omega) (by decide))
theorem pick_ok {s : X} {ds : List D} (h : StK s) (h0 : ds ≠ []) (hl : ds.length ≤ 1000) : ∃ d s', m_l_pick T [s, .fz (.lst ds)] = some (.ok (.fz d) [s']) ∧ d ∈ ds ∧ StK s' := by
  have hp : 0 < ds.length := List.length_pos_iff.mpr h0
  obtain ⟨i, s', e, i0, i1, h'⟩ := draw_ok T (n := ((ds.length : Nat) : Int)) h (by omega) (small_B4 (by omega))
  obtain ⟨j, v, ej, hj, hv⟩ := at_some (xs := ds) i0 i1
  refine ⟨v, s', ?_, hv, h'⟩
  show finF [0] (mb_l_pick T [some s, some (.fz (.lst ds))]) = _
  unfold mb_l_pick
  have ei : ixA (.lst ds) (.int i) = some v := atI_at ej hj
  simp! [lenA, e, ei]
theorem pick_str {s : X} {z : Str} (h : StK s) (h0 : z.cps.toList ≠ []) (hl : z.cps.toList.length ≤ 1000) : ∃ c s', m_l_pick T [s, .fz (.str z)] = some (.ok (.fz (.str (one c))) [s']) ∧ c ∈ z.cps.toList ∧ StK s' := by
  have hp : 0 < z.cps.toList.length := List.length_pos_iff.mpr h0
  have hz : z.length = z.cps.toList.length := Array.length_toList.symm
  obtain ⟨i, s', e, i0, i1, h'⟩ := draw_ok T (n := ((z.length : Nat) : Int)) h (by omega) (small_B4 (by omega))
  obtain ⟨j, c, ej, hj, hv⟩ := at_some (xs := z.cps.toList) i0 (by omega)
  refine ⟨c, s', ?_, hv, h'⟩
  show finF [0] (mb_l_pick T [some s, some (.fz (.str z))]) = _
  unfold mb_l_pick
  have el : lenS (.str z) = some (.int (z.length : Nat)) := by
    unfold lenS
    simp only
    rw [if_pos (by rw [hz]; exact small_sz (by omega))]
  have ei : ixA (.str z) (.int i) = some (.str (one c)) := by
    show ixS (.str z) (.int i) = _
    unfold ixS
    simp only
    rw [if_pos (by rw [hz]; exact small_sz (by omega)), atI_at ej hj]
    rfl
  simp! [lenA, el, e, ei]
end
end K31
namespace K31
open PySem PySem.Spec PyProof.Rows L2 GF GD GL
section
variable {ns gs rest : List Str} {b : Str} {z : Option Str} {sl : Str → Int}
/-- the slips leave all these rests -/
def Fits (sl : Str → Int) (ps : List (Str × Nat × Nat)) : Prop := ∀ p ∈ ps, sl p.1 % (p.2.2 : Int) = (p.2.1 : Int)
/-- the round follows the sighting -/
def Follows (ns : List Str) (sl : Str → Int) (b : Str) (gs : List Str) (z : Option Str) : Prop := (orderOf ns sl b).take gs.length = gs ∧ ∀ y, z = some y → y = nextOf ns sl b
theorem fits_due (s : Sight ns gs b rest z) : Fits sl (due ns b rest z) ↔ Fits sl (told1 ns b rest z) := by
  refine ⟨fun h p hp => ?_, fun h p hp => h p (List.mem_filter.mp hp).1⟩
  by_cases e : p.2.2 = 1
  · have h0 : p.2.1 < p.2.2 ∨ p.2.1 = 0 := by
      unfold told1 at hp
      rcases List.mem_append.mp hp with hp | hp
      · left
        have go : ∀ (rest f : List Str) (g : Str), g ∈ ns → (∀ y ∈ rest, y ∈ ns ∧ y ∉ f) → rest.Nodup → ∀ p ∈ tell ns f g rest, p.2.1 < p.2.2 := by
          intro rest
          induction rest with
          | nil => intro _ _ _ _ _ p hp; cases hp
          | cons y r ih =>
            intro f g hg hr hd p hp
            rw [tell] at hp
            have hy := hr y List.mem_cons_self
            obtain ⟨d1, d2⟩ := List.nodup_cons.mp hd
            rcases List.mem_cons.mp hp with rfl | hp
            · exact idx_lt (sit_mem.mpr hy)
            · exact ih (f ++ [y]) y hy.1 (fun w hw => ⟨(hr w (List.mem_cons_of_mem _ hw)).1, fun q => by
                rcases List.mem_append.mp q with q | q
                · exact (hr w (List.mem_cons_of_mem _ hw)).2 q
                · rw [List.mem_singleton.mp q] at hw; exact d1 hw⟩) d2 p hp
        exact go rest [b] b s.inb (fun y hy => ⟨(s.inr y hy).1, fun q => (s.inr y hy).2 (List.mem_singleton.mp q)⟩) s.nd p hp
      · cases z with
        | none => cases hp
        | some y =>
          rw [List.mem_singleton.mp hp] at e
          have := s.good.two
          simp at e
          omega
    have h1 : p.2.1 = 0 := by omega
    rw [e, h1]
    simp
  · exact h p (List.mem_filter.mpr ⟨hp, decide_eq_true e⟩)
theorem follows_iff (s : Sight ns gs b rest z) : Follows ns sl b gs z ↔ Fits sl (told1 ns b rest z) := by
  have hn := s.good.nd
  have hl := s.lg
  have t := tell_nexts (sl := sl) hn rest [b] b s.inb s.nd (fun y hy => ⟨(s.inr y hy).1, fun q => (s.inr y hy).2 (List.mem_singleton.mp q)⟩)
  rw [sitting_first hn s.inb, behind_len s.inb] at t
  have ho : (orderOf ns sl b).take gs.length = gs ↔ (nexts sl (ns.length - 1) b (behind ns b)).take rest.length = rest := by
    rw [hl, s.eg]
    unfold orderOf
    rw [List.take_succ_cons, List.cons.injEq]
    exact ⟨fun h => h.2, fun h => ⟨rfl, h⟩⟩
  unfold Follows
  rw [ho, t]
  unfold told1 Fits
  cases z with
  | none =>
    rw [List.append_nil]
    exact ⟨fun h => h.1, fun h => ⟨h, fun y e => nomatch e⟩⟩
  | some y =>
    obtain ⟨h1, h2⟩ := s.late y rfl
    have key : (∀ p ∈ tell ns [b] b rest, sl p.1 % (p.2.2 : Int) = (p.2.1 : Int)) → (y = nextOf ns sl b ↔ sl (lastS b rest) % ((ns.length : Nat) : Int) = (((rot ns (lastS b rest)).idxOf y : Nat) : Int)) := fun h => by
      have h3 := ho.mpr (t.mpr h)
      rw [List.take_of_length_le (by rw [order_len s.inb]; omega)] at h3
      have h4 : lastOf ns sl b = lastS b rest := by
        unfold lastOf lastS
        have : orderOf ns sl b = b :: rest := h3.trans s.eg
        simp only [this]
      have hlast := last_in s
      have hne : rot ns (lastS b rest) ≠ [] := fun q => by
        have := rot_len (ns := ns) (x := lastS b rest)
        rw [q] at this
        have := s.good.two
        simp at *
        omega
      obtain ⟨j, ej, hj, hjn, _⟩ := spot (sl (lastS b rest)) hne
      have hnd : (rot ns (lastS b rest)).Nodup := (rotP_perm ns _).nodup_iff.mpr hn
      have hgd := getD_idx hnd ((rotP_perm ns _).mem_iff.mpr h1) hj
      have hnx : nextOf ns sl b = (rot ns (lastS b rest)).getD j Str.empty := by
        unfold nextOf ledOf
        rw [h4, ← hjn, rot_len]
      rw [rot_len] at ej
      rw [hnx, ej]
      constructor
      · intro e
        have := hgd.mp e.symm
        omega
      · intro e
        exact (hgd.mpr (by omega)).symm
    constructor
    · rintro ⟨h, h'⟩ p hp
      rcases List.mem_append.mp hp with hp | hp
      · exact h p hp
      · rw [List.mem_singleton.mp hp]
        exact (key h).mp (h' y rfl)
    · intro h
      have hA : ∀ p ∈ tell ns [b] b rest, sl p.1 % (p.2.2 : Int) = (p.2.1 : Int) := fun p hp => h p (List.mem_append_left _ hp)
      refine ⟨hA, fun w e => ?_⟩
      obtain rfl := Option.some.inj e
      exact (key hA).mpr (h _ (List.mem_append_right _ List.mem_cons_self))
end
end K31
namespace K31
open PySem PySem.Spec PyProof.Rows L2 GF GD GL
local macro_rules
  | `(tactic| simp! [$ls,*]) => `(tactic| simp only [m_seq, m_set, m_up, m_fr, m1, m2, k2, mA, m_var, m_mv, m_c, m_k, m_ite, kif, m_if, kifS, m_not, m_ret, kret, m_drop, kdrop, m_cons, kc, kc2, m_nil, m_call, kcall, bnd_ok, bnd_ex, bndS_ok, bndS_ex, seqS_nx, seqS_rt, seqS_bk, seqS_ct, seqS_ex, loopS_nx, loopS_rt, loopS_ct, loopS_bk,
  un?, gt, st', kset, g_nm, g_tup, g_cons, g_nil, knot, kdrop, ifAny, ifOl, lkOl, m_r2, m_l2, m_l1, kv1, kv2, kix, m_ixV, m_append, kap, m_sl, ks0, ks1, ks2, m_noPart, kpart, m_on, kon2, isLst, isTup, isStr, m_or, isTupX, m_call1, kcall1, m_callN, kcallN, kcallN1, appD, m_callB, kcallB, m_meth, kmeth, m_make, kmake, m_makeB, kmakeB, m_par, kpar1, kpar2, m_par3, kpar3, m_parT, kparT, m_consX, m_nilX, kXs, kXs2, m_st, kst, m_setF, m_fldV, m_getV, kgetV, m_put, kput, kput2, m_reverse, m_clear, m_for, klist, ktup, kseq_l, kseq_t, m_lc, m_dc, m_while, m_brk, m_cnt, m_next, m_chain, kch0, kch1, kch, GD.intOp, leI, ltI, geI, gtI, addI, subI, modI, kbool, knotD, isiG, lenG, eqD_int, finF, colE, frz, Option.map_some, List.length_cons, List.length_nil, List.map_cons, List.map_nil, Bool.false_xor, Bool.true_xor, Bool.not_true, Bool.not_false, decide_true, decide_false, ite_true, ite_false, reduceIte, if_true, if_false, eq_self, Bool.false_eq_true, true_and, and_true, GD.flat_strs, Option.isNone_none, Nat.reduceAdd, Nat.reduceSub, Nat.reduceMul, Nat.reduceLT, Nat.reduceEqDiff, Int.reduceEq, Int.reduceLT, Int.reduceLE, Int.reduceAdd, Int.reduceSub, Int.reduceNeg, Int.cast_ofNat_Int, Int.natCast_zero, Int.natCast_one, $ls,*])

section
variable {K : PySem.W.Frag} {mg : Str → Option Value} (T : Tx K mg)
theorem mixed_loop {n0 : D} : ∀ (k fuel : Nat) (s : X) (ls fs : List Str), ls.length = k → k < fuel → StK s → (∀ y ∈ ls, PyData.strOk y = true) → fs.length + ls.length ≤ 1000 →
    ∃ s' zs, StK s' ∧ zs.Perm (fs ++ ls) ∧ whL (if_l_mixed1 T) (lp_l_mixed2 T) fuel [some s, some (.fz n0), some (.ol (strD ls)), some (.ol (strD fs))] = some (.nx [some s', some (.fz n0), some (.ol []), some (.ol (strD zs))])
  | k, 0, _, _, _, _, hf, _, _, _ => absurd hf (Nat.not_lt_zero _)
  | k, fuel + 1, s, ls, fs, hk, hf, hs, ho, hl => by
    have eq := eqD_strs true ho (b := []) (fun _ h => nomatch h)
    have ht : if_l_mixed1 T [some s, some (.fz n0), some (.ol (strD ls)), some (.ol (strD fs))] = some (.ok (!decide (ls = [])) [some s, some (.fz n0), some (.ol (strD ls)), some (.ol (strD fs))]) := by
      have eq2 : eqD true (.lst (strD ls)) (.lst []) = some (.bl (!decide (ls = []))) := by
        rw [← Bool.true_xor]
        exact eq
      unfold if_l_mixed1
      simp! [lstA_nil, eq2]
    rw [whL, ht]
    cases ls with
    | nil =>
      refine ⟨s, fs, hs, by rw [List.append_nil], ?_⟩
      rfl
    | cons l r =>
      show ∃ (s' : X) (zs : List Str), StK s' ∧ zs.Perm (fs ++ l :: r) ∧ loopS (lp_l_mixed2 T [some s, some (.fz n0), some (.ol (strD (l :: r))), some (.ol (strD fs))]) (whL (if_l_mixed1 T) (lp_l_mixed2 T) fuel) = _
      generalize hls : l :: r = ls at hk hl ho ⊢
      have hp : 0 < ls.length := by rw [← hls]; simp
      obtain ⟨d, s1, ed, d0, d1, hs1⟩ := draw_ok T (n := ((ls.length : Nat) : Int)) hs (by omega) (small_B4 (by omega))
      obtain ⟨j, v, ej, hj, hv⟩ := at_some d0 d1
      have hjl := (List.getElem?_eq_some_iff.mp hj).1
      have hsi : seqIndex? d (strD ls).length = some j := by
        subst ej
        rw [List.length_map, seqIndex_of d0 d1]
        rfl
      have hgv : (strD ls)[j]? = some (.str v) := by rw [strD, List.getElem?_map, hj]; rfl
      have her : (strD ls).eraseIdx j = strD (ls.eraseIdx j) := erase_map _ _ _
      have body : lp_l_mixed2 T [some s, some (.fz n0), some (.ol (strD ls)), some (.ol (strD fs))] = some (.nx [some s1, some (.fz n0), some (.ol (strD (ls.eraseIdx j))), some (.ol (strD (fs ++ [v])))]) := by
        have p1 : m_popAt 2 (m_fr (m_call1 2 (m_l_draw T) 0 (m_cons (m_l1 lenG 2) m_nil))) [some s, some (.fz n0), some (.ol (strD ls)), some (.ol (strD fs))] = some (.ok (.str v) [some s1, some (.fz n0), some (.ol (strD (ls.eraseIdx j))), some (.ol (strD fs))]) := by
          have hb : -(2 ^ 63) ≤ d ∧ d < 2 ^ 63 := by omega
          have q1 : m_fr (m_call1 2 (m_l_draw T) 0 (m_cons (m_l1 lenG 2) m_nil)) [some s, some (.fz n0), some (.ol (strD ls)), some (.ol (strD fs))] = some (.ok (.int d) [some s1, some (.fz n0), some (.ol (strD ls)), some (.ol (strD fs))]) := by
            simp! [List.length_map, ed]
          unfold m_popAt ifOl
          show bnd (m_fr (m_call1 2 (m_l_draw T) 0 (m_cons (m_l1 lenG 2) m_nil)) [some s, some (.fz n0), some (.ol (strD ls)), some (.ol (strD fs))]) (kpop 2) = _
          rw [q1, bnd_ok]
          unfold kpop
          show (if -(2 ^ 63) ≤ d ∧ d < 2 ^ 63 then _ else none) = _
          rw [if_pos hb, hsi]
          show (match (strD ls)[j]? with | some y => _ | none => none) = _
          rw [hgv, her]
          rfl
        have p2 := append_ok (i := 3) (ds := strD fs) (ds0 := strD fs) p1 rfl rfl (by rw [List.length_map]; exact small_lt (by omega))
        unfold lp_l_mixed2
        rw [drop_ok p2]
        show some (Ot.nx [some s1, some (.fz n0), some (.ol (strD (ls.eraseIdx j))), some (.ol (strD fs ++ [.str v]))]) = _
        rw [show strD fs ++ [D.str v] = strD (fs ++ [v]) from (List.map_append (f := D.str) (l₁ := fs) (l₂ := [v])).symm]
      obtain ⟨s', zs, h1, h2, h3⟩ := mixed_loop (ls.eraseIdx j).length fuel s1 (ls.eraseIdx j) (fs ++ [v]) rfl (by rw [List.length_eraseIdx, if_pos hjl]; omega) hs1 (fun y hy => ho y (List.mem_of_mem_eraseIdx hy)) (by rw [List.length_eraseIdx, if_pos hjl, List.length_append, List.length_singleton]; omega)
      refine ⟨s', zs, h1, h2.trans ?_, ?_⟩
      · rw [List.append_assoc]
        exact (List.Perm.refl fs).append (erase_perm hj)
      · rw [body, loopS_nx]
        exact h3
theorem mixed_ok {s : X} {ns : List Str} (hs : StK s) (ho : ∀ y ∈ ns, PyData.strOk y = true) (hl : ns.length ≤ 100) : ∃ s' zs, m_l_mixed T [s, .fz (.lst (strD ns))] = some (.ok (.ol (strD zs)) [s']) ∧ zs.Perm ns ∧ StK s' := by
  obtain ⟨s', zs, h1, h2, h3⟩ := mixed_loop T (n0 := .lst (strD ns)) ns.length 100000 s ns [] rfl (by omega) hs ho (by rw [List.length_nil]; omega)
  refine ⟨s', zs, ?_, h2, h1⟩
  show finF [0] (mb_l_mixed T [some s, some (.fz (.lst (strD ns))), none, none]) = _
  unfold mb_l_mixed
  have a1 : m_par 2 3 (m1 listG (m_var 1)) (mA lstA m_nil) [some s, some (.fz (.lst (strD ns))), none, none] = some (.nx [some s, some (.fz (.lst (strD ns))), some (.ol (strD ns)), some (.ol [])]) := by
    simp! [listG, lstA_nil]
  rw [seq_nx a1]
  have a2 : m_while 100000 (if_l_mixed1 T) (lp_l_mixed2 T) [some s, some (.fz (.lst (strD ns))), some (.ol (strD ns)), some (.ol [])] = some (.nx [some s', some (.fz (.lst (strD ns))), some (.ol []), some (.ol (strD zs))]) := h3
  rw [seq_nx a2]
  simp! []
end
end K31
namespace K31
open PySem PySem.Spec PyProof.Rows L2 GF GD GL
local macro_rules
  | `(tactic| simp! [$ls,*]) => `(tactic| simp only [m_seq, m_set, m_up, m_fr, m1, m2, k2, mA, m_var, m_mv, m_c, m_k, m_ite, kif, m_if, kifS, m_not, m_ret, kret, m_drop, kdrop, m_cons, kc, kc2, m_nil, m_call, kcall, bnd_ok, bnd_ex, bndS_ok, bndS_ex, seqS_nx, seqS_rt, seqS_bk, seqS_ct, seqS_ex, loopS_nx, loopS_rt, loopS_ct, loopS_bk,
  un?, gt, st', kset, g_nm, g_tup, g_cons, g_nil, knot, kdrop, ifAny, ifOl, lkOl, m_r2, m_l2, m_l1, kv1, kv2, kix, m_ixV, m_append, kap, m_sl, ks0, ks1, ks2, m_noPart, kpart, m_on, kon2, isLst, isTup, isStr, m_or, isTupX, m_call1, kcall1, m_callN, kcallN, kcallN1, appD, m_callB, kcallB, m_meth, kmeth, m_make, kmake, m_makeB, kmakeB, m_par, kpar1, kpar2, m_par3, kpar3, m_parT, kparT, m_consX, m_nilX, kXs, kXs2, m_st, kst, m_setF, m_fldV, m_getV, kgetV, m_put, kput, kput2, m_reverse, m_clear, m_for, klist, ktup, kseq_l, kseq_t, m_lc, m_dc, m_while, m_brk, m_cnt, m_next, m_chain, kch0, kch1, kch, GD.intOp, leI, ltI, geI, gtI, addI, subI, modI, kbool, knotD, isiG, lenG, eqD_int, finF, colE, frz, Option.map_some, List.length_cons, List.length_nil, List.map_cons, List.map_nil, Bool.false_xor, Bool.true_xor, Bool.not_true, Bool.not_false, decide_true, decide_false, ite_true, ite_false, reduceIte, if_true, if_false, eq_self, Bool.false_eq_true, true_and, and_true, GD.flat_strs, Option.isNone_none, Nat.reduceAdd, Nat.reduceSub, Nat.reduceMul, Nat.reduceLT, Nat.reduceEqDiff, Int.reduceEq, Int.reduceLT, Int.reduceLE, Int.reduceAdd, Int.reduceSub, Int.reduceNeg, Int.cast_ofNat_Int, Int.natCast_zero, Int.natCast_one, $ls,*])

theorem call1_ok {n i : Nat} {f : List X → Option Rf} {m : OM (List D)} {ê e : En} {ds : List D} {x x1 x0 y : X} (h1 : gt ê i = some x1) (h : m ê = some (.ok ds e)) (h0 : gt e i = some x0) (hn : ds.length + 1 = n) (hf : f (x0 :: ds.map .fz) = some (.ok x [y])) : m_call1 n f i m ê = some (.ok x (st' e i (some y))) := by
  unfold m_call1 ifAny
  rw [h1]
  show bnd (m ê) (kcall1 n f i) = _
  rw [h, bnd_ok]
  unfold kcall1
  rw [h0]
  show (if ds.length + 1 = n then _ else none) = _
  rw [if_pos hn, hf]
theorem mul_ok {a b : Int} (ha : a.natAbs < 10 ^ 900) (hb : b.natAbs < 10 ^ 900) : mulI (.int a) (.int b) = some (.int (a * b)) := by
  unfold mulI GD.intOp
  simp only
  rw [if_pos ⟨lt_B4 (Nat.lt_of_lt_of_le ha (Nat.pow_le_pow_right (by decide) (by decide))), lt_B4 (Nat.lt_of_lt_of_le hb (Nat.pow_le_pow_right (by decide) (by decide)))⟩]
theorem pow7 : powI (.int 10) (.int 7) = some (.int 10000000) := by
  unfold powI GD.intOp
  simp only
  rw [if_pos ⟨by decide, by decide, by decide⟩]
  rfl
section
variable {K : PySem.W.Frag} {mg : Str → Option Value} (T : Tx K mg)
theorem slip_loop {k : X} : ∀ (m a : Nat) (s : X) (z : Int) (x3 : Option X) (c : Nat), StK s → z.natAbs < 10 ^ c → c + 8 * m ≤ 100 →
    ∃ (s' : X) (z' : Int) (y3 : Option X), StK s' ∧ z'.natAbs < 10 ^ 100 ∧ forL (g_nm 3) (lp_l_slip1 T) (cnt a m) [some s, some k, some (.fz (.int z)), x3] = some (.nx [some s', some k, some (.fz (.int z')), y3])
  | 0, a, s, z, x3, c, hs, hz, hc => ⟨s, z, x3, hs, Nat.lt_of_lt_of_le hz (Nat.pow_le_pow_right (by decide) (by omega)), rfl⟩
  | m + 1, a, s, z, x3, c, hs, hz, hc => by
    obtain ⟨d, s1, e1, d0, d1, hs1⟩ := draw_ok T (n := 10000000) hs (by decide) (lt_B4 (by decide))
    have hz2 : (z * 10000000 + d).natAbs < 10 ^ (c + 8) := by
      have h1 : (z * 10000000 + d).natAbs ≤ z.natAbs * 10000000 + 10000000 := by omega
      have h2 : z.natAbs + 1 ≤ 10 ^ c := hz
      have h3 : (z.natAbs + 1) * 10000000 ≤ 10 ^ c * 10000000 := Nat.mul_le_mul_right _ h2
      have h4 : 0 < 10 ^ c := Nat.pow_pos (by decide)
      rw [Nat.pow_add, show (10 : Nat) ^ 8 = 100000000 from rfl]
      omega
    obtain ⟨s', z', y3, h1, h2, h3⟩ := slip_loop m (a + 1) s1 (z * 10000000 + d) (some (.fz (.int ((a : Nat) : Int)))) (c + 8) hs1 hz2 (by omega)
    refine ⟨s', z', y3, h1, h2, ?_⟩
    have hm := mul_ok (a := z) (b := 10000000) (Nat.lt_of_lt_of_le hz (Nat.pow_le_pow_right (by decide) (by omega))) (Nat.lt_of_lt_of_le (show (10000000 : Int).natAbs < 10 ^ 9 by decide) (Nat.pow_le_pow_right (by decide) (by decide)))
    have body : lp_l_slip1 T [some s, some k, some (.fz (.int z)), some (.fz (.int ((a : Nat) : Int)))] = some (.nx [some s1, some k, some (.fz (.int (z * 10000000 + d))), some (.fz (.int ((a : Nat) : Int)))]) := by
      unfold lp_l_slip1
      simp! [pow7, hm, e1]
    rw [cnt_succ, forL]
    show loopS (lp_l_slip1 T [some s, some k, some (.fz (.int z)), some (.fz (.int ((a : Nat) : Int)))]) _ = _
    rw [body, loopS_nx]
    exact h3
theorem slip_ok {s : X} (hs : StK s) : ∃ d s', m_l_slip T [s] = some (.ok (.fz (.int d)) [s']) ∧ StK s' := by
  obtain ⟨k, s1, e1, k0, k1, hs1⟩ := draw_ok T (n := 6) hs (by decide) (lt_B4 (by decide))
  have l6 : lstA [.int 3, .int 13, .int 27721, .int 40, .int 1000000, .int 10] = some (.ol [.int 3, .int 13, .int 27721, .int 40, .int 1000000, .int 10]) := if_pos (show 6 ≤ sizeLine by decide)
  obtain ⟨n, hn, n0, n1⟩ : ∃ n : Int, ixL (.lst [.int 3, .int 13, .int 27721, .int 40, .int 1000000, .int 10]) (.int k) = some (.int n) ∧ 0 < n ∧ n ≤ 1000000 := by
    have : k = 0 ∨ k = 1 ∨ k = 2 ∨ k = 3 ∨ k = 4 ∨ k = 5 := by omega
    rcases this with rfl | rfl | rfl | rfl | rfl | rfl <;> exact ⟨_, rfl, by decide, by decide⟩
  obtain ⟨z, s2, e2, z0, z1, hs2⟩ := draw_ok T (n := n) hs1 n0 (lt_B4 (Nat.lt_of_le_of_lt (show n.natAbs ≤ 1000000 by omega) (by decide)))
  have a1 : m_set (m_call1 2 (m_l_draw T) 0 (m_cons (m_c (.int 6)) m_nil)) (g_nm 1) [some s, none, none, none] = some (.nx [some s1, some (.fz (.int k)), none, none]) := by simp! [e1]
  have a2 : m_set (m_call1 2 (m_l_draw T) 0 (m_cons (m2 ixL (m_fr (mA lstA (m_cons (m_c (.int 3)) (m_cons (m_c (.int 13)) (m_cons (m_c (.int 27721)) (m_cons (m_c (.int 40)) (m_cons (m_c (.int 1000000)) (m_cons (m_c (.int 10)) m_nil)))))))) (m_var 1)) m_nil)) (g_nm 2) [some s1, some (.fz (.int k)), none, none] = some (.nx [some s2, some (.fz (.int k)), some (.fz (.int z)), none]) := by
    simp! [l6, hn, e2]
  obtain ⟨s3, z3, hs3, hz3, a3⟩ : ∃ s3 z3, StK s3 ∧ Int.natAbs z3 < 10 ^ 12 ∧ m_if (m1 kbool (m2 (eqD false) (m_var 1) (m_c (.int 3)))) (m_set (m_up (m2 addI (m2 mulI (m_var 2) (m_c (.int 27720))) (m_fr (m_call1 2 (m_l_draw T) 0 (m_cons (m_c (.int 3)) m_nil))))) (g_nm 2)) m_next [some s2, some (.fz (.int k)), some (.fz (.int z)), none] = some (.nx [some s3, some (.fz (.int k)), some (.fz (.int z3)), none]) := by
    by_cases c : k = 3
    · obtain ⟨d, s3, e3, d0, d1, hs3⟩ := draw_ok T (n := 3) hs2 (by decide) (lt_B4 (by decide))
      have hm := mul_ok (a := z) (b := 27720) (Nat.lt_of_lt_of_le (show z.natAbs < 10 ^ 9 by omega) (Nat.pow_le_pow_right (by decide) (by decide))) (Nat.lt_of_lt_of_le (show (27720 : Int).natAbs < 10 ^ 9 by decide) (Nat.pow_le_pow_right (by decide) (by decide)))
      refine ⟨s3, z * 27720 + d, hs3, by omega, ?_⟩
      simp! [c, hm, e3]
    · refine ⟨s2, z, hs2, by omega, ?_⟩
      simp! [c]
  obtain ⟨s4, z4, y3, hs4, hz4, a4⟩ : ∃ (s4 : X) (z4 : Int) (y3 : Option X), StK s4 ∧ Int.natAbs z4 < 10 ^ 100 ∧ m_if (m1 kbool (m2 (eqD false) (m_var 1) (m_c (.int 5)))) (m_for (mA krng1 (m_cons (m_fr (m_call1 2 (m_l_draw T) 0 (m_cons (m_c (.int 9)) m_nil))) m_nil)) (g_nm 3) (lp_l_slip1 T)) m_next [some s3, some (.fz (.int k)), some (.fz (.int z3)), none] = some (.nx [some s4, some (.fz (.int k)), some (.fz (.int z4)), y3]) := by
    by_cases c : k = 5
    · obtain ⟨d, s4, e4, d0, d1, hs4⟩ := draw_ok T (n := 9) hs3 (by decide) (lt_B4 (by decide))
      obtain ⟨j, rfl⟩ := Int.eq_ofNat_of_zero_le d0
      obtain ⟨s5, z5, y3, hs5, hz5, e5⟩ := slip_loop T (k := .fz (.int k)) j 0 s4 z3 none 12 hs4 hz3 (by omega)
      refine ⟨s5, z5, y3, hs5, hz5, ?_⟩
      refine if_t (e := [some s3, some (.fz (.int k)), some (.fz (.int z3)), none]) (by simp! [c]) ?_
      have b : (m_cons (m_fr (m_call1 2 (m_l_draw T) 0 (m_cons (m_c (.int 9)) m_nil))) m_nil) [some s3, some (.fz (.int k)), some (.fz (.int z3)), none] = some (.ok [.int ((j : Nat) : Int)] [some s4, some (.fz (.int k)), some (.fz (.int z3)), none]) := by simp! [e4]
      exact for_ok (mA_ok b (krng1_ok (by omega))) e5
    · refine ⟨s3, z3, none, hs3, Nat.lt_of_lt_of_le hz3 (Nat.pow_le_pow_right (by decide) (by decide)), ?_⟩
      exact if_f (e := [some s3, some (.fz (.int k)), some (.fz (.int z3)), none]) (by simp! [c]) rfl
  obtain ⟨d, s5, e5, d0, d1, hs5⟩ := draw_ok T (n := 3) hs4 (by decide) (lt_B4 (by decide))
  have l3 : lstA [.int 1, .int 1, .int (-1)] = some (.ol [.int 1, .int 1, .int (-1)]) := if_pos (show 3 ≤ sizeLine by decide)
  obtain ⟨g, hg, g1⟩ : ∃ g : Int, ixL (.lst [.int 1, .int 1, .int (-1)]) (.int d) = some (.int g) ∧ g.natAbs = 1 := by
    have : d = 0 ∨ d = 1 ∨ d = 2 := by omega
    rcases this with rfl | rfl | rfl <;> exact ⟨_, rfl, by decide⟩
  have hm := mul_ok (a := z4) (b := g) (Nat.lt_of_lt_of_le hz4 (Nat.pow_le_pow_right (by decide) (by decide))) (Nat.lt_of_lt_of_le (show g.natAbs < 10 ^ 9 by omega) (Nat.pow_le_pow_right (by decide) (by decide)))
  refine ⟨z4 * g, s5, ?_, hs5⟩
  show finF [0] (mb_l_slip T [some s, none, none, none]) = _
  unfold mb_l_slip
  rw [seq_nx a1, seq_nx a2, seq_nx a3, seq_nx a4]
  simp! [negI, l3, e5, hg, hm]
end
end K31
namespace K31
open PySem PySem.Spec PyProof.Rows L2 GF GD GL
local macro_rules
  | `(tactic| simp! [$ls,*]) => `(tactic| simp only [m_seq, m_set, m_up, m_fr, m1, m2, k2, mA, m_var, m_mv, m_c, m_k, m_ite, kif, m_if, kifS, m_not, m_ret, kret, m_drop, kdrop, m_cons, kc, kc2, m_nil, m_call, kcall, bnd_ok, bnd_ex, bndS_ok, bndS_ex, seqS_nx, seqS_rt, seqS_bk, seqS_ct, seqS_ex, loopS_nx, loopS_rt, loopS_ct, loopS_bk,
  un?, gt, st', kset, g_nm, g_tup, g_cons, g_nil, knot, kdrop, ifAny, ifOl, lkOl, m_r2, m_l2, m_l1, kv1, kv2, kix, m_ixV, m_append, kap, m_sl, ks0, ks1, ks2, m_noPart, kpart, m_on, kon2, isLst, isTup, isStr, m_or, isTupX, m_call1, kcall1, m_callN, kcallN, kcallN1, appD, m_callB, kcallB, m_meth, kmeth, m_make, kmake, m_makeB, kmakeB, m_par, kpar1, kpar2, m_par3, kpar3, m_parT, kparT, m_consX, m_nilX, kXs, kXs2, m_st, kst, m_setF, m_fldV, m_getV, kgetV, m_put, kput, kput2, m_reverse, m_clear, m_for, klist, ktup, kseq_l, kseq_t, m_lc, m_dc, m_while, m_brk, m_cnt, m_next, m_chain, kch0, kch1, kch, GD.intOp, leI, ltI, geI, gtI, addI, subI, modI, kbool, knotD, isiG, lenG, eqD_int, finF, colE, frz, Option.map_some, List.length_cons, List.length_nil, List.map_cons, List.map_nil, Bool.false_xor, Bool.true_xor, Bool.not_true, Bool.not_false, decide_true, decide_false, ite_true, ite_false, reduceIte, if_true, if_false, eq_self, Bool.false_eq_true, true_and, and_true, GD.flat_strs, Option.isNone_none, Nat.reduceAdd, Nat.reduceSub, Nat.reduceMul, Nat.reduceLT, Nat.reduceEqDiff, Int.reduceEq, Int.reduceLT, Int.reduceLE, Int.reduceAdd, Int.reduceSub, Int.reduceNeg, Int.cast_ofNat_Int, Int.natCast_zero, Int.natCast_one, $ls,*])

theorem zip_slips : ∀ {ns : List Str} {zs : List Int}, zs.length = ns.length → ns.Nodup → ∃ sl : Str → Int, (ns.map fun n => (Sum.inr n : Key)).zip (zs.map D.int) = slD ns sl
  | [], [], _, _ => ⟨fun _ => 0, rfl⟩
  | [], _ :: _, h, _ => by simp at h
  | _ :: _, [], h, _ => by simp at h
  | n :: r, z :: q, h, hd => by
    obtain ⟨d1, d2⟩ := List.nodup_cons.mp hd
    obtain ⟨sl, e⟩ := zip_slips (ns := r) (zs := q) (by simpa using h) d2
    refine ⟨fun x => if x = n then z else sl x, ?_⟩
    rw [List.map_cons, List.map_cons, List.zip_cons_cons, e]
    unfold slD
    rw [List.map_cons]
    congr 1
    · show ((Sum.inr n : Key), D.int z) = ((Sum.inr n : Key), D.int (if n = n then z else sl n))
      rw [if_pos rfl]
    · refine List.map_congr_left fun x hx => ?_
      show ((Sum.inr x : Key), D.int (sl x)) = ((Sum.inr x : Key), D.int (if x = n then z else sl x))
      rw [if_neg fun q : x = n => d1 (q ▸ hx)]
theorem merge_slips (sl : Str → Int) : ∀ (zs : List Str) (acc : List (Key × D)), zs.Nodup → (∀ n ∈ zs, (Sum.inr n : Key) ∉ acc.map (·.1)) → mergeG acc (slD zs sl) = acc ++ slD zs sl
  | [], acc, _, _ => by show acc = acc ++ []; rw [List.append_nil]
  | n :: r, acc, hd, hk => by
    obtain ⟨d1, d2⟩ := List.nodup_cons.mp hd
    show mergeG (putG acc (Sum.inr n) (.int (sl n))) (slD r sl) = _
    rw [putG_new (hk n List.mem_cons_self), merge_slips sl r _ d2 (fun y hy z => by
      rw [List.map_append] at z
      rcases List.mem_append.mp z with z | z
      · exact hk y (List.mem_cons_of_mem _ hy) z
      · have := List.mem_singleton.mp z
        rw [Sum.inr.injEq] at this
        rw [this] at hy
        exact d1 hy), List.append_assoc]
    rfl
theorem keys_strs : ∀ ns : List Str, keysD (strD ns) = some (ns.map fun n => (Sum.inr n : Key))
  | [] => rfl
  | n :: r => by
    rw [strD, List.map_cons, keysD, keys_strs r]
    rfl
theorem ints_of {ds ys : List D} (h : Paired (fun _ y => ∃ z : Int, y = D.int z) ds ys) : ∃ zs : List Int, ys = zs.map D.int ∧ zs.length = ds.length := by
  induction h with
  | nil => exact ⟨[], rfl, rfl⟩
  | cons h t ih =>
    obtain ⟨z, rfl⟩ := h
    obtain ⟨zs, e, hl⟩ := ih
    exact ⟨z :: zs, by rw [e]; rfl, by rw [List.length_cons, List.length_cons, hl]⟩
theorem dictZ_ok {ns : List Str} {zs : List Int} (hl : zs.length = ns.length) (hd : ns.Nodup) : ∃ sl : Str → Int, dictZG [.lst (strD ns), .lst (zs.map D.int)] = some (.od (slD ns sl)) := by
  obtain ⟨sl, e⟩ := zip_slips hl hd
  refine ⟨sl, ?_⟩
  unfold dictZG
  simp only [keys_strs]
  rw [if_pos (by rw [List.length_map, List.length_map, hl]), e, merge_slips sl ns [] hd (fun _ _ z => nomatch z), List.nil_append]
theorem flat_rep (z : D) : ∀ n : Nat, (List.replicate n [z]).flatten = List.replicate n z
  | 0 => rfl
  | n + 1 => by rw [List.replicate_succ, List.flatten_cons, flat_rep z n]; rfl
section
variable {K : PySem.W.Frag} {mg : Str → Option Value} (T : Tx K mg)
theorem marks_ok {s : X} {ns : List Str} (hs : StK s) (g : GoodNs ns) : ∃ sl s', m_l_marks T [s, .fz (.lst (strD ns))] = some (.ok (.od (slD ns sl)) [s']) ∧ StK s' := by
  have l12 := g.twelve
  have l2 := g.two
  obtain ⟨ys, e', el, ⟨s1, hs1, he⟩, hy⟩ := lc_run (mg := g_nm 3) (mt := m_k true) (me := el_l_marks1 T) (vs := [3]) (fun e => ∃ q, StK q ∧ e = [some q, some (.fz (.lst (strD ns))), none, none]) (fun _ y => ∃ z : Int, y = D.int z) (strD ns) [] [some s, some (.fz (.lst (strD ns))), none, none] ⟨s, hs, rfl⟩ (fun d hd e ⟨q, hq, he⟩ => by
    subst he
    obtain ⟨z, q', ez, hq'⟩ := slip_ok T hq
    refine ⟨.int z, [some q', some (.fz (.lst (strD ns))), none, some (.fz d)], ?_, ⟨q', hq', rfl⟩, z, rfl⟩
    exact lct_ok rfl (fr_fz (call1_ok rfl nil_ok rfl rfl ez))) (by rw [List.length_nil, List.length_map]; exact small_sz (by omega))
  rw [List.nil_append] at el
  subst he
  obtain ⟨zs, rfl, hzl⟩ := ints_of hy
  rw [List.length_map] at hzl
  have a1 : m_set (m_lc (m1 klist (m_var 1)) (g_nm 3) (m_k true) (el_l_marks1 T) [3]) (g_nm 2) [some s, some (.fz (.lst (strD ns))), none, none] = some (.nx [some s1, some (.fz (.lst (strD ns))), some (.ol (zs.map D.int)), none]) := by
    refine set_ok (e := [some s1, some (.fz (.lst (strD ns))), none, none]) (x := .ol (zs.map D.int)) ?_ rfl
    exact lc_ok (klist_ok rfl) el
  obtain ⟨d, s2, e2, d0, d1, hs2⟩ := draw_ok T (n := 8) hs1 (by decide) (lt_B4 (by decide))
  obtain ⟨zs2, x2, hzl2, hx2, a2⟩ : ∃ (zs2 : List Int) (x2 : X), zs2.length = ns.length ∧ frz x2 = .lst (zs2.map D.int) ∧ m_if (m1 kbool (m2 (eqD false) (m_fr (m_call1 2 (m_l_draw T) 0 (m_cons (m_c (.int 8)) m_nil))) (m_c (.int 0))))
      (m_set (m2 repL (m_fr (m_sl slL (m_var 2) m_noPart (m1 kpart (m_c (.int 1))))) (m1 lenG (m_var 1))) (g_nm 2)) m_next [some s1, some (.fz (.lst (strD ns))), some (.ol (zs.map D.int)), none] = some (.nx [some s2, some (.fz (.lst (strD ns))), some x2, none]) := by
    by_cases c : d = 0
    · obtain ⟨z0, zr, rfl⟩ : ∃ z0 zr, zs = z0 :: zr := by
        cases zs with
        | nil => simp at hzl; omega
        | cons a b => exact ⟨a, b, rfl⟩
      refine ⟨List.replicate ns.length z0, .ol (List.replicate ns.length (.int z0)), List.length_replicate, by rw [List.map_replicate]; rfl, ?_⟩
      have hsl : slL (.lst ((z0 :: zr).map D.int)) none (some 1) = some (.ol [.int z0]) := by
        unfold slL
        simp only
        rw [show (1 : Int) = ((1 : Nat) : Int) from rfl, cutG_take]
        rfl
      have hrep : repL (.lst [.int z0]) (.int ((ns.length : Nat) : Int)) = some (.ol (List.replicate ns.length (.int z0))) := by
        unfold repL
        simp only
        rw [if_pos ⟨by omega, by omega, by rw [List.length_singleton, Nat.one_mul, Int.toNat_natCast]; exact small_sz (by omega)⟩, Int.toNat_natCast, flat_rep]
      have hsl2 : slL (.lst (.int z0 :: zr.map D.int)) none (some 1) = some (.ol [.int z0]) := hsl
      refine if_t (e := [some s2, some (.fz (.lst (strD ns))), some (.ol ((z0 :: zr).map D.int)), none]) (by simp! [e2, c]) ?_
      have b1 : (m_fr (m_sl slL (m_var 2) m_noPart (m1 kpart (m_c (.int 1))))) [some s2, some (.fz (.lst (strD ns))), some (.ol ((z0 :: zr).map D.int)), none] = some (.ok (.lst [.int z0]) [some s2, some (.fz (.lst (strD ns))), some (.fz (.lst ((z0 :: zr).map D.int))), none]) := by
        simp! [hsl2]
      have b2 : (m1 lenG (m_var 1)) [some s2, some (.fz (.lst (strD ns))), some (.fz (.lst ((z0 :: zr).map D.int))), none] = some (.ok (.int ((ns.length : Nat) : Int)) [some s2, some (.fz (.lst (strD ns))), some (.fz (.lst ((z0 :: zr).map D.int))), none]) := by
        simp! [List.length_map]
      exact set_ok (m2_ok b1 b2 hrep) rfl
    · refine ⟨zs, .ol (zs.map D.int), hzl, rfl, ?_⟩
      exact if_f (e := [some s2, some (.fz (.lst (strD ns))), some (.ol (zs.map D.int)), none]) (by simp! [e2, c]) rfl
  obtain ⟨sl, hd⟩ := dictZ_ok hzl2 g.nd
  refine ⟨sl, s2, ?_, hs2⟩
  show finF [0] (mb_l_marks T [some s, some (.fz (.lst (strD ns))), none, none]) = _
  unfold mb_l_marks
  rw [seq_nx a1, seq_nx a2]
  simp! [hx2, hd]
end
end K31
namespace K31
open PySem PySem.Spec PyProof.Rows L2 GF GD GL
local macro_rules
  | `(tactic| simp! [$ls,*]) => `(tactic| simp only [m_seq, m_set, m_up, m_fr, m1, m2, k2, mA, m_var, m_mv, m_c, m_k, m_ite, kif, m_if, kifS, m_not, m_ret, kret, m_drop, kdrop, m_cons, kc, kc2, m_nil, m_call, kcall, bnd_ok, bnd_ex, bndS_ok, bndS_ex, seqS_nx, seqS_rt, seqS_bk, seqS_ct, seqS_ex, loopS_nx, loopS_rt, loopS_ct, loopS_bk,
  un?, gt, st', kset, g_nm, g_tup, g_cons, g_nil, knot, kdrop, ifAny, ifOl, lkOl, m_r2, m_l2, m_l1, kv1, kv2, kix, m_ixV, m_append, kap, m_sl, ks0, ks1, ks2, m_noPart, kpart, m_on, kon2, isLst, isTup, isStr, m_or, isTupX, m_call1, kcall1, m_callN, kcallN, kcallN1, appD, m_callB, kcallB, m_meth, kmeth, m_make, kmake, m_makeB, kmakeB, m_par, kpar1, kpar2, m_par3, kpar3, m_parT, kparT, m_consX, m_nilX, kXs, kXs2, m_st, kst, m_setF, m_fldV, m_getV, kgetV, m_put, kput, kput2, m_reverse, m_clear, m_for, klist, ktup, kseq_l, kseq_t, m_lc, m_dc, m_while, m_brk, m_cnt, m_next, m_chain, kch0, kch1, kch, GD.intOp, leI, ltI, geI, gtI, addI, subI, modI, kbool, knotD, isiG, lenG, eqD_int, finF, colE, frz, Option.map_some, List.length_cons, List.length_nil, List.map_cons, List.map_nil, Bool.false_xor, Bool.true_xor, Bool.not_true, Bool.not_false, decide_true, decide_false, ite_true, ite_false, reduceIte, if_true, if_false, eq_self, Bool.false_eq_true, true_and, and_true, GD.flat_strs, Option.isNone_none, Nat.reduceAdd, Nat.reduceSub, Nat.reduceMul, Nat.reduceLT, Nat.reduceEqDiff, Int.reduceEq, Int.reduceLT, Int.reduceLE, Int.reduceAdd, Int.reduceSub, Int.reduceNeg, Int.cast_ofNat_Int, Int.natCast_zero, Int.natCast_one, $ls,*])

theorem sl_drop (ns : List Str) (k : Nat) : slL (.lst (strD ns)) (some ((k : Nat) : Int)) none = some (.ol (strD (ns.drop k))) := by
  unfold slL
  simp only
  rw [cutG_drop, strD, strD, List.map_drop]
theorem sl_take (ns : List Str) (k : Nat) : slL (.lst (strD ns)) none (some ((k : Nat) : Int)) = some (.ol (strD (ns.take k))) := by
  unfold slL
  simp only
  rw [cutG_take, strD, strD, List.map_take]
theorem cat_ok {a b : List Str} (h : a.length + b.length ≤ 1000) : catL (.lst (strD a)) (.lst (strD b)) = some (.ol (strD (a ++ b))) := by
  unfold catL
  simp only
  rw [if_pos (by rw [List.length_map, List.length_map]; exact small_sz (by omega)), strD, strD, strD, List.map_append]
theorem ixL_at {ns : List Str} {j : Nat} {x : Str} (h : ns[j]? = some x) : ixL (.lst (strD ns)) (.int ((j : Nat) : Int)) = some (.str x) := at_ok h
section
variable {K : PySem.W.Frag} {mg : Str → Option Value} (T : Tx K mg)
variable {ns : List Str} {kds : List (Key × D)} {sl : Str → Int}
theorem goes_loop {B : D} {x4 : Option X} (g : GoodNs ns) (h : SlD kds ns sl) : ∀ (k fuel : Nat) (done rest : List Str) (x : Str) (x5 : X) (x6 : Option X), rest.length = k → k < fuel → x ∈ ns → (∀ y ∈ rest, y ∈ ns) → frz x5 = .lst (strD rest) → done.length + rest.length ≤ 100 →
    ∃ y6, whL (if_l_goes1 T) (lp_l_goes2 T) fuel [some (.fz (.lst (strD ns))), some (.fz (.dic kds)), some (.fz B), some (.ol (strD (done ++ [x]))), x4, some x5, x6, none] = some (.nx [some (.fz (.lst (strD ns))), some (.fz (.dic kds)), some (.fz B), some (.ol (strD (done ++ [x] ++ nexts sl k x rest))), x4, some (.fz (.lst [])), y6, none])
  | k, 0, _, _, _, _, _, _, hf, _, _, _, _ => absurd hf (Nat.not_lt_zero _)
  | k, fuel + 1, done, rest, x, x5, x6, hk, hf, hx, hr, h5, hl => by
    have eq : eqD true (.lst (strD rest)) (.lst []) = some (.bl (!decide (rest = []))) := by
      have := eqD_strs true (fun y hy => g.str y (hr y hy)) (b := []) (fun _ h => nomatch h)
      rw [Bool.true_xor] at this
      exact this
    have ht : if_l_goes1 T [some (.fz (.lst (strD ns))), some (.fz (.dic kds)), some (.fz B), some (.ol (strD (done ++ [x]))), x4, some x5, x6, none] = some (.ok (!decide (rest = [])) [some (.fz (.lst (strD ns))), some (.fz (.dic kds)), some (.fz B), some (.ol (strD (done ++ [x]))), x4, some (.fz (.lst (strD rest))), x6, none]) := by
      unfold if_l_goes1
      simp! [h5, lstA_nil, eq]
    rw [whL, ht]
    cases rest with
    | nil =>
      obtain rfl : k = 0 := by simpa using hk.symm
      refine ⟨x6, ?_⟩
      rw [nexts, List.append_nil]
      rfl
    | cons r0 rr =>
      show ∃ y6, loopS (lp_l_goes2 T [some (.fz (.lst (strD ns))), some (.fz (.dic kds)), some (.fz B), some (.ol (strD (done ++ [x]))), x4, some (.fz (.lst (strD (r0 :: rr)))), x6, none]) (whL (if_l_goes1 T) (lp_l_goes2 T) fuel) = _
      generalize hrest : r0 :: rr = rest at hk hr hl
      have hne : rest ≠ [] := by rw [← hrest]; exact List.cons_ne_nil _ _
      cases k with
      | zero => exact absurd (List.length_eq_zero_iff.mp hk) hne
      | succ k =>
        obtain ⟨j, ej, hj, hjn, hget⟩ := spot (sl x) hne
        have hmod : modI (.int (sl x)) (.int ((rest.length : Nat) : Int)) = some (.int ((j : Nat) : Int)) := by
          unfold modI GD.intOp
          simp only
          rw [if_pos (by omega), ej]
        have hat : atI (strD (done ++ [x])) (-1) = some (.str x) := last_l done x
        have hym : rest.getD j Str.empty ∈ rest := List.mem_of_getElem? hget
        have hcut := cut_len hj
        have hd1 : ((j : Nat) : Int) + 1 = ((j + 1 : Nat) : Int) := by omega
        have hcat : catL (.lst (strD (rest.drop (j + 1)))) (.lst (strD (rest.take j))) = some (.ol (strD (rest.drop (j + 1) ++ rest.take j))) := cat_ok (by rw [List.length_drop, List.length_take]; omega)
        have hsz : (done ++ [x]).length < sizeLine := by rw [List.length_append, List.length_singleton]; exact small_lt (by omega)
        have b1 : m_set (m_up (m2 modI (m2 getG (m_var 1) (ifAny 3 (m_ixV 3 (m1 negI (m_c (.int 1)))))) (m1 lenG (m_var 5)))) (g_nm 6) [some (.fz (.lst (strD ns))), some (.fz (.dic kds)), some (.fz B), some (.ol (strD (done ++ [x]))), x4, some (.fz (.lst (strD rest))), x6, none]
            = some (.nx [some (.fz (.lst (strD ns))), some (.fz (.dic kds)), some (.fz B), some (.ol (strD (done ++ [x]))), x4, some (.fz (.lst (strD rest))), some (.fz (.int ((j : Nat) : Int))), none]) := by
          refine set_ok (e := [some (.fz (.lst (strD ns))), some (.fz (.dic kds)), some (.fz B), some (.ol (strD (done ++ [x]))), x4, some (.fz (.lst (strD rest))), x6, none]) (x := .fz (.int ((j : Nat) : Int))) (up_ok (m2_ok (a := .int (sl x)) (b := .int ((rest.length : Nat) : Int)) (e := [some (.fz (.lst (strD ns))), some (.fz (.dic kds)), some (.fz B), some (.ol (strD (done ++ [x]))), x4, some (.fz (.lst (strD rest))), x6, none]) ?_ ?_ hmod)) rfl
          · simp! [negI, hat, getG_ok h hx]
          · simp! [List.length_map]
        have b2 : m_drop (m_append 3 (m2 ixL (m_var 5) (m_var 6))) [some (.fz (.lst (strD ns))), some (.fz (.dic kds)), some (.fz B), some (.ol (strD (done ++ [x]))), x4, some (.fz (.lst (strD rest))), some (.fz (.int ((j : Nat) : Int))), none]
            = some (.nx [some (.fz (.lst (strD ns))), some (.fz (.dic kds)), some (.fz B), some (.ol (strD (done ++ [x] ++ [rest.getD j Str.empty]))), x4, some (.fz (.lst (strD rest))), some (.fz (.int ((j : Nat) : Int))), none]) := by
          have c1 := append_ok (i := 3) (ê := [some (.fz (.lst (strD ns))), some (.fz (.dic kds)), some (.fz B), some (.ol (strD (done ++ [x]))), x4, some (.fz (.lst (strD rest))), some (.fz (.int ((j : Nat) : Int))), none]) (m2_ok (var_ok (i := 5) rfl) (var_ok (i := 6) rfl) (ixL_at hget)) rfl rfl (by rw [List.length_map]; exact hsz)
          rw [drop_ok c1]
          show some (Ot.nx [some (.fz (.lst (strD ns))), some (.fz (.dic kds)), some (.fz B), some (.ol (strD (done ++ [x]) ++ [D.str (rest.getD j Str.empty)])), x4, some (.fz (.lst (strD rest))), some (.fz (.int ((j : Nat) : Int))), none]) = _
          rw [show strD (done ++ [x]) ++ [D.str (rest.getD j Str.empty)] = strD (done ++ [x] ++ [rest.getD j Str.empty]) from (List.map_append (f := D.str) (l₁ := done ++ [x]) (l₂ := [rest.getD j Str.empty])).symm]
        have b3 : m_set (m2 catL (m_fr (m_sl slL (m_var 5) (m1 kpart (m2 addI (m_var 6) (m_c (.int 1)))) m_noPart)) (m_fr (m_sl slL (m_var 5) m_noPart (m1 kpart (m_var 6))))) (g_nm 5) [some (.fz (.lst (strD ns))), some (.fz (.dic kds)), some (.fz B), some (.ol (strD (done ++ [x] ++ [rest.getD j Str.empty]))), x4, some (.fz (.lst (strD rest))), some (.fz (.int ((j : Nat) : Int))), none]
            = some (.nx [some (.fz (.lst (strD ns))), some (.fz (.dic kds)), some (.fz B), some (.ol (strD (done ++ [x] ++ [rest.getD j Str.empty]))), x4, some (.ol (strD (rest.drop (j + 1) ++ rest.take j))), some (.fz (.int ((j : Nat) : Int))), none]) := by
          simp! [hd1, sl_drop, sl_take, hcat]
        obtain ⟨y6, ih⟩ := goes_loop (B := B) (x4 := x4) g h k fuel (done ++ [x]) (rest.drop (j + 1) ++ rest.take j) (rest.getD j Str.empty) (.ol (strD (rest.drop (j + 1) ++ rest.take j))) (some (.fz (.int ((j : Nat) : Int)))) (by omega) (by omega) (hr _ hym) (fun y hy => by
          rcases List.mem_append.mp hy with w | w
          · exact hr y (List.mem_of_mem_drop w)
          · exact hr y (List.mem_of_mem_take w)) rfl (by rw [List.length_append, List.length_singleton]; omega)
        refine ⟨y6, ?_⟩
        have body : lp_l_goes2 T [some (.fz (.lst (strD ns))), some (.fz (.dic kds)), some (.fz B), some (.ol (strD (done ++ [x]))), x4, some (.fz (.lst (strD rest))), x6, none] = some (.nx [some (.fz (.lst (strD ns))), some (.fz (.dic kds)), some (.fz B), some (.ol (strD (done ++ [x] ++ [rest.getD j Str.empty]))), x4, some (.ol (strD (rest.drop (j + 1) ++ rest.take j))), some (.fz (.int ((j : Nat) : Int))), none]) := by
          unfold lp_l_goes2
          rw [seq_nx b1, seq_nx b2]
          exact b3
        rw [body, loopS_nx, ih, nexts_step hjn, List.append_assoc (done ++ [x])]
        rfl
abbrev roundD (ns : List Str) (sl : Str → Int) (b : Str) : D := .tup [.tup (strD (orderOf ns sl b)), .str (nextOf ns sl b)]
theorem goes_ok {b : Str} (g : GoodNs ns) (h : SlD kds ns sl) (hb : b ∈ ns) : m_l_goes T [.fz (.lst (strD ns)), .fz (.dic kds), .fz (.str b)] = some (.ok (.fz (roundD ns sl b)) []) := by
  show finF [] (mb_l_goes T [some (.fz (.lst (strD ns))), some (.fz (.dic kds)), some (.fz (.str b)), none, none, none, none, none]) = _
  unfold mb_l_goes
  have l12 := g.twelve
  have l1 : lstA [.str b] = some (.ol [.str b]) := if_pos (show 1 ≤ sizeLine by decide)
  have hi := idx_lt hb
  have hd1 : ((ns.idxOf b : Nat) : Int) + 1 = ((ns.idxOf b + 1 : Nat) : Int) := by omega
  have hcat : catL (.lst (strD (ns.drop (ns.idxOf b + 1)))) (.lst (strD (ns.take (ns.idxOf b)))) = some (.ol (strD (behind ns b))) := cat_ok (by rw [List.length_drop, List.length_take]; omega)
  have a1 : m_par 3 4 (mA lstA (m_cons (m_var 2) m_nil)) (m_up (m_on isLst idxL (m_var 0) (m_var 2))) [some (.fz (.lst (strD ns))), some (.fz (.dic kds)), some (.fz (.str b)), none, none, none, none, none] = some (.nx [some (.fz (.lst (strD ns))), some (.fz (.dic kds)), some (.fz (.str b)), some (.ol [.str b]), some (.fz (.int ((ns.idxOf b : Nat) : Int))), none, none, none]) := by
    simp! [l1, idxL_ok hb]
  have a2 : m_set (m2 catL (m_fr (m_sl slL (m_var 0) (m1 kpart (m2 addI (m_var 4) (m_c (.int 1)))) m_noPart)) (m_fr (m_sl slL (m_var 0) m_noPart (m1 kpart (m_var 4))))) (g_nm 5) [some (.fz (.lst (strD ns))), some (.fz (.dic kds)), some (.fz (.str b)), some (.ol [.str b]), some (.fz (.int ((ns.idxOf b : Nat) : Int))), none, none, none] = some (.nx [some (.fz (.lst (strD ns))), some (.fz (.dic kds)), some (.fz (.str b)), some (.ol [.str b]), some (.fz (.int ((ns.idxOf b : Nat) : Int))), some (.ol (strD (behind ns b))), none, none]) := by
    simp! [hd1, sl_drop, sl_take, hcat]
  obtain ⟨y6, a3⟩ := goes_loop T (B := .str b) (x4 := some (.fz (.int ((ns.idxOf b : Nat) : Int)))) g h (ns.length - 1) 100000 [] (behind ns b) b (.ol (strD (behind ns b))) none (behind_len hb) (by omega) hb (fun y hy => (behind_perm hb).mem_iff.mp (List.mem_cons_of_mem _ hy)) rfl (by rw [behind_len hb, List.length_nil]; omega)
  rw [List.nil_append] at a3
  have a3' : m_while 100000 (if_l_goes1 T) (lp_l_goes2 T) [some (.fz (.lst (strD ns))), some (.fz (.dic kds)), some (.fz (.str b)), some (.ol [.str b]), some (.fz (.int ((ns.idxOf b : Nat) : Int))), some (.ol (strD (behind ns b))), none, none] = some (.nx [some (.fz (.lst (strD ns))), some (.fz (.dic kds)), some (.fz (.str b)), some (.ol (strD (orderOf ns sl b))), some (.fz (.int ((ns.idxOf b : Nat) : Int))), some (.fz (.lst [])), y6, none]) := a3
  have hlm := last_mem (sl := sl) hb
  have hlt := idx_lt hlm
  have hat : atI (strD (orderOf ns sl b)) (-1) = some (.str (lastOf ns sl b)) := by
    rw [← order_split]
    exact last_l _ _
  have a4 : m_set (m_up (m_on isLst idxL (m_var 0) (ifAny 3 (m_ixV 3 (m1 negI (m_c (.int 1))))))) (g_nm 4) [some (.fz (.lst (strD ns))), some (.fz (.dic kds)), some (.fz (.str b)), some (.ol (strD (orderOf ns sl b))), some (.fz (.int ((ns.idxOf b : Nat) : Int))), some (.fz (.lst [])), y6, none] = some (.nx [some (.fz (.lst (strD ns))), some (.fz (.dic kds)), some (.fz (.str b)), some (.ol (strD (orderOf ns sl b))), some (.fz (.int ((ns.idxOf (lastOf ns sl b) : Nat) : Int))), some (.fz (.lst [])), y6, none]) := by
    simp! [negI, hat, idxL_ok hlm]
  have hd2 : ((ns.idxOf (lastOf ns sl b) : Nat) : Int) + 1 = ((ns.idxOf (lastOf ns sl b) + 1 : Nat) : Int) := by omega
  have hcat2 : catL (.lst (strD (ns.drop (ns.idxOf (lastOf ns sl b) + 1)))) (.lst (strD (ns.take (ns.idxOf (lastOf ns sl b) + 1)))) = some (.ol (strD (rot ns (lastOf ns sl b)))) := cat_ok (by rw [List.length_drop, List.length_take]; omega)
  have a5 : m_set (m2 catL (m_fr (m_sl slL (m_var 0) (m1 kpart (m2 addI (m_var 4) (m_c (.int 1)))) m_noPart)) (m_fr (m_sl slL (m_var 0) m_noPart (m1 kpart (m2 addI (m_var 4) (m_c (.int 1))))))) (g_nm 7) [some (.fz (.lst (strD ns))), some (.fz (.dic kds)), some (.fz (.str b)), some (.ol (strD (orderOf ns sl b))), some (.fz (.int ((ns.idxOf (lastOf ns sl b) : Nat) : Int))), some (.fz (.lst [])), y6, none] = some (.nx [some (.fz (.lst (strD ns))), some (.fz (.dic kds)), some (.fz (.str b)), some (.ol (strD (orderOf ns sl b))), some (.fz (.int ((ns.idxOf (lastOf ns sl b) : Nat) : Int))), some (.fz (.lst [])), y6, some (.ol (strD (rot ns (lastOf ns sl b))))]) := by
    simp! [hd2, sl_drop, sl_take, hcat2]
  have hrn : rot ns (lastOf ns sl b) ≠ [] := fun z => by
    have := rot_len (ns := ns) (x := lastOf ns sl b)
    rw [z] at this
    have := g.two
    simp at *
    omega
  obtain ⟨j, ej, hj, hjn, hget⟩ := spot (sl (lastOf ns sl b)) hrn
  rw [rot_len] at ej hjn
  have hmod : modI (.int (sl (lastOf ns sl b))) (.int ((ns.length : Nat) : Int)) = some (.int ((j : Nat) : Int)) := by
    unfold modI GD.intOp
    simp only
    rw [if_pos (by have := g.two; omega), ej]
  have hnx : (rot ns (lastOf ns sl b)).getD j Str.empty = nextOf ns sl b := by
    unfold nextOf ledOf
    rw [hjn]
  rw [hnx] at hget
  have e3 : tupG (.lst (strD (orderOf ns sl b))) = some (.tup (strD (orderOf ns sl b))) := rfl
  rw [seq_nx a1, seq_nx a2, seq_nx a3', seq_nx a4, seq_nx a5]
  have c1 : (m1 tupG (m_var 3)) [some (.fz (.lst (strD ns))), some (.fz (.dic kds)), some (.fz (.str b)), some (.ol (strD (orderOf ns sl b))), some (.fz (.int ((ns.idxOf (lastOf ns sl b) : Nat) : Int))), some (.fz (.lst [])), y6, some (.ol (strD (rot ns (lastOf ns sl b))))]
      = some (.ok (.tup (strD (orderOf ns sl b))) [some (.fz (.lst (strD ns))), some (.fz (.dic kds)), some (.fz (.str b)), some (.fz (.lst (strD (orderOf ns sl b)))), some (.fz (.int ((ns.idxOf (lastOf ns sl b) : Nat) : Int))), some (.fz (.lst [])), y6, some (.ol (strD (rot ns (lastOf ns sl b))))]) := by
    simp! [e3]
  have c2 : (m2 modI (m2 getG (m_var 1) (ifAny 3 (m_ixV 3 (m1 negI (m_c (.int 1)))))) (m1 lenG (m_var 0))) [some (.fz (.lst (strD ns))), some (.fz (.dic kds)), some (.fz (.str b)), some (.fz (.lst (strD (orderOf ns sl b)))), some (.fz (.int ((ns.idxOf (lastOf ns sl b) : Nat) : Int))), some (.fz (.lst [])), y6, some (.fz (.lst (strD (rot ns (lastOf ns sl b)))))]
      = some (.ok (.int ((j : Nat) : Int)) [some (.fz (.lst (strD ns))), some (.fz (.dic kds)), some (.fz (.str b)), some (.fz (.lst (strD (orderOf ns sl b)))), some (.fz (.int ((ns.idxOf (lastOf ns sl b) : Nat) : Int))), some (.fz (.lst [])), y6, some (.fz (.lst (strD (rot ns (lastOf ns sl b)))))]) := by
    refine m2_ok (a := .int (sl (lastOf ns sl b))) (b := .int ((ns.length : Nat) : Int)) (e := [some (.fz (.lst (strD ns))), some (.fz (.dic kds)), some (.fz (.str b)), some (.fz (.lst (strD (orderOf ns sl b)))), some (.fz (.int ((ns.idxOf (lastOf ns sl b) : Nat) : Int))), some (.fz (.lst [])), y6, some (.fz (.lst (strD (rot ns (lastOf ns sl b)))))]) ?_ ?_ hmod
    · simp! [negI, hat, getG_ok h hlm]
    · simp! [List.length_map]
  have c3 : (m2 ixL (m_var 7) (m2 modI (m2 getG (m_var 1) (ifAny 3 (m_ixV 3 (m1 negI (m_c (.int 1)))))) (m1 lenG (m_var 0)))) [some (.fz (.lst (strD ns))), some (.fz (.dic kds)), some (.fz (.str b)), some (.fz (.lst (strD (orderOf ns sl b)))), some (.fz (.int ((ns.idxOf (lastOf ns sl b) : Nat) : Int))), some (.fz (.lst [])), y6, some (.ol (strD (rot ns (lastOf ns sl b))))]
      = some (.ok (.str (nextOf ns sl b)) [some (.fz (.lst (strD ns))), some (.fz (.dic kds)), some (.fz (.str b)), some (.fz (.lst (strD (orderOf ns sl b)))), some (.fz (.int ((ns.idxOf (lastOf ns sl b) : Nat) : Int))), some (.fz (.lst [])), y6, some (.fz (.lst (strD (rot ns (lastOf ns sl b)))))]) := by
    refine m2_ok (a := .lst (strD (rot ns (lastOf ns sl b)))) ?_ c2 (ixL_at hget)
    simp! []
  rw [ret_ok (up_ok (mA_ok (cons_ok c1 (cons_ok c3 nil_ok)) (tupA2 _ _)))]
  rfl
end
end K31
namespace K31
open PySem PySem.Spec PyProof.Rows L2 GF GD GL
local macro_rules
  | `(tactic| simp! [$ls,*]) => `(tactic| simp only [m_seq, m_set, m_up, m_fr, m1, m2, k2, mA, m_var, m_mv, m_c, m_k, m_ite, kif, m_if, kifS, m_not, m_ret, kret, m_drop, kdrop, m_cons, kc, kc2, m_nil, m_call, kcall, bnd_ok, bnd_ex, bndS_ok, bndS_ex, seqS_nx, seqS_rt, seqS_bk, seqS_ct, seqS_ex, loopS_nx, loopS_rt, loopS_ct, loopS_bk,
  un?, gt, st', kset, g_nm, g_tup, g_cons, g_nil, knot, kdrop, ifAny, ifOl, lkOl, m_r2, m_l2, m_l1, kv1, kv2, kix, m_ixV, m_append, kap, m_sl, ks0, ks1, ks2, m_noPart, kpart, m_on, kon2, isLst, isTup, isStr, m_or, isTupX, m_call1, kcall1, m_callN, kcallN, kcallN1, appD, m_callB, kcallB, m_meth, kmeth, m_make, kmake, m_makeB, kmakeB, m_par, kpar1, kpar2, m_par3, kpar3, m_parT, kparT, m_consX, m_nilX, kXs, kXs2, m_st, kst, m_setF, m_fldV, m_getV, kgetV, m_put, kput, kput2, m_reverse, m_clear, m_for, klist, ktup, kseq_l, kseq_t, m_lc, m_dc, m_while, m_brk, m_cnt, m_next, m_chain, kch0, kch1, kch, GD.intOp, leI, ltI, geI, gtI, addI, subI, modI, kbool, knotD, isiG, lenG, eqD_int, finF, colE, frz, Option.map_some, List.length_cons, List.length_nil, List.map_cons, List.map_nil, Bool.false_xor, Bool.true_xor, Bool.not_true, Bool.not_false, decide_true, decide_false, ite_true, ite_false, reduceIte, if_true, if_false, eq_self, Bool.false_eq_true, true_and, and_true, GD.flat_strs, Option.isNone_none, Nat.reduceAdd, Nat.reduceSub, Nat.reduceMul, Nat.reduceLT, Nat.reduceEqDiff, Int.reduceEq, Int.reduceLT, Int.reduceLE, Int.reduceAdd, Int.reduceSub, Int.reduceNeg, Int.cast_ofNat_Int, Int.natCast_zero, Int.natCast_one, $ls,*])

theorem put_slD {zs : List Str} {sl : Str → Int} {n : Str} {v : Int} (hn : n ∈ zs) : putG (slD zs sl) (Sum.inr n : Key) (.int v) = slD zs (fun x => if x = n then v else sl x) := by
  unfold putG
  rw [if_pos]
  · unfold slD
    rw [List.map_map]
    refine List.map_congr_left fun x hx => ?_
    show (if (Sum.inr x : Key) = Sum.inr n then ((Sum.inr x : Key), D.int v) else ((Sum.inr x : Key), D.int (sl x))) = ((Sum.inr x : Key), D.int (if x = n then v else sl x))
    by_cases e : x = n
    · subst e
      rw [if_pos rfl, if_pos rfl]
    · rw [if_neg fun q => e (Sum.inr.inj q), if_neg e]
  · rw [List.any_eq_true]
    exact ⟨((Sum.inr n : Key), .int (sl n)), List.mem_map.mpr ⟨n, hn, rfl⟩, decide_eq_true rfl⟩
theorem slD_len {zs : List Str} {sl : Str → Int} : (slD zs sl).length = zs.length := by unfold slD; rw [List.length_map]
/-! what each goer's slip says by -/
def saidL (n last : Nat) : Nat → List Str → List (Str × Nat)
  | _, [] => []
  | i, x :: r => (x, if i = last then n else last - i) :: saidL n last (i + 1) r
abbrev saidD (p : Str × Nat) : D := .tup [.str p.1, .int (p.2 : Nat)]
def enumD : Nat → List Str → List D
  | _, [] => []
  | a, x :: r => .tuw [.int (a : Nat), .str x] :: enumD (a + 1) r
theorem enum_ok (go : List Str) : kenumT [.tup (strD go)] = some (enumD 0 go) := by
  have go_ : ∀ (go : List Str) (a : Nat), (((List.range' a go.length).map fun (i : Nat) => D.int (i : Int)).zip (strD go)).map (fun p => D.tuw [p.1, p.2]) = enumD a go := by
    intro go
    induction go with
    | nil => intro a; rfl
    | cons x r ih =>
      intro a
      rw [List.length_cons, List.range'_succ, List.map_cons, strD, List.map_cons, List.zip_cons_cons, List.map_cons, ih (a + 1)]
      rfl
  unfold kenumT
  simp only
  rw [List.length_map, List.range_eq_range', go_]
theorem tell_said {ns : List Str} (g : GoodNs ns) : ∀ (rest f : List Str) (x : Str) (i k : Nat) (a : Nat × Nat), f.length = i → i + 1 + rest.length = ns.length → (f ++ [x]).Nodup → (∀ y ∈ f ++ [x], y ∈ ns) → (∀ y ∈ rest, y ∈ ns ∧ y ∉ f ++ [x]) → rest.Nodup → a.2 = ns.length →
    (tell ns (f ++ [x]) x rest ++ [((x :: rest).getLast (List.cons_ne_nil _ _), a)]).map (fun p => (p.1, p.2.2)) = saidL ns.length (ns.length - 1) i (x :: rest)
  | [], f, x, i, k, a, hf, hi, _, _, _, _, ha => by
    rw [tell, List.nil_append, List.map_singleton, saidL, saidL, if_pos (by simp at hi; omega), ha]
    rfl
  | y :: r, f, x, i, k, a, hf, hi, hnd, hin, hr, hd, ha => by
    rw [List.length_cons] at hi
    have hy := hr y List.mem_cons_self
    have hsl := sit_len (g := x) g.nd hnd hin
    obtain ⟨hd1, hd2⟩ := List.nodup_cons.mp hd
    have ih := tell_said g r (f ++ [x]) y (i + 1) k a (by rw [List.length_append, List.length_singleton, hf]) (by omega) (List.nodup_append.mpr ⟨hnd, by simp, fun p hp q hq e => by rw [List.mem_singleton.mp hq] at e; rw [e] at hp; exact hy.2 hp⟩)
      (fun z hz => by
        rcases List.mem_append.mp hz with w | w
        · exact hin z w
        · rw [List.mem_singleton.mp w]; exact hy.1)
      (fun z hz => ⟨(hr z (List.mem_cons_of_mem _ hz)).1, fun w => by
        rcases List.mem_append.mp w with w | w
        · exact (hr z (List.mem_cons_of_mem _ hz)).2 w
        · rw [List.mem_singleton.mp w] at hz; exact hd1 hz⟩) hd2 ha
    rw [tell, List.cons_append, List.map_cons, saidL, if_neg (by omega), List.getLast_cons (List.cons_ne_nil _ _), ih]
    congr 1
    show (x, (sitting ns (f ++ [x]) x).length) = _
    congr 1
    rw [List.length_append, List.length_singleton] at hsl
    omega
theorem told_said {ns gs rest : List Str} {b y : Str} (s : Sight ns gs b rest (some y)) : (told1 ns b rest (some y)).map (fun p => (p.1, p.2.2)) = saidL ns.length (ns.length - 1) 0 (b :: rest) := by
  have hl := s.lg
  have hn := (s.late y rfl).2
  have := tell_said s.good rest [] b 0 0 ((rot ns ((b :: rest).getLast (List.cons_ne_nil _ _))).idxOf y, ns.length) rfl (by omega) (by simp) (fun z hz => by rw [List.nil_append, List.mem_singleton] at hz; rw [hz]; exact s.inb) (fun z hz => ⟨(s.inr z hz).1, fun q => (s.inr z hz).2 (List.mem_singleton.mp q)⟩) s.nd rfl
  rw [List.nil_append] at this
  exact this
section
variable {K : PySem.W.Frag} {mg : Str → Option Value} (T : Tx K mg)
variable {ns : List Str} {kds : List (Key × D)} {sl : Str → Int}
theorem common_loop : ∀ (fuel a b : Nat), b < fuel → whL (if_l_common1 T) (lp_l_common2 T) fuel [some (.fz (.int (a : Nat))), some (.fz (.int (b : Nat)))] = some (.nx [some (.fz (.int (Nat.gcd a b : Nat))), some (.fz (.int 0))])
  | 0, _, _, h => absurd h (Nat.not_lt_zero _)
  | fuel + 1, a, b, h => by
    have ht : if_l_common1 T [some (.fz (.int (a : Nat))), some (.fz (.int (b : Nat)))] = some (.ok (!decide (((b : Nat) : Int) = 0)) [some (.fz (.int (a : Nat))), some (.fz (.int (b : Nat)))]) := by
      unfold if_l_common1
      simp! []
    rw [whL, ht]
    by_cases h0 : b = 0
    · subst h0
      rw [Nat.gcd_zero_right]
      rfl
    · have h1 : ¬ ((b : Nat) : Int) = 0 := by omega
      rw [decide_eq_false h1]
      show loopS (lp_l_common2 T [some (.fz (.int (a : Nat))), some (.fz (.int (b : Nat)))]) (whL (if_l_common1 T) (lp_l_common2 T) fuel) = _
      have hmod : modI (.int (a : Nat)) (.int (b : Nat)) = some (.int ((a % b : Nat) : Int)) := by
        unfold modI GD.intOp
        simp only
        rw [if_pos (by omega), Int.natCast_emod]
      have body : lp_l_common2 T [some (.fz (.int (a : Nat))), some (.fz (.int (b : Nat)))] = some (.nx [some (.fz (.int (b : Nat))), some (.fz (.int ((a % b : Nat) : Int)))]) := by
        have hb : (0 : Int) < ((b : Nat) : Int) := by omega
        have hc : ((a : Nat) : Int) % ((b : Nat) : Int) = ((a % b : Nat) : Int) := (Int.natCast_emod a b).symm
        unfold lp_l_common2
        simp! [hb, hc]
      rw [body, loopS_nx, common_loop fuel b (a % b) (by have := Nat.mod_lt a (Nat.pos_of_ne_zero h0); omega), Nat.gcd_comm b, ← Nat.gcd_rec, Nat.gcd_comm b]
theorem common_ok {a b : Nat} (h : b ≤ 1000) : m_l_common T [.fz (.int (a : Nat)), .fz (.int (b : Nat))] = some (.ok (.fz (.int (Nat.gcd a b : Nat))) []) := by
  show finF [] (mb_l_common T [some (.fz (.int (a : Nat))), some (.fz (.int (b : Nat)))]) = _
  unfold mb_l_common
  have e : m_while 100000 (if_l_common1 T) (lp_l_common2 T) [some (.fz (.int (a : Nat))), some (.fz (.int (b : Nat)))] = some (.nx [some (.fz (.int (Nat.gcd a b : Nat))), some (.fz (.int 0))]) := common_loop T 100000 a b (by omega)
  have ha : absG (.int (Nat.gcd a b : Nat)) = some (.int (Nat.gcd a b : Nat)) := by
    unfold absG
    simp only
    rw [if_neg (by omega)]
  rw [seq_nx e]
  simp! [ha]
theorem multiple_ok {a b : Nat} (ha : 0 < a) (hb : 0 < b) (ha2 : a ≤ 1000000) (hb2 : b ≤ 1000) : m_l_multiple T [.fz (.int (a : Nat)), .fz (.int (b : Nat))] = some (.ok (.fz (.int (Nat.lcm a b : Nat))) []) := by
  show finF [] (mb_l_multiple T [some (.fz (.int (a : Nat))), some (.fz (.int (b : Nat)))]) = _
  unfold mb_l_multiple
  have hm := mul_ok (a := ((a : Nat) : Int)) (b := ((b : Nat) : Int)) (Nat.lt_of_lt_of_le (show ((a : Nat) : Int).natAbs < 10 ^ 9 by omega) (Nat.pow_le_pow_right (by decide) (by decide))) (Nat.lt_of_lt_of_le (show ((b : Nat) : Int).natAbs < 10 ^ 9 by omega) (Nat.pow_le_pow_right (by decide) (by decide)))
  have hg : 0 < Nat.gcd a b := Nat.gcd_pos_of_pos_left _ ha
  have hgl : Nat.gcd a b ≤ a := Nat.le_of_dvd ha (Nat.gcd_dvd_left _ _)
  have hd : divI (.int (((a : Nat) : Int) * ((b : Nat) : Int))) (.int (Nat.gcd a b : Nat)) = some (.int (Nat.lcm a b : Nat)) := by
    unfold divI GD.intOp
    simp only
    rw [if_pos ⟨by omega, lt_B4 (Nat.lt_of_le_of_lt (show (((Nat.gcd a b : Nat) : Int)).natAbs ≤ 1000000 by omega) (by decide))⟩]
    unfold Nat.lcm
    rw [Int.natCast_ediv, Int.natCast_mul]
  simp! [hm, common_ok T (show b ≤ 1000 by omega), hd]
theorem said_ok {go : List Str} (hl : go.length = ns.length) (h1 : 1 ≤ ns.length) (h2 : ns.length ≤ 100) : m_l_said_by T [.fz (.lst (strD ns)), .fz (.tup (strD go))] = some (.ok (.ol ((saidL ns.length (ns.length - 1) 0 go).map saidD)) []) := by
  show finF [] (mb_l_said_by T [some (.fz (.lst (strD ns))), some (.fz (.tup (strD go))), none, none, none]) = _
  unfold mb_l_said_by
  have hs : ((ns.length : Nat) : Int) - 1 = ((ns.length - 1 : Nat) : Int) := by omega
  have a1 : m_set (m_up (m2 subI (m1 lenG (m_var 0)) (m_c (.int 1)))) (g_nm 2) [some (.fz (.lst (strD ns))), some (.fz (.tup (strD go))), none, none, none] = some (.nx [some (.fz (.lst (strD ns))), some (.fz (.tup (strD go))), some (.fz (.int ((ns.length - 1 : Nat) : Int))), none, none]) := by
    simp! [List.length_map, hs]
  have elen : ∀ (go : List Str) (a : Nat), (enumD a go).length = go.length := by
    intro go
    induction go with
    | nil => intro a; rfl
    | cons x r ih => intro a; rw [enumD, List.length_cons, List.length_cons, ih]
  have emem : ∀ (go : List Str) (a : Nat), ∀ d ∈ enumD a go, ∃ (i : Nat) (x : Str), d = .tuw [.int (i : Nat), .str x] ∧ i < a + go.length := by
    intro go
    induction go with
    | nil => intro a d hd; cases hd
    | cons x r ih =>
      intro a d hd
      rw [enumD] at hd
      rcases List.mem_cons.mp hd with rfl | hd
      · exact ⟨a, x, rfl, by rw [List.length_cons]; omega⟩
      · obtain ⟨i, y, e, hi⟩ := ih (a + 1) d hd
        exact ⟨i, y, e, by rw [List.length_cons]; omega⟩
  have el := lc_map (mg := g_tup 2 (g_cons (g_nm 3) (g_cons (g_nm 4) g_nil))) (mt := m_k true) (me := el_l_said_by1 T) (vs := [3, 4]) (e0 := [some (.fz (.lst (strD ns))), some (.fz (.tup (strD go))), some (.fz (.int ((ns.length - 1 : Nat) : Int))), none, none])
    (fun d => match d with | .tuw [.int i, .str x] => saidD (x, if i.toNat = ns.length - 1 then ns.length else ns.length - 1 - i.toNat) | d => d) (enumD 0 go) (fun d hd => by
    obtain ⟨i, x, rfl, hi⟩ := emem go 0 d hd
    refine ⟨[some (.fz (.lst (strD ns))), some (.fz (.tup (strD go))), some (.fz (.int ((ns.length - 1 : Nat) : Int))), some (.fz (.int (i : Nat))), some (.fz (.str x))], lct_ok rfl ?_, rfl⟩
    unfold el_l_said_by1
    by_cases c : i = ns.length - 1
    · have c2 : ((i : Nat) : Int) = ((ns.length - 1 : Nat) : Int) := by omega
      have c3 : (((i : Nat) : Int)).toNat = ns.length - 1 := by omega
      simp! [c2, c3, List.length_map, tupA2]
      rw [Int.toNat_natCast, if_pos rfl]
    · have c2 : ¬ ((i : Nat) : Int) = ((ns.length - 1 : Nat) : Int) := by omega
      have c4 : ((ns.length - 1 : Nat) : Int) - ((i : Nat) : Int) = ((ns.length - 1 - i : Nat) : Int) := by omega
      simp! [c2, tupA2, c4]
      rw [Int.toNat_natCast, if_neg c]) (by rw [elen]; exact small_sz (by omega))
  have em : ∀ (go : List Str) (a : Nat), (enumD a go).map (fun d => match d with | .tuw [.int i, .str x] => saidD (x, if i.toNat = ns.length - 1 then ns.length else ns.length - 1 - i.toNat) | d => d) = (saidL ns.length (ns.length - 1) a go).map saidD := by
    intro go
    induction go with
    | nil => intro a; rfl
    | cons x r ih => intro a; rw [enumD, saidL, List.map_cons, List.map_cons, ih (a + 1)]; rfl
  rw [em] at el
  have b1 : (mA kenumT (m_cons (m_var 1) m_nil)) [some (.fz (.lst (strD ns))), some (.fz (.tup (strD go))), some (.fz (.int ((ns.length - 1 : Nat) : Int))), none, none] = some (.ok (enumD 0 go) [some (.fz (.lst (strD ns))), some (.fz (.tup (strD go))), some (.fz (.int ((ns.length - 1 : Nat) : Int))), none, none]) := mA_ok (cons_ok (var_ok rfl) nil_ok) (enum_ok go)
  rw [seq_nx a1, ret_ok (lc_ok b1 el)]
  rfl
theorem rounds_ok (g : GoodNs ns) (h : SlD kds ns sl) : m_l_all_rounds T [.fz (.lst (strD ns)), .fz (.dic kds)] = some (.ok (.ol (ns.map (roundD ns sl))) []) := by
  show finF [] (mb_l_all_rounds T [some (.fz (.lst (strD ns))), some (.fz (.dic kds)), none]) = _
  unfold mb_l_all_rounds
  have l12 := g.twelve
  have el := lc_map (mg := g_nm 2) (mt := m_k true) (me := el_l_all_rounds1 T) (vs := [2]) (e0 := [some (.fz (.lst (strD ns))), some (.fz (.dic kds)), none]) (fun d => match d with | .str b => roundD ns sl b | d => d) (strD ns) (fun d hd => by
    obtain ⟨b, hb, rfl⟩ := List.mem_map.mp hd
    exact ⟨[some (.fz (.lst (strD ns))), some (.fz (.dic kds)), some (.fz (.str b))], lct_ok rfl (fr_fz (call_ok (cons_ok (var_ok rfl) (cons_ok (var_ok rfl) (cons_ok (var_ok rfl) nil_ok))) rfl (goes_ok T g h hb))), rfl⟩) (by rw [List.length_map]; exact small_sz (by omega))
  rw [strD, List.map_map] at el
  rw [ret_ok (lc_ok (klist_ok rfl) el)]
  rfl
theorem with_ok {x : Str} {z : Int} (hx : x ∈ ns) (hl : ns.length ≤ 100) : m_l_with T [.fz (.dic (slD ns sl)), .fz (.str x), .fz (.int z)] = some (.ok (.od (slD ns fun y => if y = x then z else sl y)) []) := by
  show finF [] (mb_l_with T [some (.fz (.dic (slD ns sl))), some (.fz (.str x)), some (.fz (.int z)), none]) = _
  unfold mb_l_with
  have hlen : (slD ns sl).length < sizeLine := by rw [slD_len]; exact small_lt (by omega)
  simp! [dictDG, toK, hlen, put_slD hx]
end
end K31
namespace K31
open PySem PySem.Spec PyProof.Rows L2 GF GD GL
theorem sit_le {ns f : List Str} {x : Str} : (sitting ns f x).length ≤ ns.length := by
  unfold sitting
  exact Nat.le_trans (List.length_filter_le _ _) (Nat.le_of_eq rot_len)
theorem tell_facts {ns : List Str} : ∀ (rest f : List Str) (x : Str), x ∈ ns → (∀ y ∈ rest, y ∈ ns ∧ y ∉ f) → rest.Nodup → ∀ p ∈ tell ns f x rest, p.1 ∈ ns ∧ p.2.1 < p.2.2 ∧ p.2.2 ≤ ns.length
  | [], _, _, _, _, _, _, hp => nomatch hp
  | y :: r, f, x, hx, hr, hd, p, hp => by
    rw [tell] at hp
    have hy := hr y List.mem_cons_self
    obtain ⟨d1, d2⟩ := List.nodup_cons.mp hd
    rcases List.mem_cons.mp hp with rfl | hp
    · exact ⟨hx, idx_lt (sit_mem.mpr hy), sit_le⟩
    · exact tell_facts r (f ++ [y]) y hy.1 (fun w hw => ⟨(hr w (List.mem_cons_of_mem _ hw)).1, fun q => by
        rcases List.mem_append.mp q with q | q
        · exact (hr w (List.mem_cons_of_mem _ hw)).2 q
        · rw [List.mem_singleton.mp q] at hw; exact d1 hw⟩) d2 p hp
section
variable {K : PySem.W.Frag} {mg : Str → Option Value} (T : Tx K mg)
variable {ns gs rest : List Str} {b : Str} {z : Option Str}
theorem told_facts (s : Sight ns gs b rest z) : ∀ p ∈ told1 ns b rest z, p.1 ∈ ns ∧ p.2.1 < p.2.2 ∧ p.2.2 ≤ ns.length := by
  intro p hp
  unfold told1 at hp
  rcases List.mem_append.mp hp with hp | hp
  · exact tell_facts rest [b] b s.inb (fun y hy => ⟨(s.inr y hy).1, fun q => (s.inr y hy).2 (List.mem_singleton.mp q)⟩) s.nd p hp
  · cases z with
    | none => cases hp
    | some y =>
      obtain ⟨h1, h2⟩ := s.late y rfl
      rw [List.mem_singleton.mp hp]
      have hl := last_in s
      refine ⟨hl, ?_, Nat.le_refl _⟩
      have := idx_lt ((rotP_perm ns (lastS b rest)).mem_iff.mpr h1)
      rw [rot_len] at this
      exact this
theorem told_names (s : Sight ns gs b rest z) : ((told1 ns b rest z).map (·.1)).Sublist gs := by
  rw [s.eg]
  unfold told1
  cases z with
  | none =>
    rw [List.append_nil, tell_names]
    exact List.take_sublist _ _
  | some y =>
    simp only [List.map_append, List.map_cons, List.map_nil, tell_names]
    rw [last_split]
    exact List.Sublist.refl _
theorem due_facts (s : Sight ns gs b rest z) : ∀ p ∈ due ns b rest z, p.1 ∈ ns ∧ p.2.1 < p.2.2 ∧ p.2.2 ≤ ns.length ∧ p.2.2 ≠ 1 := by
  intro p hp
  obtain ⟨h1, h2⟩ := List.mem_filter.mp hp
  obtain ⟨a, b, c⟩ := told_facts s p h1
  exact ⟨a, b, c, of_decide_eq_true h2⟩
theorem due_nd (s : Sight ns gs b rest z) : ((due ns b rest z).map (·.1)).Nodup :=
  (((List.filter_sublist).map _).trans (told_names s)).nodup s.ndg
theorem due_len (s : Sight ns gs b rest z) : (due ns b rest z).length ≤ ns.length := by
  have h := ((List.filter_sublist (p := fun p : Str × Nat × Nat => decide (p.2.2 ≠ 1)) (l := told1 ns b rest z)).map (·.1)).trans (told_names s)
  have h2 := h.length_le
  rw [List.length_map] at h2
  have := s.lg
  have := s.len
  show ((told1 ns b rest z).filter fun p => decide (p.2.2 ≠ 1)).length ≤ _
  omega
end
end K31
namespace K31
open PySem PySem.Spec PyProof.Rows L2 GF GD GL
local macro_rules
  | `(tactic| simp! [$ls,*]) => `(tactic| simp only [m_seq, m_set, m_up, m_fr, m1, m2, k2, mA, m_var, m_mv, m_c, m_k, m_ite, kif, m_if, kifS, m_not, m_ret, kret, m_drop, kdrop, m_cons, kc, kc2, m_nil, m_call, kcall, bnd_ok, bnd_ex, bndS_ok, bndS_ex, seqS_nx, seqS_rt, seqS_bk, seqS_ct, seqS_ex, loopS_nx, loopS_rt, loopS_ct, loopS_bk,
  un?, gt, st', kset, g_nm, g_tup, g_cons, g_nil, knot, kdrop, ifAny, ifOl, lkOl, m_r2, m_l2, m_l1, kv1, kv2, kix, m_ixV, m_append, kap, m_sl, ks0, ks1, ks2, m_noPart, kpart, m_on, kon2, isLst, isTup, isStr, m_or, isTupX, m_call1, kcall1, m_callN, kcallN, kcallN1, appD, m_callB, kcallB, m_meth, kmeth, m_make, kmake, m_makeB, kmakeB, m_par, kpar1, kpar2, m_par3, kpar3, m_parT, kparT, m_consX, m_nilX, kXs, kXs2, m_st, kst, m_setF, m_fldV, m_getV, kgetV, m_put, kput, kput2, m_reverse, m_clear, m_for, klist, ktup, kseq_l, kseq_t, m_lc, m_dc, m_while, m_brk, m_cnt, m_next, m_chain, kch0, kch1, kch, GD.intOp, leI, ltI, geI, gtI, addI, subI, modI, kbool, knotD, isiG, lenG, eqD_int, finF, colE, frz, Option.map_some, List.length_cons, List.length_nil, List.map_cons, List.map_nil, Bool.false_xor, Bool.true_xor, Bool.not_true, Bool.not_false, decide_true, decide_false, ite_true, ite_false, reduceIte, if_true, if_false, eq_self, Bool.false_eq_true, true_and, and_true, GD.flat_strs, Option.isNone_none, Nat.reduceAdd, Nat.reduceSub, Nat.reduceMul, Nat.reduceLT, Nat.reduceEqDiff, Int.reduceEq, Int.reduceLT, Int.reduceLE, Int.reduceAdd, Int.reduceSub, Int.reduceNeg, Int.cast_ofNat_Int, Int.natCast_zero, Int.natCast_one, $ls,*])

/-! what a ring needs -/
theorem own_all {ns : List Str} {sl : Str → Int} {b : Str} (g : GoodNs ns) (hb : b ∈ ns) : Sight ns (orderOf ns sl b) b (nexts sl (ns.length - 1) b (behind ns b)) (some (nextOf ns sl b)) := by
  have hp := order_perm (sl := sl) hb
  have hnd := hp.nodup_iff.mpr g.nd
  obtain ⟨d1, d2⟩ := List.nodup_cons.mp (show (b :: nexts sl (ns.length - 1) b (behind ns b)).Nodup from hnd)
  have hl := hp.length_eq
  have hl2 : (nexts sl (ns.length - 1) b (behind ns b)).length + 1 = ns.length := hl
  exact ⟨g, rfl, hb, fun y hy => ⟨hp.mem_iff.mp (List.mem_cons_of_mem _ hy), fun e => d1 (e ▸ hy)⟩, d2, by omega, fun y e => by
    obtain rfl := Option.some.inj e
    exact ⟨next_mem hb, hl⟩⟩
abbrev T1 (ns : List Str) (sl : Str → Int) (b : Str) : List (Str × Nat × Nat) := told1 ns b (nexts sl (ns.length - 1) b (behind ns b)) (some (nextOf ns sl b))
abbrev pr (p : Str × Nat × Nat) : Str × Nat := (p.1, p.2.2)
def upd2 (f : Str → Nat) (q : Str × Nat) : Str → Nat := fun x => if x = q.1 then Nat.lcm (f x) q.2 else f x
def needOf (ns : List Str) (sl : Str → Int) : Str → Nat := ns.foldl (fun f b => ((T1 ns sl b).map pr).foldl upd2 f) (fun _ => 1)
def slN (ns : List Str) (f : Str → Nat) : List (Key × D) := slD ns fun x => ((f x : Nat) : Int)
def FineN (f : Str → Nat) : Prop := ∀ x, 0 < f x ∧ f x ∣ 27720
theorem small_dvd : ∀ m, m ≤ 12 → 0 < m → m ∣ 27720 := by decide
theorem FineN.upd {f : Str → Nat} (h : FineN f) {q : Str × Nat} (h0 : 0 < q.2) (h1 : q.2 ≤ 12) : FineN (upd2 f q) := fun x => by
  unfold upd2
  split
  · exact ⟨Nat.lcm_pos (h x).1 h0, Nat.lcm_dvd (h x).2 (small_dvd _ h1 h0)⟩
  · exact h x
theorem FineN.le {f : Str → Nat} (h : FineN f) (x : Str) : f x ≤ 27720 := Nat.le_of_dvd (by decide) (h x).2
theorem FineN.folds : ∀ {ps : List (Str × Nat)} {f : Str → Nat}, FineN f → (∀ q ∈ ps, 0 < q.2 ∧ q.2 ≤ 12) → FineN (ps.foldl upd2 f)
  | [], _, h, _ => h
  | q :: r, f, h, hp => by
    obtain ⟨a, b⟩ := hp q List.mem_cons_self
    exact FineN.folds (ps := r) (f := upd2 f q) (h.upd a b) fun p hm => hp p (List.mem_cons_of_mem _ hm)
theorem folds_ones : ∀ (ps : List (Str × Nat × Nat)) (f : Str → Nat), ((ps.filter fun p => decide (p.2.2 ≠ 1)).map pr).foldl upd2 f = (ps.map pr).foldl upd2 f
  | [], _ => rfl
  | p :: r, f => by
    rw [List.filter_cons]
    by_cases h : p.2.2 = 1
    · rw [if_neg (by simp [h]), List.map_cons, List.foldl_cons, folds_ones r f]
      congr 1
      funext x
      unfold upd2
      show f x = if x = p.1 then Nat.lcm (f x) p.2.2 else f x
      rw [h, Nat.lcm_one_right]
      split <;> rfl
    · rw [if_pos (by simp [h]), List.map_cons, List.map_cons, List.foldl_cons, List.foldl_cons, folds_ones r]
theorem put_slN {ns : List Str} {f : Str → Nat} {q : Str × Nat} (h : q.1 ∈ ns) : putG (slN ns f) (Sum.inr q.1 : Key) (.int (Nat.lcm (f q.1) q.2 : Nat)) = slN ns (upd2 f q) := by
  unfold slN
  rw [put_slD h]
  congr 1
  funext x
  unfold upd2
  by_cases e : x = q.1
  · subst e; rw [if_pos rfl, if_pos rfl]
  · rw [if_neg e, if_neg e]
theorem pairs_ones : ∀ ns : List Str, pairsK (ns.map fun n => D.tup [.str n, .int 1]) = some (slN ns fun _ => 1)
  | [] => rfl
  | n :: r => by
    rw [List.map_cons, pairsK, pairs_ones r]
    rfl
/-- the numbers of a round are between 1 and 12 -/
theorem T1_nums {ns : List Str} {sl : Str → Int} {b : Str} (g : GoodNs ns) (hb : b ∈ ns) : ∀ p ∈ T1 ns sl b, p.1 ∈ ns ∧ p.2.1 < p.2.2 ∧ p.2.2 ≤ 12 := by
  have s := own_all (sl := sl) g hb
  have l12 := g.twelve
  intro p hp
  have := told_facts s p hp
  exact ⟨this.1, this.2.1, by omega⟩
section
variable {K : PySem.W.Frag} {mg : Str → Option Value} (T : Tx K mg)
variable {ns : List Str} {kds : List (Key × D)} {sl : Str → Int}
theorem slN_at {f : Str → Nat} {x : Str} (hx : x ∈ ns) : valG (slN ns f) (Sum.inr x : Key) = some (.int (f x : Nat)) := slD_ok.at_ x hx
theorem needed_inner {a0 a1 a3 : Option X} (g : GoodNs ns) : ∀ (ps : List (Str × Nat)) (f : Str → Nat) (x4 x5 : Option X), (∀ p ∈ ps, p.1 ∈ ns ∧ 0 < p.2 ∧ p.2 ≤ 12) → FineN f →
    ∃ y4 y5, forL (g_tup 2 (g_cons (g_nm 4) (g_cons (g_nm 5) g_nil))) (lp_l_needed2 T) (ps.map saidD) [a0, a1, some (.od (slN ns f)), a3, x4, x5] = some (.nx [a0, a1, some (.od (slN ns (ps.foldl upd2 f))), a3, y4, y5])
  | [], f, x4, x5, _, _ => ⟨x4, x5, rfl⟩
  | p :: r, f, x4, x5, hp, hf => by
    obtain ⟨p1, p2, p3⟩ := hp p List.mem_cons_self
    obtain ⟨y4, y5, ih⟩ := needed_inner g r (upd2 f p) (some (.fz (.str p.1))) (some (.fz (.int (p.2 : Nat)))) (fun q hq => hp q (List.mem_cons_of_mem _ hq)) (hf.upd p2 p3)
    have l12 := g.twelve
    have hm := multiple_ok T (a := f p.1) (b := p.2) (hf p.1).1 p2 (Nat.le_trans (hf.le p.1) (by decide)) (by omega)
    have hlen : (slN ns f).length < sizeLine := by unfold slN; rw [slD_len]; exact small_lt (by omega)
    have body : lp_l_needed2 T [a0, a1, some (.od (slN ns f)), a3, some (.fz (.str p.1)), some (.fz (.int (p.2 : Nat)))] = some (.nx [a0, a1, some (.od (slN ns (upd2 f p))), a3, some (.fz (.str p.1)), some (.fz (.int (p.2 : Nat)))]) := by
      unfold lp_l_needed2
      simp! [toK, slN_at p1, hm, hlen, put_slN p1]
    refine ⟨y4, y5, ?_⟩
    rw [List.map_cons, forL]
    show loopS (lp_l_needed2 T [a0, a1, some (.od (slN ns f)), a3, some (.fz (.str p.1)), some (.fz (.int (p.2 : Nat)))]) _ = _
    rw [body, loopS_nx]
    exact ih
theorem needed_loop (g : GoodNs ns) (h : SlD kds ns sl) : ∀ (bs : List Str) (f : Str → Nat) (x3 x4 x5 : Option X), (∀ b ∈ bs, b ∈ ns) → FineN f →
    ∃ y3 y4 y5, forL (g_nm 3) (lp_l_needed3 T) (strD bs) [some (.fz (.lst (strD ns))), some (.fz (.dic kds)), some (.od (slN ns f)), x3, x4, x5] = some (.nx [some (.fz (.lst (strD ns))), some (.fz (.dic kds)), some (.od (slN ns (bs.foldl (fun f b => ((T1 ns sl b).map pr).foldl upd2 f) f))), y3, y4, y5])
  | [], f, x3, x4, x5, _, _ => ⟨x3, x4, x5, rfl⟩
  | b :: r, f, x3, x4, x5, hb, hf => by
    have hbn := hb b List.mem_cons_self
    have l12 := g.twelve
    have l2 := g.two
    have hn := T1_nums (sl := sl) g hbn
    have hps : ∀ q ∈ (T1 ns sl b).map pr, q.1 ∈ ns ∧ 0 < q.2 ∧ q.2 ≤ 12 := fun q hq => by
      obtain ⟨p, hp, rfl⟩ := List.mem_map.mp hq
      obtain ⟨u1, u2, u3⟩ := hn p hp
      exact ⟨u1, Nat.lt_of_le_of_lt (Nat.zero_le _) u2, u3⟩
    have s := own_all (sl := sl) g hbn
    have ht := told_said s
    have hol : (orderOf ns sl b).length = ns.length := (order_perm hbn).length_eq
    have hsaid := said_ok T (ns := ns) (go := orderOf ns sl b) hol (by omega) (by omega)
    have hso : saidL ns.length (ns.length - 1) 0 (orderOf ns sl b) = (T1 ns sl b).map pr := ht.symm
    rw [hso] at hsaid
    obtain ⟨z4, z5, e1⟩ := needed_inner T (a0 := some (.fz (.lst (strD ns)))) (a1 := some (.fz (.dic kds))) (a3 := some (.fz (.str b))) g ((T1 ns sl b).map pr) f x4 x5 hps hf
    obtain ⟨y3, y4, y5, ih⟩ := needed_loop g h r (((T1 ns sl b).map pr).foldl upd2 f) (some (.fz (.str b))) z4 z5 (fun q hq => hb q (List.mem_cons_of_mem _ hq)) (hf.folds fun q hq => (hps q hq).2)
    refine ⟨y3, y4, y5, ?_⟩
    have i0 : ixT (roundD ns sl b) (.int 0) = some (.tup (strD (orderOf ns sl b))) := rfl
    have b1 : (m1 klist (m_fr (m_call 2 (m_l_said_by T) (m_cons (m_var 0) (m_cons (m2 ixT (m_fr (m_call 3 (m_l_goes T) (m_cons (m_var 0) (m_cons (m_var 1) (m_cons (m_var 3) m_nil))))) (m_c (.int 0))) m_nil))))) [some (.fz (.lst (strD ns))), some (.fz (.dic kds)), some (.od (slN ns f)), some (.fz (.str b)), x4, x5]
        = some (.ok (((T1 ns sl b).map pr).map saidD) [some (.fz (.lst (strD ns))), some (.fz (.dic kds)), some (.od (slN ns f)), some (.fz (.str b)), x4, x5]) := by
      refine m1_ok (fr_ok (call_ok (cons_ok (var_ok rfl) (cons_ok (m2_ok (fr_fz (call_ok (cons_ok (var_ok rfl) (cons_ok (var_ok rfl) (cons_ok (var_ok rfl) nil_ok))) rfl (goes_ok T g h hbn))) (b := .int 0) rfl i0) nil_ok)) rfl hsaid)) rfl
    have body : lp_l_needed3 T [some (.fz (.lst (strD ns))), some (.fz (.dic kds)), some (.od (slN ns f)), some (.fz (.str b)), x4, x5] = _ := for_ok b1 e1
    rw [strD, List.map_cons, forL]
    show loopS (lp_l_needed3 T [some (.fz (.lst (strD ns))), some (.fz (.dic kds)), some (.od (slN ns f)), some (.fz (.str b)), x4, x5]) _ = _
    rw [body, loopS_nx]
    exact ih
theorem FineN.one : FineN fun _ => 1 := fun _ => ⟨Nat.one_pos, Nat.one_dvd _⟩
theorem needed_ok (g : GoodNs ns) (h : SlD kds ns sl) : m_l_needed T [.fz (.lst (strD ns)), .fz (.dic kds)] = some (.ok (.od (slN ns (needOf ns sl))) []) := by
  show finF [] (mb_l_needed T [some (.fz (.lst (strD ns))), some (.fz (.dic kds)), none, none, none, none]) = _
  unfold mb_l_needed
  have l12 := g.twelve
  have el := lc_map (mg := g_nm 4) (mt := m_k true) (me := el_l_needed1 T) (vs := [4]) (e0 := [some (.fz (.lst (strD ns))), some (.fz (.dic kds)), none, none, none, none]) (fun d => .tup [d, .int 1]) (strD ns) (fun d hd => by
    refine ⟨[some (.fz (.lst (strD ns))), some (.fz (.dic kds)), none, none, some (.fz d), none], lct_ok rfl ?_, rfl⟩
    unfold el_l_needed1
    exact mA_ok (cons_ok (var_ok rfl) (cons_ok rfl nil_ok)) (tupA2 _ _)) (by rw [List.length_map]; exact small_sz (by omega))
  rw [strD, List.map_map] at el
  have hdp : dictPG (.lst (ns.map ((fun d => D.tup [d, .int 1]) ∘ D.str))) = some (.od (slN ns fun _ => 1)) := by
    unfold dictPG
    simp only
    have := pairs_ones ns
    rw [show ns.map ((fun d => D.tup [d, .int 1]) ∘ D.str) = ns.map fun n => D.tup [.str n, .int 1] from rfl, this, Option.map_some]
    unfold slN
    rw [merge_slips _ ns [] g.nd (fun _ _ z => nomatch z), List.nil_append]
  have a1 : m_set (m1 dictPG (m_fr (m_lc (m1 klist (m_var 0)) (g_nm 4) (m_k true) (el_l_needed1 T) [4]))) (g_nm 2) [some (.fz (.lst (strD ns))), some (.fz (.dic kds)), none, none, none, none] = some (.nx [some (.fz (.lst (strD ns))), some (.fz (.dic kds)), some (.od (slN ns fun _ => 1)), none, none, none]) :=
    set_ok (m1_ok (fr_ok (lc_ok (klist_ok rfl) el)) hdp) rfl
  obtain ⟨y3, y4, y5, e⟩ := needed_loop T g h ns (fun _ => 1) none none none (fun _ hb => hb) FineN.one
  rw [seq_nx a1, seq_nx (for_ok (klist_ok rfl) e)]
  rfl
end
end K31
namespace K31
open PySem PySem.Spec PyProof.Rows L2 GF GD GL
local macro_rules
  | `(tactic| simp! [$ls,*]) => `(tactic| simp only [m_seq, m_set, m_up, m_fr, m1, m2, k2, mA, m_var, m_mv, m_c, m_k, m_ite, kif, m_if, kifS, m_not, m_ret, kret, m_drop, kdrop, m_cons, kc, kc2, m_nil, m_call, kcall, bnd_ok, bnd_ex, bndS_ok, bndS_ex, seqS_nx, seqS_rt, seqS_bk, seqS_ct, seqS_ex, loopS_nx, loopS_rt, loopS_ct, loopS_bk,
  un?, gt, st', kset, g_nm, g_tup, g_cons, g_nil, knot, kdrop, ifAny, ifOl, lkOl, m_r2, m_l2, m_l1, kv1, kv2, kix, m_ixV, m_append, kap, m_sl, ks0, ks1, ks2, m_noPart, kpart, m_on, kon2, isLst, isTup, isStr, m_or, isTupX, m_call1, kcall1, m_callN, kcallN, kcallN1, appD, m_callB, kcallB, m_meth, kmeth, m_make, kmake, m_makeB, kmakeB, m_par, kpar1, kpar2, m_par3, kpar3, m_parT, kparT, m_consX, m_nilX, kXs, kXs2, m_st, kst, m_setF, m_fldV, m_getV, kgetV, m_put, kput, kput2, m_reverse, m_clear, m_for, klist, ktup, kseq_l, kseq_t, m_lc, m_dc, m_while, m_brk, m_cnt, m_next, m_chain, kch0, kch1, kch, GD.intOp, leI, ltI, geI, gtI, addI, subI, modI, kbool, knotD, isiG, lenG, eqD_int, finF, colE, frz, Option.map_some, List.length_cons, List.length_nil, List.map_cons, List.map_nil, Bool.false_xor, Bool.true_xor, Bool.not_true, Bool.not_false, decide_true, decide_false, ite_true, ite_false, reduceIte, if_true, if_false, eq_self, Bool.false_eq_true, true_and, and_true, GD.flat_strs, Option.isNone_none, Nat.reduceAdd, Nat.reduceSub, Nat.reduceMul, Nat.reduceLT, Nat.reduceEqDiff, Int.reduceEq, Int.reduceLT, Int.reduceLE, Int.reduceAdd, Int.reduceSub, Int.reduceNeg, Int.cast_ofNat_Int, Int.natCast_zero, Int.natCast_one, $ls,*])

section
variable {K : PySem.W.Frag} {mg : Str → Option Value} (T : Tx K mg)
variable {ns : List Str} {kds : List (Key × D)} {sl : Str → Int}
theorem in0_ok (n : Int) : inF false (.int 0) (.tup [.int 0, .int n]) = some (.bl true) := by
  unfold inF
  simp only
  rw [if_pos ⟨rfl, rfl⟩]
  rfl
theorem seen_all {b : Str} (g : GoodNs ns) (h : SlD kds ns sl) (hb : b ∈ ns) :
    m_sighting_of T [.fz (ringD T.a_Ring ns kds), .fz (.str b), .fz (.int 0), .fz (.bl true)] = some (.ok (.fz (sightD ns (orderOf ns sl b) (some (nextOf ns sl b)))) []) := by
  show finF [] (mb_sighting_of T [some (.fz (ringD T.a_Ring ns kds)), some (.fz (.str b)), some (.fz (.int 0)), some (.fz (.bl true)), none, none, none]) = _
  unfold mb_sighting_of
  have nl1 := nolk (ns := ns) (kds := kds) (show (("order" : Str) == ("_names" : Str)) = false by decide +kernel) (by decide +kernel)
  have nl2 := nolk (ns := ns) (kds := kds) (show (("next_of" : Str) == ("_names" : Str)) = false by decide +kernel) (by decide +kernel)
  have nl3 := nolk (ns := ns) (kds := kds) (show (("names" : Str) == ("_names" : Str)) = false by decide +kernel) (by decide +kernel)
  have a1 : m_set (m_up (m1 tupG (m_fr (m_meth T.a_Ring "names" 1 (m_Ring_names T) (m_var 0) m_nil)))) (g_nm 4) [some (.fz (ringD T.a_Ring ns kds)), some (.fz (.str b)), some (.fz (.int 0)), some (.fz (.bl true)), none, none, none] = some (.nx [some (.fz (ringD T.a_Ring ns kds)), some (.fz (.str b)), some (.fz (.int 0)), some (.fz (.bl true)), some (.fz (.tup (strD ns))), none, none]) := by
    simp! [nl3, K31.names_ok T, tupG]
  have a2 : m_drop (m_call 2 (m_check_name T) (m_cons (m_var 4) (m_cons (m_var 1) m_nil))) [some (.fz (ringD T.a_Ring ns kds)), some (.fz (.str b)), some (.fz (.int 0)), some (.fz (.bl true)), some (.fz (.tup (strD ns))), none, none] = some (.nx [some (.fz (ringD T.a_Ring ns kds)), some (.fz (.str b)), some (.fz (.int 0)), some (.fz (.bl true)), some (.fz (.tup (strD ns))), none, none]) := by
    simp! [check_name_t T hb]
  have a3 : m_drop (m_call 3 (m_check_between T) (m_cons (m_var 2) (m_cons (m_c (.int 0)) (m_cons (m1 lenG (m_var 4)) m_nil)))) [some (.fz (ringD T.a_Ring ns kds)), some (.fz (.str b)), some (.fz (.int 0)), some (.fz (.bl true)), some (.fz (.tup (strD ns))), none, none] = some (.nx [some (.fz (ringD T.a_Ring ns kds)), some (.fz (.str b)), some (.fz (.int 0)), some (.fz (.bl true)), some (.fz (.tup (strD ns))), none, none]) := by
    simp! [List.length_map, between_ok T (show (0 : Int) ≤ 0 by omega) (show (0 : Int) ≤ ((ns.length : Nat) : Int) by omega)]
  have a4 : m_set (m_up (m2 (inF false) (m_var 2) (mA tupA (m_cons (m_c (.int 0)) (m_cons (m1 lenG (m_var 4)) m_nil))))) (g_nm 5) [some (.fz (ringD T.a_Ring ns kds)), some (.fz (.str b)), some (.fz (.int 0)), some (.fz (.bl true)), some (.fz (.tup (strD ns))), none, none] = some (.nx [some (.fz (ringD T.a_Ring ns kds)), some (.fz (.str b)), some (.fz (.int 0)), some (.fz (.bl true)), some (.fz (.tup (strD ns))), some (.fz (.bl true)), none]) := by
    simp! [List.length_map, tupA2, in0_ok]
  have a5 : m_set (m_meth T.a_Ring "order" 2 (m_Ring_order T) (m_var 0) (m_cons (m_var 1) m_nil)) (g_nm 6) [some (.fz (ringD T.a_Ring ns kds)), some (.fz (.str b)), some (.fz (.int 0)), some (.fz (.bl true)), some (.fz (.tup (strD ns))), some (.fz (.bl true)), none] = some (.nx [some (.fz (ringD T.a_Ring ns kds)), some (.fz (.str b)), some (.fz (.int 0)), some (.fz (.bl true)), some (.fz (.tup (strD ns))), some (.fz (.bl true)), some (.fz (.tup (strD (orderOf ns sl b))))]) := by
    simp! [nl1, order_ok T g h hb]
  rw [seq_nx a1, seq_nx a2, seq_nx a3, seq_nx a4, seq_nx a5]
  simp! [isB, nl2, next_ok T g h hb, tupA3, lateD]
  try rfl
theorem lcm2_ok {a b : Nat} (ha : a ≤ 1000000) (hb : b ≤ 1000000) : arg2 lcm2 [.int (a : Nat), .int (b : Nat)] = some (.int (Nat.lcm a b : Nat)) := by
  unfold arg2 lcm2 GD.intOp
  simp only
  rw [if_pos ⟨by omega, by omega⟩, Int.natAbs_natCast, Int.natAbs_natCast]
theorem needs_inner {a0 a2 : Option X} (g : GoodNs ns) : ∀ (ps : List (Str × Nat × Nat)) (f : Str → Nat) (x3 x4 : Option X), (∀ p ∈ ps, p.1 ∈ ns ∧ 0 < p.2.2 ∧ p.2.2 ≤ 12) → FineN f →
    ∃ y3 y4, forL (g_tup 2 (g_cons (g_nm 3) (g_cons (g_nm 4) g_nil))) (lp_needs3 T) (ps.map pairD) [a0, some (.od (slN ns f)), a2, x3, x4] = some (.nx [a0, some (.od (slN ns ((ps.map pr).foldl upd2 f))), a2, y3, y4])
  | [], f, x3, x4, _, _ => ⟨x3, x4, rfl⟩
  | p :: r, f, x3, x4, hp, hf => by
    obtain ⟨p1, p2, p3⟩ := hp p List.mem_cons_self
    obtain ⟨y3, y4, ih⟩ := needs_inner g r (upd2 f (pr p)) (some (.fz (.str p.1))) (some (.fz (restD p))) (fun q hq => hp q (List.mem_cons_of_mem _ hq)) (hf.upd (q := pr p) p2 p3)
    have l12 := g.twelve
    have hlen : (slN ns f).length < sizeLine := by unfold slN; rw [slD_len]; exact small_lt (by omega)
    have i1 : ixT (restD p) (.int 1) = some (.int (p.2.2 : Nat)) := rfl
    have hl := lcm2_ok (a := f p.1) (b := p.2.2) (Nat.le_trans (hf.le p.1) (by decide)) (by omega)
    have hput : putG (slN ns f) (Sum.inr p.1 : Key) (.int (Nat.lcm (f p.1) p.2.2 : Nat)) = slN ns (upd2 f (pr p)) := put_slN (q := pr p) p1
    have body : lp_needs3 T [a0, some (.od (slN ns f)), a2, some (.fz (.str p.1)), some (.fz (restD p))] = some (.nx [a0, some (.od (slN ns (upd2 f (pr p)))), a2, some (.fz (.str p.1)), some (.fz (restD p))]) := by
      unfold lp_needs3
      simp! [toK, slN_at p1, i1, hl, hlen, hput]
    refine ⟨y3, y4, ?_⟩
    rw [List.map_cons, forL]
    show loopS (lp_needs3 T [a0, some (.od (slN ns f)), a2, some (.fz (.str p.1)), some (.fz (restD p))]) _ = _
    rw [body, loopS_nx]
    exact ih
theorem needs_loop (g : GoodNs ns) (h : SlD kds ns sl) : ∀ (bs : List Str) (f : Str → Nat) (x2 x3 x4 : Option X), (∀ b ∈ bs, b ∈ ns) → FineN f →
    ∃ y2 y3 y4, forL (g_nm 2) (lp_needs4 T) (strD bs) [some (.fz (ringD T.a_Ring ns kds)), some (.od (slN ns f)), x2, x3, x4] = some (.nx [some (.fz (ringD T.a_Ring ns kds)), some (.od (slN ns (bs.foldl (fun f b => ((T1 ns sl b).map pr).foldl upd2 f) f))), y2, y3, y4])
  | [], f, x2, x3, x4, _, _ => ⟨x2, x3, x4, rfl⟩
  | b :: r, f, x2, x3, x4, hb, hf => by
    have hbn := hb b List.mem_cons_self
    have hn := T1_nums (sl := sl) g hbn
    have s := own_all (sl := sl) g hbn
    have hps : ∀ p ∈ due ns b (nexts sl (ns.length - 1) b (behind ns b)) (some (nextOf ns sl b)), p.1 ∈ ns ∧ 0 < p.2.2 ∧ p.2.2 ≤ 12 := fun p hp => by
      obtain ⟨u1, u2, u3⟩ := hn p (List.mem_filter.mp hp).1
      exact ⟨u1, Nat.lt_of_le_of_lt (Nat.zero_le _) u2, u3⟩
    obtain ⟨z3, z4, e1⟩ := needs_inner T (a0 := some (.fz (ringD T.a_Ring ns kds))) (a2 := some (.fz (.str b))) g (due ns b (nexts sl (ns.length - 1) b (behind ns b)) (some (nextOf ns sl b))) f x3 x4 hps hf
    have hfold : ((due ns b (nexts sl (ns.length - 1) b (behind ns b)) (some (nextOf ns sl b))).map pr).foldl upd2 f = ((T1 ns sl b).map pr).foldl upd2 f := folds_ones _ _
    rw [hfold] at e1
    obtain ⟨y2, y3, y4, ih⟩ := needs_loop g h r (((T1 ns sl b).map pr).foldl upd2 f) (some (.fz (.str b))) z3 z4 (fun q hq => hb q (List.mem_cons_of_mem _ hq)) (hf.folds fun q hq => by
      obtain ⟨p, hp, rfl⟩ := List.mem_map.mp hq
      obtain ⟨u1, u2, u3⟩ := hn p hp
      exact ⟨Nat.lt_of_le_of_lt (Nat.zero_le _) u2, u3⟩)
    refine ⟨y2, y3, y4, ?_⟩
    have c2 : m_callN 4 (m_sighting_of T) (appK (.int 0)) 2 1 (m_cons (m_var 0) (m_cons (m_var 2) m_nil)) (m_cons (m_c (.bl true)) m_nil) [some (.fz (ringD T.a_Ring ns kds)), some (.od (slN ns f)), some (.fz (.str b)), x3, x4]
        = some (.ok (.fz (sightD ns (orderOf ns sl b) (some (nextOf ns sl b)))) [some (.fz (ringD T.a_Ring ns kds)), some (.od (slN ns f)), some (.fz (.str b)), x3, x4]) := by
      unfold m_callN
      rw [cons_ok (var_ok (i := 0) rfl) (cons_ok (var_ok (i := 2) rfl) nil_ok), bnd_ok]
      unfold kcallN1
      rw [cons_ok (d := .bl true) (e := [some (.fz (ringD T.a_Ring ns kds)), some (.od (slN ns f)), some (.fz (.str b)), x3, x4]) rfl nil_ok, bnd_ok]
      unfold kcallN
      rw [if_pos ⟨rfl, rfl⟩]
      unfold kcall appK
      show (if 4 = 4 then (match m_sighting_of T [.fz (ringD T.a_Ring ns kds), .fz (.str b), .fz (.int 0), .fz (.bl true)] with | some (.ok x []) => _ | some (.ex x []) => _ | _ => _) else _) = _
      rw [if_pos rfl, seen_all T g h hbn]
    have b1 : (m1 klist (m_fr (m_call 1 (m_says T) (m_cons (m_fr (m_callN 4 (m_sighting_of T) (appK (.int 0)) 2 1 (m_cons (m_var 0) (m_cons (m_var 2) m_nil)) (m_cons (m_c (.bl true)) m_nil))) m_nil)))) [some (.fz (ringD T.a_Ring ns kds)), some (.od (slN ns f)), some (.fz (.str b)), x3, x4]
        = some (.ok ((due ns b (nexts sl (ns.length - 1) b (behind ns b)) (some (nextOf ns sl b))).map pairD) [some (.fz (ringD T.a_Ring ns kds)), some (.od (slN ns f)), some (.fz (.str b)), x3, x4]) :=
      m1_ok (fr_ok (call_ok (cons_ok (fr_fz c2) nil_ok) rfl (says_ok T s))) rfl
    have body : lp_needs4 T [some (.fz (ringD T.a_Ring ns kds)), some (.od (slN ns f)), some (.fz (.str b)), x3, x4] = _ := for_ok b1 e1
    rw [strD, List.map_cons, forL]
    show loopS (lp_needs4 T [some (.fz (ringD T.a_Ring ns kds)), some (.od (slN ns f)), some (.fz (.str b)), x3, x4]) _ = _
    rw [body, loopS_nx]
    exact ih
theorem needs_ok (g : GoodNs ns) (h : SlD kds ns sl) : m_needs T [.fz (ringD T.a_Ring ns kds)] = some (.ok (.od (slN ns (needOf ns sl))) []) := by
  show finF [] (mb_needs T [some (.fz (ringD T.a_Ring ns kds)), none, none, none, none]) = _
  unfold mb_needs
  have l12 := g.twelve
  have nl3 := nolk (ns := ns) (kds := kds) (show (("names" : Str) == ("_names" : Str)) = false by decide +kernel) (by decide +kernel)
  have b1 : ∀ x1 : Option X, (m1 klist (m_fr (m_meth T.a_Ring "names" 1 (m_Ring_names T) (m_var 0) m_nil))) [some (.fz (ringD T.a_Ring ns kds)), x1, none, none, none] = some (.ok (strD ns) [some (.fz (ringD T.a_Ring ns kds)), x1, none, none, none]) := fun x1 => by
    simp! [nl3, K31.names_ok T]
  have el := dc_pure (mg := g_nm 3) (mk := el_needs1 T) (mv := el_needs2 T) (vs := [3]) (e0 := [some (.fz (ringD T.a_Ring ns kds)), none, none, none, none]) (fun _ => .int 1) ns [] (fun n hn => ⟨[some (.fz (ringD T.a_Ring ns kds)), none, none, some (.fz (.str n)), none], by
    unfold dcT el_needs1 el_needs2
    simp! [toK], rfl⟩) g.nd (fun _ _ z => nomatch z) (by rw [List.length_nil]; omega)
  rw [List.nil_append] at el
  have a1 : m_set (m_dc (m1 klist (m_fr (m_meth T.a_Ring "names" 1 (m_Ring_names T) (m_var 0) m_nil))) (g_nm 3) (m_k true) (el_needs1 T) (el_needs2 T) [3]) (g_nm 1) [some (.fz (ringD T.a_Ring ns kds)), none, none, none, none] = some (.nx [some (.fz (ringD T.a_Ring ns kds)), some (.od (slN ns fun _ => 1)), none, none, none]) := by
    refine set_ok (e := [some (.fz (ringD T.a_Ring ns kds)), none, none, none, none]) (x := .od (slN ns fun _ => 1)) ?_ rfl
    unfold m_dc
    rw [b1 none, bnd_ok]
    exact el
  obtain ⟨y2, y3, y4, e⟩ := needs_loop T g h ns (fun _ => 1) none none none (fun _ hb => hb) FineN.one
  rw [seq_nx a1, seq_nx (for_ok (b1 _) e)]
  rfl
end
end K31
namespace K31
open PySem PySem.Spec PyProof.Rows L2 GF GD GL
theorem folds_dvd {x : Str} {d : Nat} : ∀ (ps : List (Str × Nat)) (f : Str → Nat), (ps.foldl upd2 f) x ∣ d ↔ f x ∣ d ∧ ∀ q ∈ ps, q.1 = x → q.2 ∣ d
  | [], f => by simp
  | q :: r, f => by
    rw [List.foldl_cons, folds_dvd r, List.forall_mem_cons, ← and_assoc]
    refine and_congr ?_ Iff.rfl
    unfold upd2
    by_cases e : x = q.1
    · rw [if_pos e]
      refine Nat.lcm_dvd_iff.trans (and_congr Iff.rfl ?_)
      simp [e]
    · rw [if_neg e]
      have : ¬ q.1 = x := fun z => e z.symm
      simp [this]
theorem folds2_dvd {ns : List Str} {sl : Str → Int} {x : Str} {d : Nat} : ∀ (bs : List Str) (f : Str → Nat), (bs.foldl (fun f b => ((T1 ns sl b).map pr).foldl upd2 f) f) x ∣ d ↔ f x ∣ d ∧ ∀ b ∈ bs, ∀ p ∈ T1 ns sl b, p.1 = x → p.2.2 ∣ d
  | [], f => by simp
  | b :: r, f => by
    rw [List.foldl_cons, folds2_dvd r, List.forall_mem_cons, folds_dvd, ← and_assoc]
    refine and_congr (and_congr Iff.rfl ?_) Iff.rfl
    exact ⟨fun h p hp e => h (pr p) (List.mem_map_of_mem hp) e, fun h q hq e => by
      obtain ⟨p, hp, rfl⟩ := List.mem_map.mp hq
      exact h p hp e⟩
theorem need_dvd {ns : List Str} {sl : Str → Int} {x : Str} {d : Nat} : needOf ns sl x ∣ d ↔ ∀ b ∈ ns, ∀ p ∈ T1 ns sl b, p.1 = x → p.2.2 ∣ d := by
  unfold needOf
  rw [folds2_dvd]
  exact ⟨fun h => h.2, fun h => ⟨Nat.one_dvd _, h⟩⟩
theorem need_fine {ns : List Str} {sl : Str → Int} (g : GoodNs ns) : FineN (needOf ns sl) := by
  have go : ∀ (bs : List Str) (f : Str → Nat), (∀ b ∈ bs, b ∈ ns) → FineN f → FineN (bs.foldl (fun f b => ((T1 ns sl b).map pr).foldl upd2 f) f) := by
    intro bs
    induction bs with
    | nil => intro f _ h; exact h
    | cons b r ih =>
      intro f hb hf
      rw [List.foldl_cons]
      refine ih _ (fun y hy => hb y (List.mem_cons_of_mem _ hy)) (hf.folds fun q hq => ?_)
      obtain ⟨p, hp, rfl⟩ := List.mem_map.mp hq
      obtain ⟨u1, u2, u3⟩ := T1_nums (sl := sl) g (hb b List.mem_cons_self) p hp
      exact ⟨Nat.lt_of_le_of_lt (Nat.zero_le _) u2, u3⟩
  exact go ns _ (fun _ h => h) FineN.one
/-- the round from b is the same by both -/
def SameR (ns : List Str) (sl' sl : Str → Int) (b : Str) : Prop := orderOf ns sl' b = orderOf ns sl b ∧ nextOf ns sl' b = nextOf ns sl b
instance {ns : List Str} {sl' sl : Str → Int} {b : Str} : Decidable (SameR ns sl' sl b) := by unfold SameR; infer_instance
theorem emod_dvd {a b m : Int} : a % m = b % m ↔ m ∣ a - b := by
  rw [Int.emod_eq_emod_iff_emod_sub_eq_zero]
  exact ⟨Int.dvd_of_emod_eq_zero, Int.emod_eq_zero_of_dvd⟩
theorem same_iff {ns : List Str} {sl sl' : Str → Int} {b x : Str} (g : GoodNs ns) (hb : b ∈ ns) (hoff : ∀ y, y ≠ x → sl' y = sl y) : SameR ns sl' sl b ↔ ∀ p ∈ T1 ns sl b, p.1 = x → ((p.2.2 : Nat) : Int) ∣ sl' x - sl x := by
  have s := own_all (sl := sl) g hb
  have hl := (order_perm (sl := sl) hb).length_eq
  have hl' := (order_perm (sl := sl') hb).length_eq
  have fit : Fits sl (T1 ns sl b) := (follows_iff s).mp ⟨List.take_of_length_le (Nat.le_refl _), fun y e => (Option.some.inj e).symm⟩
  have h1 : SameR ns sl' sl b ↔ Follows ns sl' b (orderOf ns sl b) (some (nextOf ns sl b)) := by
    unfold SameR Follows
    rw [List.take_of_length_le (by omega)]
    exact ⟨fun h => ⟨h.1, fun y e => by rw [← Option.some.inj e, h.2]⟩, fun h => ⟨h.1, (h.2 _ rfl).symm⟩⟩
  rw [h1, follows_iff s]
  refine ⟨fun h p hp e => ?_, fun h p hp => ?_⟩
  · have a := h p hp
    have c := fit p hp
    rw [e] at a c
    exact emod_dvd.mp (a.trans c.symm)
  · by_cases e : p.1 = x
    · have c := fit p hp
      have d := emod_dvd.mpr (h p hp e)
      rw [e] at c ⊢
      exact d.trans c
    · rw [hoff _ e]
      exact fit p hp
theorem nat_dvd {m : Nat} {n : Int} : ((m : Nat) : Int) ∣ n ↔ m ∣ n.natAbs := by
  rw [← Int.natAbs_dvd_natAbs, Int.natAbs_natCast]
theorem all_same {ns : List Str} {sl sl' : Str → Int} {x : Str} (g : GoodNs ns) (hoff : ∀ y, y ≠ x → sl' y = sl y) : (∀ b ∈ ns, SameR ns sl' sl b) ↔ ((needOf ns sl x : Nat) : Int) ∣ sl' x - sl x := by
  rw [nat_dvd, need_dvd]
  exact ⟨fun h b hb p hp e => nat_dvd.mp ((same_iff g hb hoff).mp (h b hb) p hp e), fun h b hb => (same_iff g hb hoff).mpr fun p hp e => nat_dvd.mpr (h b hb p hp e)⟩
/-! ### rounds compared -/
abbrev roundP (ns : List Str) (sl : Str → Int) (b : Str) : PyData := .tuple [.tuple ((orderOf ns sl b).map PyData.str), .str (nextOf ns sl b)]
theorem toPs_round (ns : List Str) (sl : Str → Int) : ∀ bs : List Str, toPs (bs.map (roundD ns sl)) = some (bs.map (roundP ns sl))
  | [] => by rw [List.map_nil, toPs]; rfl
  | b :: r => by
    rw [List.map_cons, toPs, toPs_round ns sl r]
    simp only [toP, toPs, toPs_str, Option.map_some]
    rfl
theorem can_rounds {ns : List Str} {sl : Str → Int} (g : GoodNs ns) : ∀ bs : List Str, (∀ b ∈ bs, b ∈ ns) → PyData.canLayAll0 (bs.map (roundP ns sl)) = true ∧ PyData.depthAll (bs.map (roundP ns sl)) ≤ 2
  | [], _ => ⟨rfl, Nat.zero_le _⟩
  | b :: r, hb => by
    obtain ⟨i1, i2⟩ := can_rounds (sl := sl) g r fun q hq => hb q (List.mem_cons_of_mem _ hq)
    have hbn := hb b List.mem_cons_self
    have h1 := can_strs (orderOf ns sl b) (g.ostr hbn)
    have h2 := g.str _ (next_mem (sl := sl) hbn)
    rw [List.map_cons]
    constructor
    · simp only [PyData.canLayAll0, PyData.canLay0, h1, h2, i1, Bool.and_self]
    · simp only [PyData.depthAll, PyData.depth, depth_strs]
      omega
theorem shaped_rounds {ns : List Str} {sl : Str → Int} (g : GoodNs ns) : SeqAt.shaped (.list (ns.map (roundP ns sl))) = true := by
  obtain ⟨h1, h2⟩ := can_rounds (sl := sl) g ns fun _ h => h
  unfold SeqAt.shaped
  rw [PyData.canLay0, h1, PyData.depth]
  simp
  omega
theorem eqv_rounds {ns : List Str} {sl sl' : Str → Int} : ∀ bs : List Str, PyData.eqvAll (bs.map (roundP ns sl')) (bs.map (roundP ns sl)) = decide (∀ b ∈ bs, SameR ns sl' sl b)
  | [] => by rw [List.map_nil, List.map_nil, PyData.eqvAll]; rfl
  | b :: r => by
    rw [List.map_cons, List.map_cons, PyData.eqvAll, eqv_rounds r, PyData.eqv, PyData.eqvAll, PyData.eqvAll, PyData.eqvAll, eqv_tups, PyData.eqv, Bool.eq_iff_iff]
    simp only [Bool.and_true, Bool.and_eq_true, decide_eq_true_iff, beq_iff_eq, List.forall_mem_cons]
    rfl
theorem eqD_rounds (n : Bool) {ns : List Str} {sl sl' : Str → Int} (g : GoodNs ns) : eqD n (.lst (ns.map (roundD ns sl'))) (.lst (ns.map (roundD ns sl))) = some (.bl (xor n (decide (∀ b ∈ ns, SameR ns sl' sl b)))) := by
  unfold eqD
  rw [toP, toP, toPs_round, toPs_round]
  show (if SeqAt.shaped (.list (ns.map (roundP ns sl'))) = true ∧ SeqAt.shaped (.list (ns.map (roundP ns sl))) = true then some (D.bl (xor n (PyData.eqv (.list (ns.map (roundP ns sl'))) (.list (ns.map (roundP ns sl)))))) else none) = _
  rw [if_pos ⟨shaped_rounds g, shaped_rounds g⟩, PyData.eqv, eqv_rounds]
end K31
namespace K31
open PySem PySem.Spec PyProof.Rows L2 GF GD GL
local macro_rules
  | `(tactic| simp! [$ls,*]) => `(tactic| simp only [m_seq, m_set, m_up, m_fr, m1, m2, k2, mA, m_var, m_mv, m_c, m_k, m_ite, kif, m_if, kifS, m_not, m_ret, kret, m_drop, kdrop, m_cons, kc, kc2, m_nil, m_call, kcall, bnd_ok, bnd_ex, bndS_ok, bndS_ex, seqS_nx, seqS_rt, seqS_bk, seqS_ct, seqS_ex, loopS_nx, loopS_rt, loopS_ct, loopS_bk,
  un?, gt, st', kset, g_nm, g_tup, g_cons, g_nil, knot, kdrop, ifAny, ifOl, lkOl, m_r2, m_l2, m_l1, kv1, kv2, kix, m_ixV, m_append, kap, m_sl, ks0, ks1, ks2, m_noPart, kpart, m_on, kon2, isLst, isTup, isStr, m_or, isTupX, m_call1, kcall1, m_callN, kcallN, kcallN1, appD, m_callB, kcallB, m_meth, kmeth, m_make, kmake, m_makeB, kmakeB, m_par, kpar1, kpar2, m_par3, kpar3, m_parT, kparT, m_consX, m_nilX, kXs, kXs2, m_st, kst, m_setF, m_fldV, m_getV, kgetV, m_put, kput, kput2, m_reverse, m_clear, m_for, klist, ktup, kseq_l, kseq_t, m_lc, m_dc, m_while, m_brk, m_cnt, m_next, m_chain, kch0, kch1, kch, GD.intOp, leI, ltI, geI, gtI, addI, subI, modI, kbool, knotD, isiG, lenG, eqD_int, finF, colE, frz, Option.map_some, List.length_cons, List.length_nil, List.map_cons, List.map_nil, Bool.false_xor, Bool.true_xor, Bool.not_true, Bool.not_false, decide_true, decide_false, ite_true, ite_false, reduceIte, if_true, if_false, eq_self, Bool.false_eq_true, true_and, and_true, GD.flat_strs, Option.isNone_none, Nat.reduceAdd, Nat.reduceSub, Nat.reduceMul, Nat.reduceLT, Nat.reduceEqDiff, Int.reduceEq, Int.reduceLT, Int.reduceLE, Int.reduceAdd, Int.reduceSub, Int.reduceNeg, Int.cast_ofNat_Int, Int.natCast_zero, Int.natCast_one, $ls,*])

theorem ones_of {ds ys : List D} (h : Paired (fun _ y => ∃ c, (97 ≤ c ∧ c ≤ 122) ∧ y = D.str (one c)) ds ys) : ∃ cs : List Nat, (∀ c ∈ cs, 97 ≤ c ∧ c ≤ 122) ∧ cs.length = ds.length ∧ ys = strD (cs.map one) := by
  induction h with
  | nil => exact ⟨[], (fun _ z => nomatch z), rfl, rfl⟩
  | cons h t ih =>
    obtain ⟨cs, h1, h2, h3⟩ := ih
    obtain ⟨c, hc, rfl⟩ := h
    exact ⟨c :: cs, fun x hx => by
      rcases List.mem_cons.mp hx with rfl | hx
      · exact hc
      · exact h1 x hx, by rw [List.length_cons, List.length_cons, h2], by rw [h3]; rfl⟩
abbrev ownW : List Str := ["ring", "round", "watch", "more", "go", "may", "sure", "names", "come", "none", "slip", "then"]
section
variable {K : PySem.W.Frag} {mg : Str → Option Value} (T : Tx K mg)
/-- a word of sz signs -/
theorem word_ok {s : X} {n1 k5 : D} {x2 x8 x9 x7 : Option X} {fs : List Str} {sz : Nat} (hs : StK s) (h1 : 1 ≤ sz) (h8 : sz ≤ 8) : ∃ s' w0, StK s' ∧ NameOk w0 ∧
    m_set (m_up (m_on isStr joinG (m_c (.str "")) (m_fr (m_lc (mA krng1 (m_cons (m_var 6) m_nil)) (g_nm 10) (m_k true) (el_l_crew1 T) [10])))) (g_nm 8) [some s, some (.fz n1), x2, some (.fz (.str abc)), some (.ol (strD fs)), some (.fz k5), some (.fz (.int (sz : Nat))), x7, x8, x9, none, none]
      = some (.nx [some s', some (.fz n1), x2, some (.fz (.str abc)), some (.ol (strD fs)), some (.fz k5), some (.fz (.int (sz : Nat))), x7, some (.fz (.str w0)), x9, none, none]) := by
  obtain ⟨ys, e', el, ⟨s2, hs2, he⟩, hy⟩ := lc_run (mg := g_nm 10) (mt := m_k true) (me := el_l_crew1 T) (vs := [10]) (fun e => ∃ q, StK q ∧ e = [some q, some (.fz n1), x2, some (.fz (.str abc)), some (.ol (strD fs)), some (.fz k5), some (.fz (.int (sz : Nat))), x7, x8, x9, none, none]) (fun _ y => ∃ c, (97 ≤ c ∧ c ≤ 122) ∧ y = D.str (one c)) (cnt 0 sz) [] [some s, some (.fz n1), x2, some (.fz (.str abc)), some (.ol (strD fs)), some (.fz k5), some (.fz (.int (sz : Nat))), x7, x8, x9, none, none] ⟨s, hs, rfl⟩ (fun dd hd e ⟨q, hq, he⟩ => by
    subst he
    obtain ⟨c, q', ec, hc, hq'⟩ := pick_str T (z := abc) hq (by decide +kernel) (by decide +kernel)
    obtain ⟨i, hi, rfl⟩ := List.mem_map.mp hd
    exact ⟨.str (one c), [some q', some (.fz n1), x2, some (.fz (.str abc)), some (.ol (strD fs)), some (.fz k5), some (.fz (.int (sz : Nat))), x7, x8, x9, some (.fz (.int ((0 + i : Nat) : Int))), none], lct_ok rfl (fr_fz (call1_ok rfl (cons_ok (var_ok (i := 3) rfl) nil_ok) rfl rfl ec)), ⟨q', hq', rfl⟩, c, abc_mem.mp hc, rfl⟩) (by rw [List.length_nil]; unfold cnt; rw [List.length_map, List.length_range]; exact small_sz (by omega))
  rw [List.nil_append] at el
  subst he
  obtain ⟨cs, hc1, hc2, rfl⟩ := ones_of hy
  have hcl : cs.length = sz := by rw [hc2]; unfold cnt; rw [List.length_map, List.length_range]
  have hw0 : NameOk (Txt.join ⟨#[]⟩ (cs.map one)) := by
    unfold NameOk
    rw [glue_ones]
    exact ⟨by omega, by omega, hc1⟩
  have hjn : joinG (.str "") (.lst (strD (cs.map one))) = some (.str (Txt.join ⟨#[]⟩ (cs.map one))) := by
    unfold joinG
    simp only [strsOf_strs]
    rw [if_pos (by rw [ones_len, List.length_map]; show cs.length + cs.length * 0 ≤ 16777216; omega)]
    rfl
  refine ⟨s2, _, hs2, hw0, ?_⟩
  have b0 : (mA krng1 (m_cons (m_var 6) m_nil)) [some s, some (.fz n1), x2, some (.fz (.str abc)), some (.ol (strD fs)), some (.fz k5), some (.fz (.int (sz : Nat))), x7, x8, x9, none, none] = some (.ok (cnt 0 sz) [some s, some (.fz n1), x2, some (.fz (.str abc)), some (.ol (strD fs)), some (.fz k5), some (.fz (.int (sz : Nat))), x7, x8, x9, none, none]) := mA_ok (cons_ok (var_ok (i := 6) rfl) nil_ok) (krng1_ok (by omega))
  exact set_ok (up_ok (on_ok rfl rfl (fr_ok (lc_ok b0 el)) hjn)) rfl
/-- the first of the like words that is none yet -/
theorem fresh_ok {s : X} {n1 k5 : D} {x2 x6 x7 x9 : Option X} {fs : List Str} {w1 : Str} (hw : NameOk w1) (hl : fs.length ≤ 20) : ∃ w y9, NameOk w ∧ w ∉ fs ∧
    m_seq (m_set (m2 catL (m_fr (mA lstA (m_cons (m_var 8) m_nil))) (m_fr (m_lc (m1 kstr (m_var 3)) (g_nm 10) (m_k true) (el_l_crew2 T) [10]))) (g_nm 9))
      (m_drop (m_append 4 (m2 ixL (m_fr (m_lc (m1 klist (m_var 9)) (g_nm 11) (if_l_crew4 T) (el_l_crew3 T) [11])) (m_c (.int 0))))) [some s, some (.fz n1), x2, some (.fz (.str abc)), some (.ol (strD fs)), some (.fz k5), x6, x7, some (.fz (.str w1)), x9, none, none]
      = some (.nx [some s, some (.fz n1), x2, some (.fz (.str abc)), some (.ol (strD (fs ++ [w]))), some (.fz k5), x6, x7, some (.fz (.str w1)), y9, none, none]) := by
  have el2 := lc_map (mg := g_nm 10) (mt := m_k true) (me := el_l_crew2 T) (vs := [10]) (e0 := [some s, some (.fz n1), x2, some (.fz (.str abc)), some (.ol (strD fs)), some (.fz k5), x6, x7, some (.fz (.str w1)), x9, none, none]) (fun d => match d with | .str c => .str (cutS w1 none (some 7) ++ c) | d => d) (abc.cps.toList.map fun c => D.str (one c)) (fun d hd => by
    obtain ⟨c, hc, rfl⟩ := List.mem_map.mp hd
    refine ⟨[some s, some (.fz n1), x2, some (.fz (.str abc)), some (.ol (strD fs)), some (.fz k5), x6, x7, some (.fz (.str w1)), x9, some (.fz (.str (one c))), none], lct_ok rfl ?_, rfl⟩
    have hsl : slS (.str w1) none (some 7) = some (.str (cutS w1 none (some 7))) := by
      unfold slS
      simp only
      rw [if_pos (Nat.le_trans hw.len (by decide))]
    have hct : catS (.str (cutS w1 none (some 7))) (.str (one c)) = some (.str (cutS w1 none (some 7) ++ one c)) := by
      unfold catS
      simp only
      have hcl := cutS_length w1 none (some 7)
      have hl8 := hw.len
      rw [if_pos (show (cutS w1 none (some 7)).length + (one c).length ≤ sizeLine from small_sz (by have : (one c).length = 1 := rfl; omega))]
    unfold el_l_crew2
    simp! [hsl, hct]) (by rw [List.length_map]; exact small_sz (by decide +kernel))
  rw [List.map_map] at el2
  have em : abc.cps.toList.map ((fun d => match d with | .str c => .str (cutS w1 none (some 7) ++ c) | d => d) ∘ fun c => D.str (one c)) = strD (abc.cps.toList.map (w7 w1)) := by
    rw [strD, List.map_map]
    rfl
  rw [em] at el2
  have b2 : (m1 kstr (m_var 3)) [some s, some (.fz n1), x2, some (.fz (.str abc)), some (.ol (strD fs)), some (.fz k5), x6, x7, some (.fz (.str w1)), x9, none, none] = some (.ok (abc.cps.toList.map fun c => D.str (one c)) [some s, some (.fz n1), x2, some (.fz (.str abc)), some (.ol (strD fs)), some (.fz k5), x6, x7, some (.fz (.str w1)), x9, none, none]) := m1_ok (var_ok rfl) rfl
  have e26 : abc.cps.toList.length = 26 := by decide +kernel
  have hcat : catL (.lst [.str w1]) (.lst (strD (abc.cps.toList.map (w7 w1)))) = some (.ol (strD (turns27 w1))) := by
    unfold catL
    simp only
    rw [if_pos (show [D.str w1].length + (strD (abc.cps.toList.map (w7 w1))).length ≤ sizeLine from small_sz (by rw [List.length_map, List.length_map, e26, List.length_singleton]; decide))]
    rfl
  have l1 : lstA [.str w1] = some (.ol [.str w1]) := if_pos (show 1 ≤ sizeLine by decide)
  have c3 : m_fr (mA lstA (m_cons (m_var 8) m_nil)) [some s, some (.fz n1), x2, some (.fz (.str abc)), some (.ol (strD fs)), some (.fz k5), x6, x7, some (.fz (.str w1)), x9, none, none] = some (.ok (.lst [.str w1]) [some s, some (.fz n1), x2, some (.fz (.str abc)), some (.ol (strD fs)), some (.fz k5), x6, x7, some (.fz (.str w1)), x9, none, none]) := fr_ok (mA_ok (cons_ok (var_ok (i := 8) rfl) nil_ok) l1)
  have a3 := set_ok (g := g_nm 9) (m2_ok c3 (fr_ok (lc_ok b2 el2)) hcat) rfl
  have hne := fresh_one (z := w1) (found := fs) (by omega)
  generalize hfl : (turns27 w1).filter (fun y => !decide (y ∈ fs)) = fl at hne
  cases fl with
  | nil => exact absurd rfl hne
  | cons w wr =>
    have hwm : w ∈ (turns27 w1).filter (fun y => !decide (y ∈ fs)) := by rw [hfl]; exact List.mem_cons_self
    obtain ⟨hwt, hwf⟩ := List.mem_filter.mp hwm
    have hwn : w ∉ fs := by simpa using hwf
    have el3 := lc_filter (mg := g_nm 11) (mt := if_l_crew4 T) (me := el_l_crew3 T) (vs := [11]) (e0 := [some s, some (.fz n1), x2, some (.fz (.str abc)), some (.ol (strD fs)), some (.fz k5), x6, x7, some (.fz (.str w1)), some (.fz (.lst (strD (turns27 w1)))), none, none]) (fun d => match d with | .str c => !decide (c ∈ fs) | _ => false) (strD (turns27 w1)) (fun d hd => by
      obtain ⟨c, hc, rfl⟩ := List.mem_map.mp hd
      refine ⟨[some s, some (.fz n1), x2, some (.fz (.str abc)), some (.ol (strD fs)), some (.fz k5), x6, x7, some (.fz (.str w1)), some (.fz (.lst (strD (turns27 w1)))), none, some (.fz (.str c))], ?_, rfl⟩
      unfold lcT if_l_crew4 el_l_crew3
      simp! [inF_lst]
      by_cases hm : c ∈ fs
      · simp only [hm, decide_true, Bool.not_true]; rfl
      · simp only [hm, decide_false, Bool.not_false]; rfl) (by rw [List.length_map]; exact small_sz (by show (abc.cps.toList.map (w7 w1)).length + 1 ≤ _; rw [List.length_map, e26]; decide))
    have e4 : (strD (turns27 w1)).filter (fun d => match d with | .str c => !decide (c ∈ fs) | _ => false) = strD (w :: wr) := by
      rw [← hfl, strD, strD, List.filter_map]
      rfl
    rw [e4] at el3
    have b5 : (m1 klist (m_var 9)) [some s, some (.fz n1), x2, some (.fz (.str abc)), some (.ol (strD fs)), some (.fz k5), x6, x7, some (.fz (.str w1)), some (.ol (strD (turns27 w1))), none, none] = some (.ok (strD (turns27 w1)) [some s, some (.fz n1), x2, some (.fz (.str abc)), some (.ol (strD fs)), some (.fz k5), x6, x7, some (.fz (.str w1)), some (.fz (.lst (strD (turns27 w1)))), none, none]) := by
      simp! []
    have hix : ixL (.lst (strD (w :: wr))) (.int 0) = some (.str w) := ixL_at (j := 0) rfl
    have b7 := m2_ok (mb := m_c (.int 0)) (fr_ok (lc_ok b5 el3)) rfl hix
    have b8 := append_ok (i := 4) (ds := strD fs) (ds0 := strD fs) b7 rfl rfl (by rw [List.length_map]; exact small_lt (by omega))
    refine ⟨w, some (.fz (.lst (strD (turns27 w1)))), turns27_ok hw w hwt, hwn, ?_⟩
    refine (seq_nx a3).trans ?_
    refine (drop_ok b8).trans ?_
    show some (Ot.nx [some s, some (.fz n1), x2, some (.fz (.str abc)), some (.ol (strD fs ++ [.str w])), some (.fz k5), x6, x7, some (.fz (.str w1)), some (.fz (.lst (strD (turns27 w1)))), none, none]) = _
    rw [show strD fs ++ [D.str w] = strD (fs ++ [w]) from (List.map_append (f := D.str) (l₁ := fs) (l₂ := [w])).symm]
end
end K31
namespace K31
open PySem PySem.Spec PyProof.Rows L2 GF GD GL
local macro_rules
  | `(tactic| simp! [$ls,*]) => `(tactic| simp only [m_seq, m_set, m_up, m_fr, m1, m2, k2, mA, m_var, m_mv, m_c, m_k, m_ite, kif, m_if, kifS, m_not, m_ret, kret, m_drop, kdrop, m_cons, kc, kc2, m_nil, m_call, kcall, bnd_ok, bnd_ex, bndS_ok, bndS_ex, seqS_nx, seqS_rt, seqS_bk, seqS_ct, seqS_ex, loopS_nx, loopS_rt, loopS_ct, loopS_bk,
  un?, gt, st', kset, g_nm, g_tup, g_cons, g_nil, knot, kdrop, ifAny, ifOl, lkOl, m_r2, m_l2, m_l1, kv1, kv2, kix, m_ixV, m_append, kap, m_sl, ks0, ks1, ks2, m_noPart, kpart, m_on, kon2, isLst, isTup, isStr, m_or, isTupX, m_call1, kcall1, m_callN, kcallN, kcallN1, appD, m_callB, kcallB, m_meth, kmeth, m_make, kmake, m_makeB, kmakeB, m_par, kpar1, kpar2, m_par3, kpar3, m_parT, kparT, m_consX, m_nilX, kXs, kXs2, m_st, kst, m_setF, m_fldV, m_getV, kgetV, m_put, kput, kput2, m_reverse, m_clear, m_for, klist, ktup, kseq_l, kseq_t, m_lc, m_dc, m_while, m_brk, m_cnt, m_next, m_chain, kch0, kch1, kch, GD.intOp, leI, ltI, geI, gtI, addI, subI, modI, kbool, knotD, isiG, lenG, eqD_int, finF, colE, frz, Option.map_some, List.length_cons, List.length_nil, List.map_cons, List.map_nil, Bool.false_xor, Bool.true_xor, Bool.not_true, Bool.not_false, decide_true, decide_false, ite_true, ite_false, reduceIte, if_true, if_false, eq_self, Bool.false_eq_true, true_and, and_true, GD.flat_strs, Option.isNone_none, Nat.reduceAdd, Nat.reduceSub, Nat.reduceMul, Nat.reduceLT, Nat.reduceEqDiff, Int.reduceEq, Int.reduceLT, Int.reduceLE, Int.reduceAdd, Int.reduceSub, Int.reduceNeg, Int.cast_ofNat_Int, Int.natCast_zero, Int.natCast_one, $ls,*])

section
variable {K : PySem.W.Frag} {mg : Str → Option Value} (T : Tx K mg)
theorem crew_turn {s : X} {n1 k5 : D} {x2 : X} {x6 x7 x8 x9 : Option X} {fs : List Str} (hs : StK s) (h2 : frz x2 = .lst (strD ownW)) (hl : fs.length ≤ 20) (ho : ∀ y ∈ fs, NameOk y) : ∃ s' w y2 y6 y7 y8 y9, StK s' ∧ NameOk w ∧ w ∉ fs ∧ frz y2 = .lst (strD ownW) ∧
    lp_l_crew5 T [some s, some (.fz n1), some x2, some (.fz (.str abc)), some (.ol (strD fs)), some (.fz k5), x6, x7, x8, x9, none, none]
      = some (.nx [some s', some (.fz n1), some y2, some (.fz (.str abc)), some (.ol (strD (fs ++ [w]))), some (.fz k5), y6, y7, y8, y9, none, none]) := by
  obtain ⟨d1, s1, e1, d10, d11, hs1⟩ := draw_ok T (n := 8) hs (by decide) (lt_B4 (by decide))
  obtain ⟨d2, s2, e2, d20, d21, hs2⟩ := draw_ok T (n := 4) hs1 (by decide) (lt_B4 (by decide))
  obtain ⟨way, s3, e3, d30, d31, hs3⟩ := draw_ok T (n := 4) hs2 (by decide) (lt_B4 (by decide))
  obtain ⟨j, rfl⟩ := Int.eq_ofNat_of_zero_le d10
  have l4 : lstA [.int 1, .int 2, .int 8, .int (1 + ((j : Nat) : Int))] = some (.ol [.int 1, .int 2, .int 8, .int (1 + ((j : Nat) : Int))]) := if_pos (show 4 ≤ sizeLine by decide)
  obtain ⟨sz, hsz, sz1, sz8⟩ : ∃ sz : Nat, ixL (.lst [.int 1, .int 2, .int 8, .int (1 + ((j : Nat) : Int))]) (.int d2) = some (.int (sz : Nat)) ∧ 1 ≤ sz ∧ sz ≤ 8 := by
    have : d2 = 0 ∨ d2 = 1 ∨ d2 = 2 ∨ d2 = 3 := by omega
    rcases this with rfl | rfl | rfl | rfl
    · exact ⟨1, rfl, by omega, by omega⟩
    · exact ⟨2, rfl, by omega, by omega⟩
    · exact ⟨8, rfl, by omega, by omega⟩
    · refine ⟨j + 1, ?_, by omega, by omega⟩
      rw [show (((j + 1 : Nat)) : Int) = 1 + ((j : Nat) : Int) from by omega]
      rfl
  have a1 : m_par 6 7 (m_up (m2 ixL (m_fr (mA lstA (m_cons (m_c (.int 1)) (m_cons (m_c (.int 2)) (m_cons (m_c (.int 8)) (m_cons (m2 addI (m_c (.int 1)) (m_fr (m_call1 2 (m_l_draw T) 0 (m_cons (m_c (.int 8)) m_nil)))) m_nil)))))) (m_fr (m_call1 2 (m_l_draw T) 0 (m_cons (m_c (.int 4)) m_nil))))) (m_call1 2 (m_l_draw T) 0 (m_cons (m_c (.int 4)) m_nil)) [some s, some (.fz n1), some x2, some (.fz (.str abc)), some (.ol (strD fs)), some (.fz k5), x6, x7, x8, x9, none, none]
      = some (.nx [some s3, some (.fz n1), some x2, some (.fz (.str abc)), some (.ol (strD fs)), some (.fz k5), some (.fz (.int (sz : Nat))), some (.fz (.int way)), x8, x9, none, none]) := by
    simp! [e1, l4, e2, hsz, e3]
  obtain ⟨s4, w0, hs4, hw0, a2⟩ := word_ok T (n1 := n1) (k5 := k5) (x2 := some x2) (x7 := some (.fz (.int way))) (x8 := x8) (x9 := x9) (fs := fs) (sz := sz) hs3 sz1 sz8
  obtain ⟨s5, y2, w1, hs5, h2', hw1, a3⟩ : ∃ (s5 y2 : X) (w1 : Str), StK s5 ∧ frz y2 = .lst (strD ownW) ∧ NameOk w1 ∧ m_if (m1 kbool (m2 (eqD false) (m_var 7) (m_c (.int 0)))) (m_set (m_call1 2 (m_l_pick T) 0 (m_cons (m_var 2) m_nil)) (g_nm 8)) m_next [some s4, some (.fz n1), some x2, some (.fz (.str abc)), some (.ol (strD fs)), some (.fz k5), some (.fz (.int (sz : Nat))), some (.fz (.int way)), some (.fz (.str w0)), x9, none, none]
      = some (.nx [some s5, some (.fz n1), some y2, some (.fz (.str abc)), some (.ol (strD fs)), some (.fz k5), some (.fz (.int (sz : Nat))), some (.fz (.int way)), some (.fz (.str w1)), x9, none, none]) := by
    by_cases c : way = 0
    · obtain ⟨v, s5, e5, hv, hs5⟩ := pick_ok T (ds := strD ownW) hs4 (by simp) (by simp)
      obtain ⟨w1, hw1, rfl⟩ := List.mem_map.mp hv
      have hall : ∀ y ∈ ownW, NameOk y := by decide +kernel
      refine ⟨s5, .fz (.lst (strD ownW)), w1, hs5, rfl, hall w1 hw1, ?_⟩
      refine if_t (e := [some s4, some (.fz n1), some x2, some (.fz (.str abc)), some (.ol (strD fs)), some (.fz k5), some (.fz (.int (sz : Nat))), some (.fz (.int way)), some (.fz (.str w0)), x9, none, none]) (by simp! [c]) ?_
      have b : (m_cons (m_var 2) m_nil) [some s4, some (.fz n1), some x2, some (.fz (.str abc)), some (.ol (strD fs)), some (.fz k5), some (.fz (.int (sz : Nat))), some (.fz (.int way)), some (.fz (.str w0)), x9, none, none] = some (.ok [.lst (strD ownW)] [some s4, some (.fz n1), some (.fz (.lst (strD ownW))), some (.fz (.str abc)), some (.ol (strD fs)), some (.fz k5), some (.fz (.int (sz : Nat))), some (.fz (.int way)), some (.fz (.str w0)), x9, none, none]) := by
        simp! [h2]
      exact set_ok (call1_ok rfl b rfl rfl e5) rfl
    · refine ⟨s4, x2, w0, hs4, h2, hw0, ?_⟩
      exact if_f (e := [some s4, some (.fz n1), some x2, some (.fz (.str abc)), some (.ol (strD fs)), some (.fz k5), some (.fz (.int (sz : Nat))), some (.fz (.int way)), some (.fz (.str w0)), x9, none, none]) (by simp! [c]) rfl
  obtain ⟨w2, hw2, a4⟩ : ∃ (w2 : Str), NameOk w2 ∧ m_if (m_ite (m1 kbool (m2 (eqD false) (m_var 7) (m_c (.int 1)))) (m1 kbool (ifAny 4 (m_l2 (eqD true) 4 (m_fr (mA lstA m_nil))))) (m_k false)) (m_set (m_up (ifAny 4 (m_ixV 4 (m1 negI (m_c (.int 1)))))) (g_nm 8)) m_next [some s5, some (.fz n1), some y2, some (.fz (.str abc)), some (.ol (strD fs)), some (.fz k5), some (.fz (.int (sz : Nat))), some (.fz (.int way)), some (.fz (.str w1)), x9, none, none]
      = some (.nx [some s5, some (.fz n1), some y2, some (.fz (.str abc)), some (.ol (strD fs)), some (.fz k5), some (.fz (.int (sz : Nat))), some (.fz (.int way)), some (.fz (.str w2)), x9, none, none]) := by
    have eq : eqD true (.lst (strD fs)) (.lst []) = some (.bl (!decide (fs = []))) := by
      have := eqD_strs true (fun y hy => (ho y hy).str) (b := []) (fun _ h => nomatch h)
      rw [Bool.true_xor] at this
      exact this
    by_cases c : way = 1
    · by_cases c2 : fs = []
      · refine ⟨w1, hw1, ?_⟩
        rw [decide_eq_true c2] at eq
        exact if_f (e := [some s5, some (.fz n1), some y2, some (.fz (.str abc)), some (.ol (strD fs)), some (.fz k5), some (.fz (.int (sz : Nat))), some (.fz (.int way)), some (.fz (.str w1)), x9, none, none]) (by simp! [c, lstA_nil, eq]) rfl
      · obtain ⟨w2, hw2, hat⟩ : ∃ w2, w2 ∈ fs ∧ atI (strD fs) (-1) = some (.str w2) := by
          refine ⟨fs.getLast c2, List.getLast_mem c2, ?_⟩
          have := last_l fs.dropLast (fs.getLast c2)
          rw [List.dropLast_concat_getLast] at this
          exact this
        refine ⟨w2, ho w2 hw2, ?_⟩
        rw [decide_eq_false c2] at eq
        refine if_t (e := [some s5, some (.fz n1), some y2, some (.fz (.str abc)), some (.ol (strD fs)), some (.fz k5), some (.fz (.int (sz : Nat))), some (.fz (.int way)), some (.fz (.str w1)), x9, none, none]) (by simp! [c, lstA_nil, eq]) ?_
        simp! [negI, hat]
    · refine ⟨w1, hw1, ?_⟩
      exact if_f (e := [some s5, some (.fz n1), some y2, some (.fz (.str abc)), some (.ol (strD fs)), some (.fz k5), some (.fz (.int (sz : Nat))), some (.fz (.int way)), some (.fz (.str w1)), x9, none, none]) (by simp! [c]) rfl
  obtain ⟨w, y9, hw, hwf, a5⟩ := fresh_ok T (s := s5) (n1 := n1) (k5 := k5) (x2 := some y2) (x6 := some (.fz (.int (sz : Nat)))) (x7 := some (.fz (.int way))) (x9 := x9) (fs := fs) hw2 hl
  refine ⟨s5, w, y2, some (.fz (.int (sz : Nat))), some (.fz (.int way)), some (.fz (.str w2)), y9, hs5, hw, hwf, h2', ?_⟩
  unfold lp_l_crew5
  rw [seq_nx a1, seq_nx a2, seq_nx a3, seq_nx a4]
  exact a5
theorem crew_loop {n1 : D} : ∀ (m a : Nat) (s x2 : X) (fs : List Str) (x5 x6 x7 x8 x9 : Option X), StK s → frz x2 = .lst (strD ownW) → fs.Nodup → (∀ y ∈ fs, NameOk y) → fs.length + m ≤ 14 →
    ∃ (s' : X) (ns : List Str) (y2 : X) (y5 y6 y7 y8 y9 : Option X), StK s' ∧ ns.Nodup ∧ (∀ y ∈ ns, NameOk y) ∧ ns.length = fs.length + m ∧ forL (g_nm 5) (lp_l_crew5 T) (cnt a m) [some s, some (.fz n1), some x2, some (.fz (.str abc)), some (.ol (strD fs)), x5, x6, x7, x8, x9, none, none] = some (.nx [some s', some (.fz n1), some y2, some (.fz (.str abc)), some (.ol (strD ns)), y5, y6, y7, y8, y9, none, none])
  | 0, a, s, x2, fs, x5, x6, x7, x8, x9, hs, h2, hd, ho, _ => ⟨s, fs, x2, x5, x6, x7, x8, x9, hs, hd, ho, rfl, rfl⟩
  | m + 1, a, s, x2, fs, x5, x6, x7, x8, x9, hs, h2, hd, ho, hl => by
    obtain ⟨s1, w, z2, z6, z7, z8, z9, hs1, hw, hwn, h2', e⟩ := crew_turn T (n1 := n1) (k5 := .int ((a : Nat) : Int)) (x6 := x6) (x7 := x7) (x8 := x8) (x9 := x9) hs h2 (fs := fs) (by omega) ho
    obtain ⟨s', ns, y2, y5, y6, y7, y8, y9, h1, h3, h4, h5, h6⟩ := crew_loop m (a + 1) s1 z2 (fs ++ [w]) (some (.fz (.int ((a : Nat) : Int)))) z6 z7 z8 z9 hs1 h2'
      (List.nodup_append.mpr ⟨hd, by simp, fun x hx y hy e => hwn (by rw [← List.mem_singleton.mp hy, ← e]; exact hx)⟩)
      (fun y hy => by
        rcases List.mem_append.mp hy with hy | hy
        · exact ho y hy
        · rw [List.mem_singleton.mp hy]; exact hw) (by rw [List.length_append, List.length_singleton]; omega)
    refine ⟨s', ns, y2, y5, y6, y7, y8, y9, h1, h3, h4, by rw [h5, List.length_append, List.length_singleton]; omega, ?_⟩
    rw [cnt_succ, forL]
    show loopS (lp_l_crew5 T [some s, some (.fz n1), some x2, some (.fz (.str abc)), some (.ol (strD fs)), some (.fz (.int ((a : Nat) : Int))), x6, x7, x8, x9, none, none]) _ = _
    rw [e, loopS_nx]
    exact h6
theorem crew_ok {s : X} {n : Nat} (hs : StK s) (n2 : 2 ≤ n) (n12 : n ≤ 12) : ∃ s' ns, m_l_crew T [s, .fz (.int (n : Nat))] = some (.ok (.ol (strD ns)) [s']) ∧ GoodNs ns ∧ ns.length = n ∧ StK s' := by
  have lo : lstA (strD ownW) = some (.ol (strD ownW)) := if_pos (show 12 ≤ sizeLine by decide)
  obtain ⟨s1, ns, y2, y5, y6, y7, y8, y9, h1, h3, h4, h5, h6⟩ := crew_loop T (n1 := .int ((n : Nat) : Int)) n 0 s (.ol (strD ownW)) [] none none none none none hs rfl List.nodup_nil (fun _ h => nomatch h) (by rw [List.length_nil]; omega)
  rw [List.length_nil, Nat.zero_add] at h5
  obtain ⟨s2, zs, e2, hp, hs2⟩ := mixed_ok T h1 (fun y hy => (h4 y hy).str) (by omega)
  have hzl := hp.length_eq
  refine ⟨s2, zs, ?_, ⟨by omega, by omega, hp.nodup_iff.mpr h3, fun y hy => h4 y (hp.mem_iff.mp hy)⟩, by omega, hs2⟩
  show finF [0] (mb_l_crew T [some s, some (.fz (.int ((n : Nat) : Int))), none, none, none, none, none, none, none, none, none, none]) = _
  unfold mb_l_crew
  have a0 : m_set (mA lstA (m_cons (m_c (.str "ring")) (m_cons (m_c (.str "round")) (m_cons (m_c (.str "watch")) (m_cons (m_c (.str "more")) (m_cons (m_c (.str "go")) (m_cons (m_c (.str "may")) (m_cons (m_c (.str "sure")) (m_cons (m_c (.str "names")) (m_cons (m_c (.str "come")) (m_cons (m_c (.str "none")) (m_cons (m_c (.str "slip")) (m_cons (m_c (.str "then")) m_nil))))))))))))) (g_nm 2) [some s, some (.fz (.int ((n : Nat) : Int))), none, none, none, none, none, none, none, none, none, none]
      = some (.nx [some s, some (.fz (.int ((n : Nat) : Int))), some (.ol (strD ownW)), none, none, none, none, none, none, none, none, none]) := set_ok (mA_ok (ds := strD ownW) rfl lo) rfl
  have a1 : m_parT 3 4 (m_up (m_c (.str "abcdefghijklmnopqrstuvwxyz"))) (mA lstA m_nil) [some s, some (.fz (.int ((n : Nat) : Int))), some (.ol (strD ownW)), none, none, none, none, none, none, none, none, none] = some (.nx [some s, some (.fz (.int ((n : Nat) : Int))), some (.ol (strD ownW)), some (.fz (.str abc)), some (.ol []), none, none, none, none, none, none, none]) := by
    simp! [lstA_nil]
  have b1 : (m_cons (m_var 1) m_nil) [some s, some (.fz (.int ((n : Nat) : Int))), some (.ol (strD ownW)), some (.fz (.str abc)), some (.ol []), none, none, none, none, none, none, none] = some (.ok [.int ((n : Nat) : Int)] [some s, some (.fz (.int ((n : Nat) : Int))), some (.ol (strD ownW)), some (.fz (.str abc)), some (.ol []), none, none, none, none, none, none, none]) := cons_ok (var_ok rfl) nil_ok
  have b2 : (m_cons (m_var 4) m_nil) [some s1, some (.fz (.int ((n : Nat) : Int))), some y2, some (.fz (.str abc)), some (.ol (strD ns)), y5, y6, y7, y8, y9, none, none] = some (.ok [.lst (strD ns)] [some s1, some (.fz (.int ((n : Nat) : Int))), some y2, some (.fz (.str abc)), some (.fz (.lst (strD ns))), y5, y6, y7, y8, y9, none, none]) := by
    simp! []
  rw [seq_nx a0, seq_nx a1, seq_nx (for_ok (mA_ok b1 (krng1_ok (by omega))) h6), ret_ok (call1_ok (n := 2) (i := 0) (x1 := s1) rfl b2 rfl rfl e2)]
  rfl
end
end K31
namespace K31
open PySem PySem.Spec PyProof.Rows L2 GF GD GL
theorem slen (a b : Str) : (a ++ b).length = a.length + b.length := Array.size_append
def kvOf (ns : List Str) (sl : Str → Int) : List (PyData × PyData) := ns.map fun n => (.str n, .int (sl n))
theorem kdP_sl (sl : Str → Int) : ∀ ns : List Str, kdP (slD ns sl) = some (kvOf ns sl)
  | [] => rfl
  | n :: r => by
    show kdP (((Sum.inr n : Key), D.int (sl n)) :: slD r sl) = _
    unfold kdP
    rw [kdP_sl sl r]
    rfl
theorem kv_show {sl : Str → Int} : ∀ ns : List Str, (∀ n ∈ ns, NameOk n) → (∀ n ∈ ns, 0 ≤ sl n ∧ sl n < 1000000) → PyData.showableKv (kvOf ns sl) = true ∧ PyData.depthKv (kvOf ns sl) = 0 ∧ (∀ t ∈ PyData.shownKv (kvOf ns sl), PyData.strOk t = true) ∧ piled (PyData.shownKv (kvOf ns sl)) ≤ 200 * ns.length
  | [], _, _ => ⟨rfl, rfl, fun _ h => (nomatch h), Nat.le_refl _⟩
  | n :: r, hn, hb => by
    obtain ⟨h1, h2, h3, h4⟩ := kv_show (sl := sl) r (fun y hy => hn y (List.mem_cons_of_mem _ hy)) fun y hy => hb y (List.mem_cons_of_mem _ hy)
    obtain ⟨b0, b1⟩ := hb n List.mem_cons_self
    have hk := hn n List.mem_cons_self
    have e : kvOf (n :: r) sl = (.str n, .int (sl n)) :: kvOf r sl := rfl
    have hs : PyData.strOk (PyData.str n).shown = true := GShow.ok_shown (.str n) (by simpa [PyData.canLay0] using hk.str)
    have hi : PyData.strOk (PyData.int (sl n)).shown = true := GShow.ok_shown (.int (sl n)) rfl
    have l1 : (PyData.str n).shown.length ≤ 82 := by
      rw [PyData.shown_str]
      have h8 := hk.len
      have hx : ∀ c ∈ n.cps.toList, c < 16 ^ 8 := fun c hc => Nat.lt_of_le_of_lt (hk.2.2 c hc).2 (by decide)
      have := StrLaws.reprText_len n hx
      omega
    have l2 : (PyData.int (sl n)).shown.length ≤ 7 := by
      rw [PyData.shown_int]
      obtain ⟨k, hk⟩ := Int.eq_ofNat_of_zero_le b0
      rw [hk]
      exact toString_length_le (by omega) (by decide) (by omega)
    refine ⟨?_, ?_, ?_, ?_⟩
    · rw [e, PyData.showableKv, h1]
      have : (sl n).natAbs.log2 < 1920 := by
        have hlt : (sl n).natAbs < 2 ^ 20 := by omega
        by_cases h0 : (sl n).natAbs = 0
        · rw [h0]; decide
        · exact Nat.lt_trans ((Nat.log2_lt h0).mpr hlt) (by decide)
      simp [PyData.showable, this]
    · rw [e, PyData.depthKv, h2]
      rfl
    · intro t ht
      rw [e, PyData.shownKv] at ht
      rcases List.mem_cons.mp ht with rfl | ht
      · rw [GShow.okA, GShow.okA, hs, hi, GShow.okL]
        rfl
      · exact h3 t ht
    · rw [e, PyData.shownKv, piled_cons, slen, slen, List.length_cons]
      have : ((": " : String) : Str).length = 2 := by decide +kernel
      omega
theorem shown_ok {ns : List Str} {sl : Str → Int} (g : GoodNs ns) (hb : ∀ n ∈ ns, 0 ≤ sl n ∧ sl n < 1000000) : ∃ t, reprDG (.dic (slD ns sl)) = some (.str t) ∧ PyData.strOk t = true := by
  obtain ⟨h1, h2, h3, h4⟩ := kv_show (sl := sl) ns g.ok hb
  have l12 := g.twelve
  refine ⟨(PyData.dict (kvOf ns sl)).shown, ?_, ?_⟩
  · unfold reprDG
    simp only [kdP_sl]
    have hne : PyData.shownKv (kvOf ns sl) ≠ [] := by
      cases ns with
      | nil => exact absurd g.two (by decide)
      | cons a b => intro z; cases z
    have hj := join_length_add _ hne
    rw [if_pos ⟨by rw [PyData.showable]; exact h1, by rw [PyData.depth, h2]; decide, by
      rw [PyData.shown_dict, slen, slen]
      have e1 : (("{" : String) : Str).length = 1 := by decide +kernel
      have e2 : (("}" : String) : Str).length = 1 := by decide +kernel
      exact small_sz (by omega)⟩]
  · rw [PyData.shown_dict, GShow.okA, GShow.okA, GShow.okL, GShow.okL, GShow.okJ (GShow.okL _) _ h3]
    rfl
end K31
namespace K31
open PySem PySem.Spec PyProof.Rows L2 GF GD GL
local macro_rules
  | `(tactic| simp! [$ls,*]) => `(tactic| simp only [m_seq, m_set, m_up, m_fr, m1, m2, k2, mA, m_var, m_mv, m_c, m_k, m_ite, kif, m_if, kifS, m_not, m_ret, kret, m_drop, kdrop, m_cons, kc, kc2, m_nil, m_call, kcall, bnd_ok, bnd_ex, bndS_ok, bndS_ex, seqS_nx, seqS_rt, seqS_bk, seqS_ct, seqS_ex, loopS_nx, loopS_rt, loopS_ct, loopS_bk,
  un?, gt, st', kset, g_nm, g_tup, g_cons, g_nil, knot, kdrop, ifAny, ifOl, lkOl, m_r2, m_l2, m_l1, kv1, kv2, kix, m_ixV, m_append, kap, m_sl, ks0, ks1, ks2, m_noPart, kpart, m_on, kon2, isLst, isTup, isStr, m_or, isTupX, m_call1, kcall1, m_callN, kcallN, kcallN1, appD, m_callB, kcallB, m_meth, kmeth, m_make, kmake, m_makeB, kmakeB, m_par, kpar1, kpar2, m_par3, kpar3, m_parT, kparT, m_consX, m_nilX, kXs, kXs2, m_st, kst, m_setF, m_fldV, m_getV, kgetV, m_put, kput, kput2, m_reverse, m_clear, m_for, klist, ktup, kseq_l, kseq_t, m_lc, m_dc, m_while, m_brk, m_cnt, m_next, m_chain, kch0, kch1, kch, GD.intOp, leI, ltI, geI, gtI, addI, subI, modI, kbool, knotD, isiG, lenG, eqD_int, finF, colE, frz, Option.map_some, List.length_cons, List.length_nil, List.map_cons, List.map_nil, Bool.false_xor, Bool.true_xor, Bool.not_true, Bool.not_false, decide_true, decide_false, ite_true, ite_false, reduceIte, if_true, if_false, eq_self, Bool.false_eq_true, true_and, and_true, GD.flat_strs, Option.isNone_none, Nat.reduceAdd, Nat.reduceSub, Nat.reduceMul, Nat.reduceLT, Nat.reduceEqDiff, Int.reduceEq, Int.reduceLT, Int.reduceLE, Int.reduceAdd, Int.reduceSub, Int.reduceNeg, Int.cast_ofNat_Int, Int.natCast_zero, Int.natCast_one, $ls,*])

/-! rounds the same by other slips -/
theorem same_gen {ns : List Str} {sl sl' : Str → Int} {b : Str} (g : GoodNs ns) (hb : b ∈ ns) (h : ∀ p ∈ T1 ns sl b, ((p.2.2 : Nat) : Int) ∣ sl' p.1 - sl p.1) : SameR ns sl' sl b := by
  have s := own_all (sl := sl) g hb
  have hl := (order_perm (sl := sl) hb).length_eq
  have hl' := (order_perm (sl := sl') hb).length_eq
  have fit : Fits sl (T1 ns sl b) := (follows_iff s).mp ⟨List.take_of_length_le (Nat.le_refl _), fun y e => (Option.some.inj e).symm⟩
  have f2 : Fits sl' (T1 ns sl b) := fun p hp => (emod_dvd.mpr (h p hp)).trans (fit p hp)
  obtain ⟨h1, h2⟩ := (follows_iff s).mpr f2
  rw [List.take_of_length_le (by omega)] at h1
  exact ⟨h1, (h2 _ rfl).symm⟩
theorem T1_same {ns : List Str} {sl sl' : Str → Int} {b : Str} (h : SameR ns sl' sl b) : T1 ns sl' b = T1 ns sl b := by
  obtain ⟨h1, h2⟩ := h
  unfold orderOf at h1
  obtain ⟨_, h3⟩ := List.cons.inj h1
  unfold T1
  rw [h3, h2]
theorem need_same {ns : List Str} {sl sl' : Str → Int} (h : ∀ b ∈ ns, SameR ns sl' sl b) : needOf ns sl' = needOf ns sl := by
  have go : ∀ (bs : List Str) (f : Str → Nat), (∀ b ∈ bs, b ∈ ns) → bs.foldl (fun f b => ((T1 ns sl' b).map pr).foldl upd2 f) f = bs.foldl (fun f b => ((T1 ns sl b).map pr).foldl upd2 f) f := by
    intro bs
    induction bs with
    | nil => intro f _; rfl
    | cons b r ih =>
      intro f hb
      rw [List.foldl_cons, List.foldl_cons, T1_same (h b (hb b List.mem_cons_self)), ih _ fun y hy => hb y (List.mem_cons_of_mem _ hy)]
  exact go ns _ fun _ h => h
/-- the least slips that do alike -/
def loOf (ns : List Str) (sl : Str → Int) : Str → Int := fun n => sl n % ((needOf ns sl n : Nat) : Int)
theorem lo_same {ns : List Str} {sl : Str → Int} (g : GoodNs ns) : ∀ b ∈ ns, SameR ns (loOf ns sl) sl b := fun b hb => by
  refine same_gen g hb fun p hp => ?_
  have h1 : ((needOf ns sl p.1 : Nat) : Int) ∣ loOf ns sl p.1 - sl p.1 := by
    have e := Int.mul_ediv_add_emod (sl p.1) ((needOf ns sl p.1 : Nat) : Int)
    refine ⟨-(sl p.1 / ((needOf ns sl p.1 : Nat) : Int)), ?_⟩
    show sl p.1 % ((needOf ns sl p.1 : Nat) : Int) - sl p.1 = _
    rw [Int.mul_neg]
    omega
  have h2 : p.2.2 ∣ needOf ns sl p.1 := need_dvd.mp (Nat.dvd_refl _) b hb p hp rfl
  exact Int.dvd_trans (Int.natCast_dvd_natCast.mpr h2) h1
theorem lo_need {ns : List Str} {sl : Str → Int} (g : GoodNs ns) : needOf ns (loOf ns sl) = needOf ns sl := need_same (lo_same g)
theorem lo_lt {ns : List Str} {sl : Str → Int} (g : GoodNs ns) (n : Str) : 0 ≤ loOf ns sl n ∧ loOf ns sl n < ((needOf ns sl n : Nat) : Int) := by
  have h := (need_fine (sl := sl) g n).1
  exact ⟨Int.emod_nonneg _ (by omega), Int.emod_lt_of_pos _ (by omega)⟩
theorem lo_idem {ns : List Str} {sl : Str → Int} (g : GoodNs ns) : loOf ns (loOf ns sl) = loOf ns sl := by
  funext n
  obtain ⟨h0, h1⟩ := lo_lt (sl := sl) g n
  show loOf ns sl n % ((needOf ns (loOf ns sl) n : Nat) : Int) = _
  rw [lo_need g]
  exact Int.emod_eq_of_lt h0 h1
theorem off_upd {sl : Str → Int} {x : Str} {z : Int} : ∀ y, y ≠ x → (fun y => if y = x then z else sl y) y = sl y := fun y h => if_neg h
theorem asked2 {ns : List Str} {sl : Str → Int} {x : Str} {z : Int} (n : Bool) (g : GoodNs ns) : eqD n (.lst (ns.map (roundD ns fun y => if y = x then z else sl y))) (.lst (ns.map (roundD ns sl))) = some (.bl (xor n (decide (((needOf ns sl x : Nat) : Int) ∣ z - sl x)))) := by
  rw [eqD_rounds n g]
  congr 3
  have h := all_same (sl := sl) (sl' := fun y => if y = x then z else sl y) (x := x) g off_upd
  have e : (fun y => if y = x then z else sl y) x - sl x = z - sl x := by
    show (if x = x then z else sl x) - sl x = z - sl x
    rw [if_pos rfl]
  rw [e] at h
  exact decide_eq_decide.mpr h
/-! ### dicts alike -/
def kpOf (ns : List Str) (sl : Str → Int) : List (Key × PyData) := ns.map fun n => ((Sum.inr n : Key), .int (sl n))
theorem kpD_sl (sl : Str → Int) : ∀ ns : List Str, kpD (slD ns sl) = some (kpOf ns sl)
  | [] => rfl
  | n :: r => by
    show kpD (((Sum.inr n : Key), D.int (sl n)) :: slD r sl) = _
    unfold kpD
    rw [kpD_sl sl r]
    rfl
theorem look_sl {sl : Str → Int} {n : Str} : ∀ {ns : List Str}, n ∈ ns → GL.lookP (kpOf ns sl) (Sum.inr n) = some (.int (sl n))
  | [], h => nomatch h
  | m :: r, h => by
    show GL.lookP (((Sum.inr m : Key), PyData.int (sl m)) :: kpOf r sl) (Sum.inr n) = _
    unfold GL.lookP
    rw [List.find?_cons]
    by_cases e : m = n
    · subst e
      simp
    · have : decide ((Sum.inr m : Key) = Sum.inr n) = false := decide_eq_false fun z => e (Sum.inr.inj z)
      rw [this]
      exact look_sl ((List.mem_cons.mp h).resolve_left fun z => e z.symm)
theorem hits_sl {sl : Str → Int} {ns : List Str} : ∀ ms : List Str, (∀ n ∈ ms, n ∈ ns) → GL.hitsP (kpOf ns sl) (kpOf ms sl) = true
  | [], _ => rfl
  | m :: r, h => by
    show GL.hitsP (kpOf ns sl) (((Sum.inr m : Key), PyData.int (sl m)) :: kpOf r sl) = true
    unfold GL.hitsP
    simp only
    rw [look_sl (h m List.mem_cons_self)]
    simp only
    rw [hits_sl r fun y hy => h y (List.mem_cons_of_mem _ hy), PyData.eqv]
    simp
theorem eqK_same (n : Bool) (ns : List Str) (sl : Str → Int) : eqKD n (.dic (slD ns sl)) (.dic (slD ns sl)) = some (.bl (!n)) := by
  unfold eqKD
  simp only [kpD_sl]
  unfold GL.eqKv
  rw [hits_sl ns fun _ h => h]
  simp
theorem eqD_same (n : Bool) {ns : List Str} (g : GoodNs ns) : eqD n (.lst (strD ns)) (.lst (strD ns)) = some (.bl (!n)) := by
  rw [eqD_strs n g.str g.str]
  simp
theorem eqD_str (n : Bool) {a : Str} (ha : PyData.strOk a = true) : eqD n (.str a) (.str a) = some (.bl (!n)) := by
  have hsh : SeqAt.shaped (.str a) = true := by
    unfold SeqAt.shaped PyData.canLay0
    simp [ha, PyData.depth]
  unfold eqD
  simp only [toP]
  rw [if_pos ⟨hsh, hsh⟩, PyData.eqv]
  simp
section
variable {K : PySem.W.Frag} {mg : Str → Option Value} (T : Tx K mg)
variable {ns : List Str} {sl : Str → Int} {kds : List (Key × D)}
theorem slips_ok : m_Ring_slips T [.fz (ringD T.a_Ring ns kds)] = some (.ok (.od kds) []) := by
  show finF [] (mb_Ring_slips T [some (.fz (ringD T.a_Ring ns kds))]) = _
  unfold mb_Ring_slips
  simp! [fld_slips, dictDG]
theorem isi_ring : isiC T.a_Ring (ringD T.a_Ring ns kds) = some (.bl true) := if_pos rfl
theorem eq_ok (g : GoodNs ns) : m_Ring_eq T [.fz (ringD T.a_Ring ns (slD ns sl)), .fz (ringD T.a_Ring ns (slD ns sl))] = some (.ok (.fz (.bl true)) []) := by
  show finF [] (mb_Ring_eq T [some (.fz (ringD T.a_Ring ns (slD ns sl))), some (.fz (ringD T.a_Ring ns (slD ns sl)))]) = _
  unfold mb_Ring_eq
  simp! [isi_ring, fld_names, fld_slips, eqD_same false g, eqK_same]
theorem dc_run {mg : X → En → Option En} {mk mv : OM D} {vs : List Nat} (I : En → Prop) (q : Str → D) (f : Str → D) : ∀ (ns : List Str) (acc : List (Key × D)) (e : En), I e → (∀ n ∈ ns, ∀ e, I e → ∃ e1, dcT mg (m_k true) mk mv (q n) e = some (some ((Sum.inr n : Key), f n), e1) ∧ I (wpE e1 vs)) → ns.Nodup → (∀ n ∈ ns, (Sum.inr n : Key) ∉ acc.map (·.1)) → acc.length + ns.length ≤ 1000 →
    ∃ e', dcL mg (m_k true) mk mv vs (ns.map q) acc e = some (.ok (.od (acc ++ ns.map fun n => ((Sum.inr n : Key), f n))) e') ∧ I e'
  | [], acc, e, hi, _, _, _, _ => ⟨e, by rw [List.map_nil, dcL, List.map_nil, List.append_nil], hi⟩
  | n :: r, acc, e, hi, h, hd, hk, hl => by
    obtain ⟨e1, h1, h2⟩ := h n List.mem_cons_self e hi
    obtain ⟨d1, d2⟩ := List.nodup_cons.mp hd
    rw [List.length_cons] at hl
    obtain ⟨e', k1, k2⟩ := dc_run I q f r (acc ++ [((Sum.inr n : Key), f n)]) (wpE e1 vs) h2 (fun y hy => h y (List.mem_cons_of_mem _ hy)) d2 (fun y hy z => by
      rw [List.map_append] at z
      rcases List.mem_append.mp z with z | z
      · exact hk y (List.mem_cons_of_mem _ hy) z
      · have := List.mem_singleton.mp z
        rw [Sum.inr.injEq] at this
        rw [this] at hy
        exact d1 hy) (by rw [List.length_append, List.length_singleton]; omega)
    refine ⟨e', ?_, k2⟩
    rw [List.map_cons, dcL, h1]
    show (if acc.length < sizeLine then dcL mg (m_k true) mk mv vs (r.map q) (putG acc (Sum.inr n) (f n)) (wpE e1 vs) else none) = _
    rw [if_pos (small_lt (by omega)), putG_new (hk n List.mem_cons_self), k1, List.append_assoc]
    rfl
theorem items_sl (f : Str → Nat) : ∀ ns : List Str, (((slN ns f).map fun p => keyD p.1).zip ((slN ns f).map (·.2))).map (fun p => D.tuw [p.1, p.2]) = ns.map fun n => D.tuw [.str n, .int (f n : Nat)]
  | [] => rfl
  | n :: r => by
    have := items_sl f r
    unfold slN slD at this ⊢
    rw [List.map_cons, List.map_cons, List.map_cons, List.zip_cons_cons, List.map_cons, List.map_cons, this]
    rfl
theorem mod_ok {a : Int} {b : Nat} (h : 0 < b) : modI (.int a) (.int (b : Nat)) = some (.int (a % ((b : Nat) : Int))) := by
  unfold modI GD.intOp
  simp only
  rw [if_pos (by omega)]
abbrev ringO (T : Tx K mg) (ns : List Str) (sl : Str → Int) : X := .oi T.a_Ring [("_names", .ol (strD ns)), ("_slips", .od (slD ns sl))]
theorem least_ok (g : GoodNs ns) : m_least_of T [.fz (ringD T.a_Ring ns (slD ns sl))] = some (.ok (ringO T ns (loOf ns sl)) []) := by
  show finF [] (mb_least_of T [some (.fz (ringD T.a_Ring ns (slD ns sl))), none, none, none]) = _
  unfold mb_least_of
  have l12 := g.twelve
  have nl1 := nolk (ns := ns) (kds := slD ns sl) (show (("slips" : Str) == ("_names" : Str)) = false by decide +kernel) (by decide +kernel)
  have nl3 := nolk (ns := ns) (kds := slD ns sl) (show (("names" : Str) == ("_names" : Str)) = false by decide +kernel) (by decide +kernel)
  have a1 : m_set (m_meth T.a_Ring "slips" 1 (m_Ring_slips T) (m_var 0) m_nil) (g_nm 1) [some (.fz (ringD T.a_Ring ns (slD ns sl))), none, none, none] = some (.nx [some (.fz (ringD T.a_Ring ns (slD ns sl))), some (.od (slD ns sl)), none, none]) := by
    simp! [nl1, slips_ok]
  have b1 : m_fr (m_meth T.a_Ring "names" 1 (m_Ring_names T) (m_var 0) m_nil) [some (.fz (ringD T.a_Ring ns (slD ns sl))), some (.od (slD ns sl)), none, none] = some (.ok (.lst (strD ns)) [some (.fz (ringD T.a_Ring ns (slD ns sl))), some (.od (slD ns sl)), none, none]) := by
    simp! [nl3, K31.names_ok T]
  have hn := needs_ok T (kds := slD ns sl) (sl := sl) g slD_ok
  have hf := need_fine (sl := sl) g
  have b2 : m_items (m_call 1 (m_needs T) (m_cons (m_var 0) m_nil)) [some (.fz (ringD T.a_Ring ns (slD ns sl))), some (.od (slD ns sl)), none, none] = some (.ok (ns.map fun n => D.tuw [.str n, .int (needOf ns sl n : Nat)]) [some (.fz (ringD T.a_Ring ns (slD ns sl))), some (.od (slD ns sl)), none, none]) := by
    unfold m_items
    rw [call_ok (n := 1) (cons_ok (var_ok (i := 0) rfl) nil_ok) rfl hn, bnd_ok]
    unfold kitems
    simp only
    rw [items_sl]
  obtain ⟨e', el, he⟩ := dc_run (mg := g_tup 2 (g_cons (g_nm 2) (g_cons (g_nm 3) g_nil))) (mk := el_least_of1 T) (mv := el_least_of2 T) (vs := [2, 3]) (fun e => ∃ x1 : X, frz x1 = .dic (slD ns sl) ∧ e = [some (.fz (ringD T.a_Ring ns (slD ns sl))), some x1, none, none]) (fun n => D.tuw [.str n, .int (needOf ns sl n : Nat)]) (fun n => .int (loOf ns sl n)) ns [] [some (.fz (ringD T.a_Ring ns (slD ns sl))), some (.od (slD ns sl)), none, none] ⟨_, rfl, rfl⟩ (fun n hn' e ⟨x1, hx1, he⟩ => by
    subst he
    refine ⟨[some (.fz (ringD T.a_Ring ns (slD ns sl))), some (.fz (.dic (slD ns sl))), some (.fz (.str n)), some (.fz (.int (needOf ns sl n : Nat)))], ?_, _, rfl, rfl⟩
    have hm := mod_ok (a := sl n) (hf n).1
    have c2 : el_least_of2 T [some (.fz (ringD T.a_Ring ns (slD ns sl))), some x1, some (.fz (.str n)), some (.fz (.int (needOf ns sl n : Nat)))] = some (.ok (.int (loOf ns sl n)) [some (.fz (ringD T.a_Ring ns (slD ns sl))), some (.fz (.dic (slD ns sl))), some (.fz (.str n)), some (.fz (.int (needOf ns sl n : Nat)))]) := by
      unfold el_least_of2
      refine m2_ok (a := .int (sl n)) (b := .int (needOf ns sl n : Nat)) (e := [some (.fz (ringD T.a_Ring ns (slD ns sl))), some (.fz (.dic (slD ns sl))), some (.fz (.str n)), some (.fz (.int (needOf ns sl n : Nat)))]) ?_ (var_ok rfl) hm
      simp! [hx1, getG_ok slD_ok hn']
    unfold dcT el_least_of1
    simp! [c2, toK]) g.nd (fun _ _ z => nomatch z) (by rw [List.length_nil]; omega)
  obtain ⟨x1, hx1, rfl⟩ := he
  rw [List.nil_append] at el
  have b3 : m_dc (m_items (m_call 1 (m_needs T) (m_cons (m_var 0) m_nil))) (g_tup 2 (g_cons (g_nm 2) (g_cons (g_nm 3) g_nil))) (m_k true) (el_least_of1 T) (el_least_of2 T) [2, 3] [some (.fz (ringD T.a_Ring ns (slD ns sl))), some (.od (slD ns sl)), none, none] = some (.ok (.od (slD ns (loOf ns sl))) [some (.fz (ringD T.a_Ring ns (slD ns sl))), some x1, none, none]) := by
    unfold m_dc
    rw [b2, bnd_ok]
    exact el
  have b4 : m_make T.a_Ring 3 (m_Ring_init T) (m_cons (m_fr (m_meth T.a_Ring "names" 1 (m_Ring_names T) (m_var 0) m_nil)) (m_cons (m_fr (m_dc (m_items (m_call 1 (m_needs T) (m_cons (m_var 0) m_nil))) (g_tup 2 (g_cons (g_nm 2) (g_cons (g_nm 3) g_nil))) (m_k true) (el_least_of1 T) (el_least_of2 T) [2, 3])) m_nil)) [some (.fz (ringD T.a_Ring ns (slD ns sl))), some (.od (slD ns sl)), none, none]
      = some (.ok (ringO T ns (loOf ns sl)) [some (.fz (ringD T.a_Ring ns (slD ns sl))), some x1, none, none]) := by
    unfold m_make
    rw [cons_ok b1 (cons_ok (fr_ok b3) nil_ok), bnd_ok]
    unfold kmake
    show (if 2 + 1 = 3 then (match m_Ring_init T [.oi T.a_Ring [], .fz (.lst (strD ns)), .fz (.dic (slD ns (loOf ns sl)))] with | some (.ok (.fz .non) [y]) => _ | some (.ex x [_]) => _ | _ => _) else _) = _
    rw [if_pos rfl, init_ok T g slD_ok]
  rw [seq_nx a1, ret_ok b4]
  rfl
end
end K31
namespace K31
open PySem PySem.Spec PyProof.Rows L2 GF GD GL
local macro_rules
  | `(tactic| simp! [$ls,*]) => `(tactic| simp only [m_seq, m_set, m_up, m_fr, m1, m2, k2, mA, m_var, m_mv, m_c, m_k, m_ite, kif, m_if, kifS, m_not, m_ret, kret, m_drop, kdrop, m_cons, kc, kc2, m_nil, m_call, kcall, bnd_ok, bnd_ex, bndS_ok, bndS_ex, seqS_nx, seqS_rt, seqS_bk, seqS_ct, seqS_ex, loopS_nx, loopS_rt, loopS_ct, loopS_bk,
  un?, gt, st', kset, g_nm, g_tup, g_cons, g_nil, knot, kdrop, ifAny, ifOl, lkOl, m_r2, m_l2, m_l1, kv1, kv2, kix, m_ixV, m_append, kap, m_sl, ks0, ks1, ks2, m_noPart, kpart, m_on, kon2, isLst, isTup, isStr, m_or, isTupX, m_call1, kcall1, m_callN, kcallN, kcallN1, appD, m_callB, kcallB, m_meth, kmeth, m_make, kmake, m_makeB, kmakeB, m_par, kpar1, kpar2, m_par3, kpar3, m_parT, kparT, m_consX, m_nilX, kXs, kXs2, m_st, kst, m_setF, m_fldV, m_getV, kgetV, m_put, kput, kput2, m_reverse, m_clear, m_for, klist, ktup, kseq_l, kseq_t, m_lc, m_dc, m_while, m_brk, m_cnt, m_next, m_chain, kch0, kch1, kch, GD.intOp, leI, ltI, geI, gtI, addI, subI, modI, kbool, knotD, isiG, lenG, eqD_int, finF, colE, frz, Option.map_some, List.length_cons, List.length_nil, List.map_cons, List.map_nil, Bool.false_xor, Bool.true_xor, Bool.not_true, Bool.not_false, decide_true, decide_false, ite_true, ite_false, reduceIte, if_true, if_false, eq_self, Bool.false_eq_true, true_and, and_true, GD.flat_strs, Option.isNone_none, Nat.reduceAdd, Nat.reduceSub, Nat.reduceMul, Nat.reduceLT, Nat.reduceEqDiff, Int.reduceEq, Int.reduceLT, Int.reduceLE, Int.reduceAdd, Int.reduceSub, Int.reduceNeg, Int.cast_ofNat_Int, Int.natCast_zero, Int.natCast_one, $ls,*])

section
variable {K : PySem.W.Frag} {mg : Str → Option Value} (T : Tx K mg)
variable {ns : List Str} {lo : Str → Int}
theorem less_loop {a0 : Option X} {x : Str} {a5 : Option X} (g : GoodNs ns) (hx : x ∈ ns) (hlo : lo x < ((needOf ns lo x : Nat) : Int)) : ∀ (zs : List Int) (x6 : Option X), (∀ z ∈ zs, 0 ≤ z ∧ z < lo x) →
    ∃ y6, forL (g_nm 6) (lp_l_none_less1 T) (zs.map D.int) [a0, some (.fz (.lst (strD ns))), some (.fz (.dic (slD ns lo))), some (.fz (.lst (ns.map (roundD ns lo)))), some (.fz (.str x)), a5, x6] = some (.nx [a0, some (.fz (.lst (strD ns))), some (.fz (.dic (slD ns lo))), some (.fz (.lst (ns.map (roundD ns lo)))), some (.fz (.str x)), a5, y6])
  | [], x6, _ => ⟨x6, rfl⟩
  | z :: r, x6, hz => by
    obtain ⟨z0, z1⟩ := hz z List.mem_cons_self
    have l12 := g.twelve
    obtain ⟨y6, ih⟩ := less_loop (a0 := a0) (a5 := a5) g hx hlo r (some (.fz (.int z))) fun q hq => hz q (List.mem_cons_of_mem _ hq)
    have c1 := call_ok (n := 3) (f := m_l_with T) (ê := [a0, some (.fz (.lst (strD ns))), some (.fz (.dic (slD ns lo))), some (.fz (.lst (ns.map (roundD ns lo)))), some (.fz (.str x)), a5, some (.fz (.int z))]) (cons_ok (var_ok (i := 2) rfl) (cons_ok (var_ok (i := 4) rfl) (cons_ok (var_ok (i := 6) rfl) nil_ok))) rfl (with_ok T (sl := lo) hx (by omega))
    have hnd : ¬ ((needOf ns lo x : Nat) : Int) ∣ z - lo x := fun h => by
      have h2 : ((needOf ns lo x : Nat) : Int) ∣ lo x - z := by
        have := Int.dvd_neg.mpr h
        rw [Int.neg_sub] at this
        exact this
      have := Int.le_of_dvd (by omega) h2
      omega
    have e1 := asked2 (sl := lo) (x := x) (z := z) false g
    rw [decide_eq_false hnd] at e1
    have c4 := m1_ok (g := kbool) (m2_ok (mb := m_var 3) (g := eqD false) (fr_ok (call_ok (n := 2) (f := m_l_all_rounds T) (cons_ok (var_ok (i := 1) rfl) (cons_ok (fr_ok c1) nil_ok)) rfl (rounds_ok T g slD_ok))) (var_ok rfl) e1) rfl
    have body : lp_l_none_less1 T [a0, some (.fz (.lst (strD ns))), some (.fz (.dic (slD ns lo))), some (.fz (.lst (ns.map (roundD ns lo)))), some (.fz (.str x)), a5, some (.fz (.int z))] = some (.nx [a0, some (.fz (.lst (strD ns))), some (.fz (.dic (slD ns lo))), some (.fz (.lst (ns.map (roundD ns lo)))), some (.fz (.str x)), a5, some (.fz (.int z))]) := if_f c4 rfl
    refine ⟨y6, ?_⟩
    rw [List.map_cons, forL]
    show loopS (lp_l_none_less1 T [a0, some (.fz (.lst (strD ns))), some (.fz (.dic (slD ns lo))), some (.fz (.lst (ns.map (roundD ns lo)))), some (.fz (.str x)), a5, some (.fz (.int z))]) _ = _
    rw [body, loopS_nx]
    exact ih
theorem rg_ints (n : Nat) : (List.range n).map (fun (i : Nat) => D.int (i : Int)) = ((List.range n).map fun (i : Nat) => (i : Int)).map D.int := by
  rw [List.map_map]
  rfl
theorem less_turn {s : X} {x : Str} {x5 x6 : Option X} (hs : StK s) (g : GoodNs ns) (hx : x ∈ ns) (h0 : 0 ≤ lo x) (hlo : lo x < ((needOf ns lo x : Nat) : Int)) : ∃ s' y5 y6, StK s' ∧
    lp_l_none_less2 T [some s, some (.fz (.lst (strD ns))), some (.fz (.dic (slD ns lo))), some (.fz (.lst (ns.map (roundD ns lo)))), some (.fz (.str x)), x5, x6] = some (.nx [some s', some (.fz (.lst (strD ns))), some (.fz (.dic (slD ns lo))), some (.fz (.lst (ns.map (roundD ns lo)))), some (.fz (.str x)), y5, y6]) := by
  have hN := (need_fine (sl := lo) g).le x
  obtain ⟨k, hk⟩ := Int.eq_ofNat_of_zero_le h0
  have hk : lo x = ((k : Nat) : Int) := hk
  have hget : ∀ e : En, gt e 2 = some (.fz (.dic (slD ns lo))) → gt e 4 = some (.fz (.str x)) → (m2 getG (m_var 2) (m_var 4)) e = some (.ok (.int ((k : Nat) : Int)) e) := fun e h1 h2 => m2_ok (var_ok h1) (var_ok h2) (by rw [getG_ok slD_ok hx, hk])
  have hmin : arg2 min2 [.int ((k : Nat) : Int), .int 6] = some (.int ((min k 6 : Nat) : Int)) := by
    unfold arg2 min2 GD.intOp
    simp only
    congr 2
    split <;> omega
  have hrg : rgG (.int ((min k 6 : Nat) : Int)) = some (.ol (((List.range (min k 6)).map fun (i : Nat) => (i : Int)).map D.int)) := by
    unfold rgG
    simp only
    rw [if_pos ⟨by omega, by omega⟩, Int.toNat_natCast, rg_ints]
  have a1 := set_ok (g := g_nm 5) (m1_ok (g := rgG) (mA_ok (g := arg2 min2) (cons_ok (hget [some s, some (.fz (.lst (strD ns))), some (.fz (.dic (slD ns lo))), some (.fz (.lst (ns.map (roundD ns lo)))), some (.fz (.str x)), x5, x6] rfl rfl) (cons_ok (a := m_c (.int 6)) (d := .int 6) rfl nil_ok)) hmin) hrg) rfl
  obtain ⟨s2, y5, zs, hs2, hy5, hzs, a2⟩ : ∃ (s2 y5 : X) (zs : List Int), StK s2 ∧ frz y5 = .lst (zs.map D.int) ∧ (∀ z ∈ zs, 0 ≤ z ∧ z < lo x) ∧ m_if (m1 kbool (m2 gtI (m2 getG (m_var 2) (m_var 4)) (m_c (.int 0))))
      (m_set (m2 catL (m_var 5) (m_fr (mA lstA (m_cons (m2 subI (m2 getG (m_var 2) (m_var 4)) (m_c (.int 1))) (m_cons (m_fr (m_call1 2 (m_l_draw T) 0 (m_cons (m2 getG (m_var 2) (m_var 4)) m_nil))) (m_cons (m2 divI (m2 getG (m_var 2) (m_var 4)) (m_c (.int 2))) m_nil)))))) (g_nm 5))
      m_next [some s, some (.fz (.lst (strD ns))), some (.fz (.dic (slD ns lo))), some (.fz (.lst (ns.map (roundD ns lo)))), some (.fz (.str x)), some (.ol (((List.range (min k 6)).map fun (i : Nat) => (i : Int)).map D.int)), x6]
      = some (.nx [some s2, some (.fz (.lst (strD ns))), some (.fz (.dic (slD ns lo))), some (.fz (.lst (ns.map (roundD ns lo)))), some (.fz (.str x)), some y5, x6]) := by
    have hr : ∀ z ∈ (List.range (min k 6)).map (fun (i : Nat) => (i : Int)), 0 ≤ z ∧ z < lo x := fun z hz => by
      obtain ⟨i, hi, rfl⟩ := List.mem_map.mp hz
      have := List.mem_range.mp hi
      omega
    by_cases c : 0 < k
    · obtain ⟨d, s2, e2, d0, d1, hs2⟩ := draw_ok T (n := ((k : Nat) : Int)) hs (by omega) (small_B4 (by omega))
      have hdv : divI (.int ((k : Nat) : Int)) (.int 2) = some (.int (((k : Nat) : Int) / 2)) := by
        unfold divI GD.intOp
        simp only
        rw [if_pos ⟨by decide, lt_B4 (by decide)⟩]
      have l3 : lstA [.int (((k : Nat) : Int) - 1), .int d, .int (((k : Nat) : Int) / 2)] = some (.ol [.int (((k : Nat) : Int) - 1), .int d, .int (((k : Nat) : Int) / 2)]) := if_pos (show 3 ≤ sizeLine by decide)
      have hcat : catL (.lst (((List.range (min k 6)).map fun (i : Nat) => (i : Int)).map D.int)) (.lst [.int (((k : Nat) : Int) - 1), .int d, .int (((k : Nat) : Int) / 2)]) = some (.ol (((List.range (min k 6)).map (fun (i : Nat) => (i : Int)) ++ [((k : Nat) : Int) - 1, d, ((k : Nat) : Int) / 2]).map D.int)) := by
        unfold catL
        simp only
        rw [if_pos (by rw [List.length_map, List.length_map, List.length_range]; exact small_sz (by show min k 6 + 3 ≤ _; omega)), List.map_append]
        rfl
      refine ⟨s2, .ol (((List.range (min k 6)).map (fun (i : Nat) => (i : Int)) ++ [((k : Nat) : Int) - 1, d, ((k : Nat) : Int) / 2]).map D.int), (List.range (min k 6)).map (fun (i : Nat) => (i : Int)) ++ [((k : Nat) : Int) - 1, d, ((k : Nat) : Int) / 2], hs2, rfl, fun z hz => ?_, ?_⟩
      · rcases List.mem_append.mp hz with h | h
        · exact hr z h
        · simp at h
          omega
      · have c1 := m1_ok (g := kbool) (m2_ok (mb := m_c (.int 0)) (b := .int 0) (g := gtI) (hget [some s, some (.fz (.lst (strD ns))), some (.fz (.dic (slD ns lo))), some (.fz (.lst (ns.map (roundD ns lo)))), some (.fz (.str x)), some (.ol (((List.range (min k 6)).map fun (i : Nat) => (i : Int)).map D.int)), x6] rfl rfl) rfl (c := .bl true) (by unfold gtI GD.intOp; simp only; rw [decide_eq_true (by omega)])) rfl
        refine if_t c1 ?_
        have v5 : m_var 5 [some s, some (.fz (.lst (strD ns))), some (.fz (.dic (slD ns lo))), some (.fz (.lst (ns.map (roundD ns lo)))), some (.fz (.str x)), some (.ol (((List.range (min k 6)).map fun (i : Nat) => (i : Int)).map D.int)), x6] = some (.ok (.lst (((List.range (min k 6)).map fun (i : Nat) => (i : Int)).map D.int)) [some s, some (.fz (.lst (strD ns))), some (.fz (.dic (slD ns lo))), some (.fz (.lst (ns.map (roundD ns lo)))), some (.fz (.str x)), some (.fz (.lst (((List.range (min k 6)).map fun (i : Nat) => (i : Int)).map D.int))), x6]) := by
          simp! []
        have g1 := hget [some s, some (.fz (.lst (strD ns))), some (.fz (.dic (slD ns lo))), some (.fz (.lst (ns.map (roundD ns lo)))), some (.fz (.str x)), some (.fz (.lst (((List.range (min k 6)).map fun (i : Nat) => (i : Int)).map D.int))), x6] rfl rfl
        have g2 := hget [some s2, some (.fz (.lst (strD ns))), some (.fz (.dic (slD ns lo))), some (.fz (.lst (ns.map (roundD ns lo)))), some (.fz (.str x)), some (.fz (.lst (((List.range (min k 6)).map fun (i : Nat) => (i : Int)).map D.int))), x6] rfl rfl
        have d1' := m2_ok (mb := m_c (.int 1)) (b := .int 1) (g := subI) g1 rfl (c := .int (((k : Nat) : Int) - 1)) rfl
        have d2' := fr_fz (call1_ok (n := 2) (i := 0) (f := m_l_draw T) (x1 := s) rfl (cons_ok g1 nil_ok) rfl rfl e2)
        have d3' := m2_ok (mb := m_c (.int 2)) (b := .int 2) (g := divI) g2 rfl hdv
        exact set_ok (m2_ok v5 (fr_ok (mA_ok (cons_ok d1' (cons_ok d2' (cons_ok d3' nil_ok))) l3)) hcat) rfl
    · refine ⟨s, .ol (((List.range (min k 6)).map fun (i : Nat) => (i : Int)).map D.int), _, hs, rfl, hr, ?_⟩
      have c1 := m1_ok (g := kbool) (m2_ok (mb := m_c (.int 0)) (b := .int 0) (g := gtI) (hget [some s, some (.fz (.lst (strD ns))), some (.fz (.dic (slD ns lo))), some (.fz (.lst (ns.map (roundD ns lo)))), some (.fz (.str x)), some (.ol (((List.range (min k 6)).map fun (i : Nat) => (i : Int)).map D.int)), x6] rfl rfl) rfl (c := .bl false) (by unfold gtI GD.intOp; simp only; rw [decide_eq_false (by omega)])) rfl
      exact if_f c1 rfl
  obtain ⟨y6, e3⟩ := less_loop T (a0 := some s2) (a5 := some (.fz (.lst (zs.map D.int)))) g hx hlo zs x6 hzs
  have b3 : (m1 klist (m_var 5)) [some s2, some (.fz (.lst (strD ns))), some (.fz (.dic (slD ns lo))), some (.fz (.lst (ns.map (roundD ns lo)))), some (.fz (.str x)), some y5, x6] = some (.ok (zs.map D.int) [some s2, some (.fz (.lst (strD ns))), some (.fz (.dic (slD ns lo))), some (.fz (.lst (ns.map (roundD ns lo)))), some (.fz (.str x)), some (.fz (.lst (zs.map D.int))), x6]) := by
    refine m1_ok (a := .lst (zs.map D.int)) ?_ rfl
    unfold m_var
    show some (Rs.ok (frz y5) [some s2, some (.fz (.lst (strD ns))), some (.fz (.dic (slD ns lo))), some (.fz (.lst (ns.map (roundD ns lo)))), some (.fz (.str x)), some (.fz (frz y5)), x6]) = _
    rw [hy5]
  refine ⟨s2, some (.fz (.lst (zs.map D.int))), y6, hs2, ?_⟩
  unfold lp_l_none_less2
  exact (seq_nx a1).trans ((seq_nx a2).trans (for_ok b3 e3))
theorem less_outer (g : GoodNs ns) (h0 : ∀ x, 0 ≤ lo x) (hlo : ∀ x, lo x < ((needOf ns lo x : Nat) : Int)) : ∀ (xs : List Str) (s : X) (x4 x5 x6 : Option X), StK s → (∀ x ∈ xs, x ∈ ns) → ∃ s' y4 y5 y6, StK s' ∧
    forL (g_nm 4) (lp_l_none_less2 T) (strD xs) [some s, some (.fz (.lst (strD ns))), some (.fz (.dic (slD ns lo))), some (.fz (.lst (ns.map (roundD ns lo)))), x4, x5, x6] = some (.nx [some s', some (.fz (.lst (strD ns))), some (.fz (.dic (slD ns lo))), some (.fz (.lst (ns.map (roundD ns lo)))), y4, y5, y6])
  | [], s, x4, x5, x6, hs, _ => ⟨s, x4, x5, x6, hs, rfl⟩
  | x :: r, s, x4, x5, x6, hs, hx => by
    obtain ⟨s1, z5, z6, hs1, e⟩ := less_turn T (x5 := x5) (x6 := x6) hs g (hx x List.mem_cons_self) (h0 x) (hlo x)
    obtain ⟨s', y4, y5, y6, hs', ih⟩ := less_outer g h0 hlo r s1 (some (.fz (.str x))) z5 z6 hs1 fun y hy => hx y (List.mem_cons_of_mem _ hy)
    refine ⟨s', y4, y5, y6, hs', ?_⟩
    rw [strD, List.map_cons, forL]
    show loopS (lp_l_none_less2 T [some s, some (.fz (.lst (strD ns))), some (.fz (.dic (slD ns lo))), some (.fz (.lst (ns.map (roundD ns lo)))), some (.fz (.str x)), x5, x6]) _ = _
    rw [e, loopS_nx]
    exact ih
theorem none_less_ok {s : X} (hs : StK s) (g : GoodNs ns) (h0 : ∀ x, 0 ≤ lo x) (hlo : ∀ x, lo x < ((needOf ns lo x : Nat) : Int)) : ∃ s', m_l_none_less T [s, .fz (.lst (strD ns)), .fz (.dic (slD ns lo)), .fz (.lst (ns.map (roundD ns lo)))] = some (.ok (.fz (.bl true)) [s']) ∧ StK s' := by
  have l12 := g.twelve
  obtain ⟨s1, zs, e1, hp, hs1⟩ := mixed_ok T hs g.str (by omega)
  obtain ⟨s2, y4, y5, y6, hs2, e2⟩ := less_outer T g h0 hlo (zs.take 3) s1 none none none hs1 fun x hx => hp.mem_iff.mp (List.mem_of_mem_take hx)
  refine ⟨s2, ?_, hs2⟩
  show finF [0] (mb_l_none_less T [some s, some (.fz (.lst (strD ns))), some (.fz (.dic (slD ns lo))), some (.fz (.lst (ns.map (roundD ns lo)))), none, none, none]) = _
  unfold mb_l_none_less
  have c6 := fr_ok (call1_ok (n := 2) (i := 0) (f := m_l_mixed T) (x1 := s) (ê := [some s, some (.fz (.lst (strD ns))), some (.fz (.dic (slD ns lo))), some (.fz (.lst (ns.map (roundD ns lo)))), none, none, none]) rfl (cons_ok (var_ok (i := 1) rfl) nil_ok) rfl rfl e1)
  have b6 : (m1 klist (m_fr (m_sl slL (m_fr (m_call1 2 (m_l_mixed T) 0 (m_cons (m_var 1) m_nil))) m_noPart (m1 kpart (m_c (.int 3)))))) [some s, some (.fz (.lst (strD ns))), some (.fz (.dic (slD ns lo))), some (.fz (.lst (ns.map (roundD ns lo)))), none, none, none]
      = some (.ok (strD (zs.take 3)) [some s1, some (.fz (.lst (strD ns))), some (.fz (.dic (slD ns lo))), some (.fz (.lst (ns.map (roundD ns lo)))), none, none, none]) := by
    have hsl : slL (.lst (strD zs)) none (some 3) = some (.ol (strD (zs.take 3))) := sl_take zs 3
    refine m1_ok (a := .lst (strD (zs.take 3))) ?_ rfl
    refine fr_ok (x := .ol (strD (zs.take 3))) ?_
    unfold m_sl
    rw [c6, bnd_ok]
    simp! [hsl]
  refine (congrArg (finF [0]) (seq_nx (for_ok b6 e2))).trans ?_
  rfl
end
end K31
namespace K31
open PySem PySem.Spec PyProof.Rows L2 GF GD GL
local macro_rules
  | `(tactic| simp! [$ls,*]) => `(tactic| simp only [m_seq, m_set, m_up, m_fr, m1, m2, k2, mA, m_var, m_mv, m_c, m_k, m_ite, kif, m_if, kifS, m_not, m_ret, kret, m_drop, kdrop, m_cons, kc, kc2, m_nil, m_call, kcall, bnd_ok, bnd_ex, bndS_ok, bndS_ex, seqS_nx, seqS_rt, seqS_bk, seqS_ct, seqS_ex, loopS_nx, loopS_rt, loopS_ct, loopS_bk,
  un?, gt, st', kset, g_nm, g_tup, g_cons, g_nil, knot, kdrop, ifAny, ifOl, lkOl, m_r2, m_l2, m_l1, kv1, kv2, kix, m_ixV, m_append, kap, m_sl, ks0, ks1, ks2, m_noPart, kpart, m_on, kon2, isLst, isTup, isStr, m_or, isTupX, m_call1, kcall1, m_callN, kcallN, kcallN1, appD, m_callB, kcallB, m_meth, kmeth, m_make, kmake, m_makeB, kmakeB, m_par, kpar1, kpar2, m_par3, kpar3, m_parT, kparT, m_consX, m_nilX, kXs, kXs2, m_st, kst, m_setF, m_fldV, m_getV, kgetV, m_put, kput, kput2, m_reverse, m_clear, m_for, klist, ktup, kseq_l, kseq_t, m_lc, m_dc, m_while, m_brk, m_cnt, m_next, m_chain, kch0, kch1, kch, GD.intOp, leI, ltI, geI, gtI, addI, subI, modI, kbool, knotD, isiG, lenG, eqD_int, finF, colE, frz, Option.map_some, List.length_cons, List.length_nil, List.map_cons, List.map_nil, Bool.false_xor, Bool.true_xor, Bool.not_true, Bool.not_false, decide_true, decide_false, ite_true, ite_false, reduceIte, if_true, if_false, eq_self, Bool.false_eq_true, true_and, and_true, GD.flat_strs, Option.isNone_none, Nat.reduceAdd, Nat.reduceSub, Nat.reduceMul, Nat.reduceLT, Nat.reduceEqDiff, Int.reduceEq, Int.reduceLT, Int.reduceLE, Int.reduceAdd, Int.reduceSub, Int.reduceNeg, Int.cast_ofNat_Int, Int.natCast_zero, Int.natCast_one, $ls,*])

theorem pairs_slips (sl : Str → Int) : ∀ zs : List Str, pairsK (zs.map fun n => D.tup [.str n, .int (sl n)]) = some (slD zs sl)
  | [] => rfl
  | n :: r => by
    rw [List.map_cons, pairsK, pairs_slips sl r]
    rfl
theorem paired_fun {f : Str → Int} : ∀ {ns : List Str} {ys : List D}, Paired (fun d y => ∃ n, d = D.str n ∧ y = D.tup [.str n, .int (f n)]) (strD ns) ys → ys = ns.map fun n => D.tup [.str n, .int (f n)]
  | [], _, .nil => rfl
  | n :: r, _, .cons h t => by
    obtain ⟨m, e1, e2⟩ := h
    obtain rfl := D.str.inj e1
    rw [e2, paired_fun t]
    rfl
theorem m_var_ok {ê : En} {i : Nat} {x : X} (h : gt ê i = some x) : m_var i ê = some (.ok (frz x) (st' ê i (some (.fz (frz x))))) := by
  unfold m_var
  rw [h]
section
variable {K : PySem.W.Frag} {mg : Str → Option Value} (T : Tx K mg)
variable {ns : List Str} {sl : Str → Int}
theorem begin_ok {ns : List Int} (hl : ns.length ≤ 63) : ∃ s, m_l_begin T [.fz (.scr ns)] = some (.ok s []) ∧ StK s := by
  refine ⟨.st (absOr ns) 0 1, if_pos hl, absOr ns, 0, 1, rfl, ?_, ?_, lt_B4 (by decide)⟩
  · unfold absOr
    split
    · decide
    · rename_i h
      rw [List.length_map]
      exact List.length_pos_iff.mpr h
  · unfold absOr
    split
    · decide
    · rw [List.length_map]; exact hl
/-- the rows of the least slips, told anew -/
theorem low_ok {a0 s a2 a5 a8 a9 a10 : Option X} {x6 x7 : X} (g : GoodNs ns) (h6 : frz x6 = .dic (slN ns (needOf ns sl))) : ∃ y6 : X, frz y6 = .dic (slN ns (needOf ns sl)) ∧
    m1 dictPG (m_fr (m_lc (m1 klist (m_var 3)) (g_nm 11) (m_k true) (el_law1 T) [11])) [a0, s, a2, some (.fz (.lst (strD ns))), some (.fz (.dic (slD ns sl))), a5, some x6, some x7, a8, a9, a10, none]
      = some (.ok (.od (slD ns (loOf ns sl))) [a0, s, a2, some (.fz (.lst (strD ns))), some (.fz (.dic (slD ns sl))), a5, some y6, some x7, a8, a9, a10, none]) := by
  have l12 := g.twelve
  have hf := need_fine (sl := sl) g
  obtain ⟨ys, e', el, ⟨y6, hy6, he⟩, hy⟩ := lc_run (mg := g_nm 11) (mt := m_k true) (me := el_law1 T) (vs := [11]) (fun e => ∃ q : X, frz q = .dic (slN ns (needOf ns sl)) ∧ e = [a0, s, a2, some (.fz (.lst (strD ns))), some (.fz (.dic (slD ns sl))), a5, some q, some x7, a8, a9, a10, none]) (fun d y => ∃ n, d = D.str n ∧ y = D.tup [.str n, .int (loOf ns sl n)]) (strD ns) [] [a0, s, a2, some (.fz (.lst (strD ns))), some (.fz (.dic (slD ns sl))), a5, some x6, some x7, a8, a9, a10, none] ⟨x6, h6, rfl⟩ (fun d hd e ⟨q, hq, he⟩ => by
    subst he
    obtain ⟨n, hn, rfl⟩ := List.mem_map.mp hd
    have hN : getG (.dic (slN ns (needOf ns sl))) (.str n) = some (.int (needOf ns sl n : Nat)) := getG_ok (sl := fun x => ((needOf ns sl x : Nat) : Int)) slD_ok hn
    have v6 : m_var 6 [a0, s, a2, some (.fz (.lst (strD ns))), some (.fz (.dic (slD ns sl))), a5, some q, some x7, a8, a9, a10, some (.fz (.str n))] = some (.ok (.dic (slN ns (needOf ns sl))) [a0, s, a2, some (.fz (.lst (strD ns))), some (.fz (.dic (slD ns sl))), a5, some (.fz (.dic (slN ns (needOf ns sl)))), some x7, a8, a9, a10, some (.fz (.str n))]) := by
      rw [m_var_ok (x := q) rfl, hq]
      rfl
    have c1 : (m2 getG (m_var 4) (m_var 11)) [a0, s, a2, some (.fz (.lst (strD ns))), some (.fz (.dic (slD ns sl))), a5, some q, some x7, a8, a9, a10, some (.fz (.str n))] = some (.ok (.int (sl n)) [a0, s, a2, some (.fz (.lst (strD ns))), some (.fz (.dic (slD ns sl))), a5, some q, some x7, a8, a9, a10, some (.fz (.str n))]) := m2_ok (var_ok rfl) (var_ok rfl) (getG_ok slD_ok hn)
    have c2 := m2_ok (mb := m_var 11) (g := getG) v6 (var_ok rfl) hN
    refine ⟨.tup [.str n, .int (loOf ns sl n)], [a0, s, a2, some (.fz (.lst (strD ns))), some (.fz (.dic (slD ns sl))), a5, some (.fz (.dic (slN ns (needOf ns sl)))), some x7, a8, a9, a10, some (.fz (.str n))], lct_ok rfl ?_, ⟨_, rfl, rfl⟩, n, rfl, rfl⟩
    unfold el_law1
    exact mA_ok (cons_ok (var_ok rfl) (cons_ok (m2_ok c1 c2 (mod_ok (hf n).1)) nil_ok)) (tupA2 _ _)) (by rw [List.length_nil, List.length_map]; exact small_sz (by omega))
  rw [List.nil_append] at el
  subst he
  rw [paired_fun hy] at el
  have hdp : dictPG (.lst (ns.map fun n => D.tup [.str n, .int (loOf ns sl n)])) = some (.od (slD ns (loOf ns sl))) := by
    unfold dictPG
    simp only
    rw [pairs_slips, Option.map_some, merge_slips _ ns [] g.nd (fun _ _ z => nomatch z), List.nil_append]
  exact ⟨y6, hy6, m1_ok (fr_ok (lc_ok (klist_ok rfl) el)) hdp⟩
theorem law_turn {a0 a2 x3 x4 x5 x6 x7 x8 x9 x10 : Option X} {s : X} (hs : StK s) : ∃ s' y3 y4 y5 y6 y7 y8 y9 y10, StK s' ∧ lp_law2 T [a0, some s, a2, x3, x4, x5, x6, x7, x8, x9, x10, none] = some (.nx [a0, some s', a2, y3, y4, y5, y6, y7, y8, y9, y10, none]) := by
  obtain ⟨d, s1, e1, d0, d1, hs1⟩ := draw_ok T (n := 11) hs (by decide) (lt_B4 (by decide))
  obtain ⟨j, rfl⟩ := Int.eq_ofNat_of_zero_le d0
  obtain ⟨s2, ns, e2, g, hl, hs2⟩ := crew_ok T (n := j + 2) hs1 (by omega) (by omega)
  have l12 := g.twelve
  have hj : (2 : Int) + ((j : Nat) : Int) = ((j + 2 : Nat) : Int) := by omega
  rw [← hj] at e2
  obtain ⟨sl, s3, e3, hs3⟩ := marks_ok T hs2 g
  have hk : SlD (slD ns sl) ns sl := slD_ok
  have c1 : (m_cons (m2 addI (m_c (.int 2)) (m_fr (m_call1 2 (m_l_draw T) 1 (m_cons (m_c (.int 11)) m_nil)))) m_nil) [a0, some s, a2, x3, x4, x5, x6, x7, x8, x9, x10, none] = some (.ok [.int (2 + ((j : Nat) : Int))] [a0, some s1, a2, x3, x4, x5, x6, x7, x8, x9, x10, none]) := by
    simp! [e1]
  have a1 := set_ok (g := g_nm 3) (call1_ok (n := 2) (i := 1) (f := m_l_crew T) (x1 := s) rfl c1 rfl rfl e2) rfl
  have b3 : (m_cons (m_var 3) m_nil) [a0, some s2, a2, some (.ol (strD ns)), x4, x5, x6, x7, x8, x9, x10, none] = some (.ok [.lst (strD ns)] [a0, some s2, a2, some (.fz (.lst (strD ns))), x4, x5, x6, x7, x8, x9, x10, none]) := by
    simp! []
  have a2' := set_ok (g := g_nm 4) (call1_ok (n := 2) (i := 1) (f := m_l_marks T) (x1 := s2) rfl b3 rfl rfl e3) rfl
  have a3 : m_parT 5 6 (m_make T.a_Ring 3 (m_Ring_init T) (m_cons (m_var 3) (m_cons (m_var 4) m_nil))) (m_call 2 (m_l_needed T) (m_cons (m_var 3) (m_cons (m_var 4) m_nil))) [a0, some s3, a2, some (.fz (.lst (strD ns))), some (.od (slD ns sl)), x5, x6, x7, x8, x9, x10, none]
      = some (.nx [a0, some s3, a2, some (.fz (.lst (strD ns))), some (.fz (.dic (slD ns sl))), some (ringO T ns sl), some (.od (slN ns (needOf ns sl))), x7, x8, x9, x10, none]) := by
    simp! [init_ok T g hk, needed_ok T g hk]
  have v5 : m_var 5 [a0, some s3, a2, some (.fz (.lst (strD ns))), some (.fz (.dic (slD ns sl))), some (ringO T ns sl), some (.od (slN ns (needOf ns sl))), x7, x8, x9, x10, none] = some (.ok (ringD T.a_Ring ns (slD ns sl)) [a0, some s3, a2, some (.fz (.lst (strD ns))), some (.fz (.dic (slD ns sl))), some (.fz (ringD T.a_Ring ns (slD ns sl))), some (.od (slN ns (needOf ns sl))), x7, x8, x9, x10, none]) := by
    rw [m_var_ok (x := ringO T ns sl) rfl]; rfl
  have a4 := set_ok (g := g_nm 7) (call_ok (n := 1) (f := m_least_of T) (cons_ok v5 nil_ok) rfl (least_ok T g)) rfl
  have nl1 := fun (f : Str → Int) => nolk (ns := ns) (kds := slD ns f) (show (("slips" : Str) == ("_names" : Str)) = false by decide +kernel) (by decide +kernel)
  have nl3 := fun (f : Str → Int) => nolk (ns := ns) (kds := slD ns f) (show (("names" : Str) == ("_names" : Str)) = false by decide +kernel) (by decide +kernel)
  have a5 : m_if (m_ite (m_not (m1 kbool (m1 (isiC T.a_Ring) (m_var 7)))) (m_k true) (m_ite (m1 kbool (m2 (eqD true) (m_fr (m_meth T.a_Ring "names" 1 (m_Ring_names T) (m_var 7) m_nil)) (m_var 3))) (m_k true) (m1 kbool (m2 (eqKD true) (m_fr (m_meth T.a_Ring "slips" 1 (m_Ring_slips T) (m_var 5) m_nil)) (m_var 4)))))
      (m_ret (m_up (m_c (.bl false)))) m_next [a0, some s3, a2, some (.fz (.lst (strD ns))), some (.fz (.dic (slD ns sl))), some (.fz (ringD T.a_Ring ns (slD ns sl))), some (.od (slN ns (needOf ns sl))), some (ringO T ns (loOf ns sl)), x8, x9, x10, none]
      = some (.nx [a0, some s3, a2, some (.fz (.lst (strD ns))), some (.fz (.dic (slD ns sl))), some (.fz (ringD T.a_Ring ns (slD ns sl))), some (.od (slN ns (needOf ns sl))), some (.fz (ringD T.a_Ring ns (slD ns (loOf ns sl)))), x8, x9, x10, none]) := by
    have v7 : m_var 7 [a0, some s3, a2, some (.fz (.lst (strD ns))), some (.fz (.dic (slD ns sl))), some (.fz (ringD T.a_Ring ns (slD ns sl))), some (.od (slN ns (needOf ns sl))), some (ringO T ns (loOf ns sl)), x8, x9, x10, none] = some (.ok (ringD T.a_Ring ns (slD ns (loOf ns sl))) [a0, some s3, a2, some (.fz (.lst (strD ns))), some (.fz (.dic (slD ns sl))), some (.fz (ringD T.a_Ring ns (slD ns sl))), some (.od (slN ns (needOf ns sl))), some (.fz (ringD T.a_Ring ns (slD ns (loOf ns sl)))), x8, x9, x10, none]) := by
      rw [m_var_ok (x := ringO T ns (loOf ns sl)) rfl]; rfl
    have c2 := m1_ok (g := kbool) (m1_ok v7 (isi_ring T)) rfl
    have c3 : m_not (m1 kbool (m1 (isiC T.a_Ring) (m_var 7))) [a0, some s3, a2, some (.fz (.lst (strD ns))), some (.fz (.dic (slD ns sl))), some (.fz (ringD T.a_Ring ns (slD ns sl))), some (.od (slN ns (needOf ns sl))), some (ringO T ns (loOf ns sl)), x8, x9, x10, none] = some (.ok false [a0, some s3, a2, some (.fz (.lst (strD ns))), some (.fz (.dic (slD ns sl))), some (.fz (ringD T.a_Ring ns (slD ns sl))), some (.od (slN ns (needOf ns sl))), some (.fz (ringD T.a_Ring ns (slD ns (loOf ns sl)))), x8, x9, x10, none]) := by
      unfold m_not
      rw [c2, bnd_ok]
      rfl
    refine if_f (ite_f c3 ?_) rfl
    simp! [nl1, nl3, K31.names_ok T, slips_ok, eqD_same true g, eqK_same]
  obtain ⟨y6, hy6, b9⟩ := low_ok T (a0 := a0) (s := some s3) (a2 := a2) (a5 := some (.fz (ringD T.a_Ring ns (slD ns sl)))) (a8 := x8) (a9 := x9) (a10 := x10) (x6 := .od (slN ns (needOf ns sl))) (x7 := .fz (ringD T.a_Ring ns (slD ns (loOf ns sl)))) (sl := sl) g rfl
  have c8 : m_meth T.a_Ring "slips" 1 (m_Ring_slips T) (m_var 7) m_nil [a0, some s3, a2, some (.fz (.lst (strD ns))), some (.fz (.dic (slD ns sl))), some (.fz (ringD T.a_Ring ns (slD ns sl))), some (.od (slN ns (needOf ns sl))), some (.fz (ringD T.a_Ring ns (slD ns (loOf ns sl)))), x8, x9, x10, none] = some (.ok (.od (slD ns (loOf ns sl))) [a0, some s3, a2, some (.fz (.lst (strD ns))), some (.fz (.dic (slD ns sl))), some (.fz (ringD T.a_Ring ns (slD ns sl))), some (.od (slN ns (needOf ns sl))), some (.fz (ringD T.a_Ring ns (slD ns (loOf ns sl)))), x8, x9, x10, none]) := by
    simp! [nl1, slips_ok]
  have a6 : m_par 8 9 (m_meth T.a_Ring "slips" 1 (m_Ring_slips T) (m_var 7) m_nil) (m1 dictPG (m_fr (m_lc (m1 klist (m_var 3)) (g_nm 11) (m_k true) (el_law1 T) [11]))) [a0, some s3, a2, some (.fz (.lst (strD ns))), some (.fz (.dic (slD ns sl))), some (.fz (ringD T.a_Ring ns (slD ns sl))), some (.od (slN ns (needOf ns sl))), some (.fz (ringD T.a_Ring ns (slD ns (loOf ns sl)))), x8, x9, x10, none]
      = some (.nx [a0, some s3, a2, some (.fz (.lst (strD ns))), some (.fz (.dic (slD ns sl))), some (.fz (ringD T.a_Ring ns (slD ns sl))), some y6, some (.fz (ringD T.a_Ring ns (slD ns (loOf ns sl)))), some (.od (slD ns (loOf ns sl))), some (.od (slD ns (loOf ns sl))), x10, none]) := by
    unfold m_par
    rw [c8, bndS_ok]
    unfold kpar1
    rw [b9, bndS_ok]
    rfl
  obtain ⟨t, ht, hts⟩ := shown_ok (sl := loOf ns sl) g (fun n _ => by
    have := (need_fine (sl := sl) g).le n
    have := lo_lt (sl := sl) g n
    omega)
  have a7 : m_if (m_ite (m1 kbool (m2 (eqD true) (m1 reprDG (m_var 8)) (m1 reprDG (m_var 9)))) (m_k true) (m_not (m1 kbool (m_eqM T.a_Ring (m_Ring_eq T) (m_fr (m_callK0 1 (m_least_of T) [0] 1 (m_cons (m_var 7) m_nil))) (m_var 7)))))
      (m_ret (m_up (m_c (.bl false)))) m_next [a0, some s3, a2, some (.fz (.lst (strD ns))), some (.fz (.dic (slD ns sl))), some (.fz (ringD T.a_Ring ns (slD ns sl))), some y6, some (.fz (ringD T.a_Ring ns (slD ns (loOf ns sl)))), some (.od (slD ns (loOf ns sl))), some (.od (slD ns (loOf ns sl))), x10, none]
      = some (.nx [a0, some s3, a2, some (.fz (.lst (strD ns))), some (.fz (.dic (slD ns sl))), some (.fz (ringD T.a_Ring ns (slD ns sl))), some y6, some (.fz (ringD T.a_Ring ns (slD ns (loOf ns sl)))), some (.fz (.dic (slD ns (loOf ns sl)))), some (.fz (.dic (slD ns (loOf ns sl)))), x10, none]) := by
    have c2 : (m1 kbool (m2 (eqD true) (m1 reprDG (m_var 8)) (m1 reprDG (m_var 9)))) [a0, some s3, a2, some (.fz (.lst (strD ns))), some (.fz (.dic (slD ns sl))), some (.fz (ringD T.a_Ring ns (slD ns sl))), some y6, some (.fz (ringD T.a_Ring ns (slD ns (loOf ns sl)))), some (.od (slD ns (loOf ns sl))), some (.od (slD ns (loOf ns sl))), x10, none]
        = some (.ok false [a0, some s3, a2, some (.fz (.lst (strD ns))), some (.fz (.dic (slD ns sl))), some (.fz (ringD T.a_Ring ns (slD ns sl))), some y6, some (.fz (ringD T.a_Ring ns (slD ns (loOf ns sl)))), some (.fz (.dic (slD ns (loOf ns sl)))), some (.fz (.dic (slD ns (loOf ns sl)))), x10, none]) := by
      simp! [ht, eqD_str true hts]
    have k1 : m_callK0 1 (m_least_of T) [0] 1 (m_cons (m_var 7) m_nil) [a0, some s3, a2, some (.fz (.lst (strD ns))), some (.fz (.dic (slD ns sl))), some (.fz (ringD T.a_Ring ns (slD ns sl))), some y6, some (.fz (ringD T.a_Ring ns (slD ns (loOf ns sl)))), some (.fz (.dic (slD ns (loOf ns sl)))), some (.fz (.dic (slD ns (loOf ns sl)))), x10, none]
        = some (.ok (ringO T ns (loOf ns sl)) [a0, some s3, a2, some (.fz (.lst (strD ns))), some (.fz (.dic (slD ns sl))), some (.fz (ringD T.a_Ring ns (slD ns sl))), some y6, some (.fz (ringD T.a_Ring ns (slD ns (loOf ns sl)))), some (.fz (.dic (slD ns (loOf ns sl)))), some (.fz (.dic (slD ns (loOf ns sl)))), x10, none]) := by
      have hl2 := least_ok T (sl := loOf ns sl) g
      rw [lo_idem g] at hl2
      unfold m_callK0
      rw [cons_ok (var_ok (i := 7) rfl) nil_ok, bnd_ok]
      unfold kcallK
      rw [if_pos (show [ringD T.a_Ring ns (slD ns (loOf ns sl))].length = 1 from rfl)]
      unfold kcall
      show (if 1 = 1 then (match m_least_of T [.fz (ringD T.a_Ring ns (slD ns (loOf ns sl)))] with | some (.ok x []) => _ | some (.ex x []) => _ | _ => _) else _) = _
      rw [if_pos rfl, hl2]
    have k2 : m_eqM T.a_Ring (m_Ring_eq T) (m_fr (m_callK0 1 (m_least_of T) [0] 1 (m_cons (m_var 7) m_nil))) (m_var 7) [a0, some s3, a2, some (.fz (.lst (strD ns))), some (.fz (.dic (slD ns sl))), some (.fz (ringD T.a_Ring ns (slD ns sl))), some y6, some (.fz (ringD T.a_Ring ns (slD ns (loOf ns sl)))), some (.fz (.dic (slD ns (loOf ns sl)))), some (.fz (.dic (slD ns (loOf ns sl)))), x10, none]
        = some (.ok (.bl true) [a0, some s3, a2, some (.fz (.lst (strD ns))), some (.fz (.dic (slD ns sl))), some (.fz (ringD T.a_Ring ns (slD ns sl))), some y6, some (.fz (ringD T.a_Ring ns (slD ns (loOf ns sl)))), some (.fz (.dic (slD ns (loOf ns sl)))), some (.fz (.dic (slD ns (loOf ns sl)))), x10, none]) := by
      unfold m_eqM
      rw [fr_ok k1, bnd_ok]
      unfold keqM
      rw [var_ok (i := 7) rfl, bnd_ok]
      show keqM2 T.a_Ring (m_Ring_eq T) (ringD T.a_Ring ns (slD ns (loOf ns sl))) (ringD T.a_Ring ns (slD ns (loOf ns sl))) _ = _
      unfold keqM2
      show (if T.a_Ring = T.a_Ring ∧ T.a_Ring = T.a_Ring then (match m_Ring_eq T [.fz (ringD T.a_Ring ns (slD ns (loOf ns sl))), .fz (ringD T.a_Ring ns (slD ns (loOf ns sl)))] with | some (.ok (.fz (.bl c)) []) => _ | _ => _) else _) = _
      rw [if_pos ⟨rfl, rfl⟩, eq_ok T g]
    have k3 : m_not (m1 kbool (m_eqM T.a_Ring (m_Ring_eq T) (m_fr (m_callK0 1 (m_least_of T) [0] 1 (m_cons (m_var 7) m_nil))) (m_var 7))) [a0, some s3, a2, some (.fz (.lst (strD ns))), some (.fz (.dic (slD ns sl))), some (.fz (ringD T.a_Ring ns (slD ns sl))), some y6, some (.fz (ringD T.a_Ring ns (slD ns (loOf ns sl)))), some (.fz (.dic (slD ns (loOf ns sl)))), some (.fz (.dic (slD ns (loOf ns sl)))), x10, none]
        = some (.ok false [a0, some s3, a2, some (.fz (.lst (strD ns))), some (.fz (.dic (slD ns sl))), some (.fz (ringD T.a_Ring ns (slD ns sl))), some y6, some (.fz (ringD T.a_Ring ns (slD ns (loOf ns sl)))), some (.fz (.dic (slD ns (loOf ns sl)))), some (.fz (.dic (slD ns (loOf ns sl)))), x10, none]) := by
      unfold m_not
      rw [m1_ok (g := kbool) k2 rfl, bnd_ok]
      rfl
    exact if_f (ite_f c2 k3) rfl
  have a8 : m_set (m_call 2 (m_l_all_rounds T) (m_cons (m_var 3) (m_cons (m_var 8) m_nil))) (g_nm 10) [a0, some s3, a2, some (.fz (.lst (strD ns))), some (.fz (.dic (slD ns sl))), some (.fz (ringD T.a_Ring ns (slD ns sl))), some y6, some (.fz (ringD T.a_Ring ns (slD ns (loOf ns sl)))), some (.fz (.dic (slD ns (loOf ns sl)))), some (.fz (.dic (slD ns (loOf ns sl)))), x10, none]
      = some (.nx [a0, some s3, a2, some (.fz (.lst (strD ns))), some (.fz (.dic (slD ns sl))), some (.fz (ringD T.a_Ring ns (slD ns sl))), some y6, some (.fz (ringD T.a_Ring ns (slD ns (loOf ns sl)))), some (.fz (.dic (slD ns (loOf ns sl)))), some (.fz (.dic (slD ns (loOf ns sl)))), some (.ol (ns.map (roundD ns (loOf ns sl)))), none]) :=
    set_ok (call_ok (cons_ok (var_ok rfl) (cons_ok (var_ok rfl) nil_ok)) rfl (rounds_ok T g slD_ok)) rfl
  obtain ⟨s4, e9, hs4⟩ := none_less_ok T (lo := loOf ns sl) hs3 g (fun x => (lo_lt (sl := sl) g x).1) (fun x => by rw [lo_need g]; exact (lo_lt (sl := sl) g x).2)
  have a9 : m_if (m_ite (m1 kbool (m2 (eqD true) (m_var 10) (m_fr (m_call 2 (m_l_all_rounds T) (m_cons (m_var 3) (m_cons (m_var 4) m_nil)))))) (m_k true) (m_not (m1 kbool (m_fr (m_call1 4 (m_l_none_less T) 1 (m_cons (m_var 3) (m_cons (m_var 8) (m_cons (m_var 10) m_nil))))))))
      (m_ret (m_up (m_c (.bl false)))) m_next [a0, some s3, a2, some (.fz (.lst (strD ns))), some (.fz (.dic (slD ns sl))), some (.fz (ringD T.a_Ring ns (slD ns sl))), some y6, some (.fz (ringD T.a_Ring ns (slD ns (loOf ns sl)))), some (.fz (.dic (slD ns (loOf ns sl)))), some (.fz (.dic (slD ns (loOf ns sl)))), some (.ol (ns.map (roundD ns (loOf ns sl)))), none]
      = some (.nx [a0, some s4, a2, some (.fz (.lst (strD ns))), some (.fz (.dic (slD ns sl))), some (.fz (ringD T.a_Ring ns (slD ns sl))), some y6, some (.fz (ringD T.a_Ring ns (slD ns (loOf ns sl)))), some (.fz (.dic (slD ns (loOf ns sl)))), some (.fz (.dic (slD ns (loOf ns sl)))), some (.fz (.lst (ns.map (roundD ns (loOf ns sl))))), none]) := by
    have v10 : m_var 10 [a0, some s3, a2, some (.fz (.lst (strD ns))), some (.fz (.dic (slD ns sl))), some (.fz (ringD T.a_Ring ns (slD ns sl))), some y6, some (.fz (ringD T.a_Ring ns (slD ns (loOf ns sl)))), some (.fz (.dic (slD ns (loOf ns sl)))), some (.fz (.dic (slD ns (loOf ns sl)))), some (.ol (ns.map (roundD ns (loOf ns sl)))), none] = some (.ok (.lst (ns.map (roundD ns (loOf ns sl)))) [a0, some s3, a2, some (.fz (.lst (strD ns))), some (.fz (.dic (slD ns sl))), some (.fz (ringD T.a_Ring ns (slD ns sl))), some y6, some (.fz (ringD T.a_Ring ns (slD ns (loOf ns sl)))), some (.fz (.dic (slD ns (loOf ns sl)))), some (.fz (.dic (slD ns (loOf ns sl)))), some (.fz (.lst (ns.map (roundD ns (loOf ns sl))))), none]) := by
      rw [m_var_ok (x := .ol (ns.map (roundD ns (loOf ns sl)))) rfl]; rfl
    have hq := eqD_rounds true (sl := sl) (sl' := loOf ns sl) g
    rw [decide_eq_true (lo_same (sl := sl) g)] at hq
    have c2 := m1_ok (g := kbool) (m2_ok (g := eqD true) v10 (fr_ok (call_ok (n := 2) (f := m_l_all_rounds T) (cons_ok (var_ok (i := 3) rfl) (cons_ok (var_ok (i := 4) rfl) nil_ok)) rfl (rounds_ok T g hk))) hq) rfl
    have c3 := fr_fz (call1_ok (n := 4) (i := 1) (f := m_l_none_less T) (x1 := s3) (ê := [a0, some s3, a2, some (.fz (.lst (strD ns))), some (.fz (.dic (slD ns sl))), some (.fz (ringD T.a_Ring ns (slD ns sl))), some y6, some (.fz (ringD T.a_Ring ns (slD ns (loOf ns sl)))), some (.fz (.dic (slD ns (loOf ns sl)))), some (.fz (.dic (slD ns (loOf ns sl)))), some (.fz (.lst (ns.map (roundD ns (loOf ns sl))))), none]) rfl (cons_ok (var_ok (i := 3) rfl) (cons_ok (var_ok (i := 8) rfl) (cons_ok (var_ok (i := 10) rfl) nil_ok))) rfl rfl e9)
    have c4 : m_not (m1 kbool (m_fr (m_call1 4 (m_l_none_less T) 1 (m_cons (m_var 3) (m_cons (m_var 8) (m_cons (m_var 10) m_nil)))))) [a0, some s3, a2, some (.fz (.lst (strD ns))), some (.fz (.dic (slD ns sl))), some (.fz (ringD T.a_Ring ns (slD ns sl))), some y6, some (.fz (ringD T.a_Ring ns (slD ns (loOf ns sl)))), some (.fz (.dic (slD ns (loOf ns sl)))), some (.fz (.dic (slD ns (loOf ns sl)))), some (.fz (.lst (ns.map (roundD ns (loOf ns sl))))), none]
        = some (.ok false [a0, some s4, a2, some (.fz (.lst (strD ns))), some (.fz (.dic (slD ns sl))), some (.fz (ringD T.a_Ring ns (slD ns sl))), some y6, some (.fz (ringD T.a_Ring ns (slD ns (loOf ns sl)))), some (.fz (.dic (slD ns (loOf ns sl)))), some (.fz (.dic (slD ns (loOf ns sl)))), some (.fz (.lst (ns.map (roundD ns (loOf ns sl))))), none]) := by
      unfold m_not
      rw [m1_ok (g := kbool) c3 rfl, bnd_ok]
      rfl
    exact if_f (ite_f c2 c4) rfl
  refine ⟨s4, some (.fz (.lst (strD ns))), some (.fz (.dic (slD ns sl))), some (.fz (ringD T.a_Ring ns (slD ns sl))), some y6, some (.fz (ringD T.a_Ring ns (slD ns (loOf ns sl)))), some (.fz (.dic (slD ns (loOf ns sl)))), some (.fz (.dic (slD ns (loOf ns sl)))), some (.fz (.lst (ns.map (roundD ns (loOf ns sl))))), hs4, ?_⟩
  unfold lp_law2
  exact (seq_nx a1).trans ((seq_nx a2').trans ((seq_nx a3).trans ((seq_nx a4).trans ((seq_nx a5).trans ((seq_nx a6).trans ((seq_nx a7).trans ((seq_nx a8).trans a9)))))))
theorem law_loop {a0 : Option X} : ∀ (m a : Nat) (s : X) (x2 x3 x4 x5 x6 x7 x8 x9 x10 : Option X), StK s → ∃ e, forL (g_nm 2) (lp_law2 T) (cnt a m) [a0, some s, x2, x3, x4, x5, x6, x7, x8, x9, x10, none] = some (.nx e)
  | 0, a, s, x2, x3, x4, x5, x6, x7, x8, x9, x10, hs => ⟨_, rfl⟩
  | m + 1, a, s, x2, x3, x4, x5, x6, x7, x8, x9, x10, hs => by
    obtain ⟨s', y3, y4, y5, y6, y7, y8, y9, y10, hs', e⟩ := law_turn T (a0 := a0) (a2 := some (.fz (.int ((a : Nat) : Int)))) (x3 := x3) (x4 := x4) (x5 := x5) (x6 := x6) (x7 := x7) (x8 := x8) (x9 := x9) (x10 := x10) hs
    obtain ⟨e2, h1⟩ := law_loop m (a + 1) s' (some (.fz (.int ((a : Nat) : Int)))) y3 y4 y5 y6 y7 y8 y9 y10 hs'
    refine ⟨e2, ?_⟩
    rw [cnt_succ, forL]
    show loopS (lp_law2 T [a0, some s, some (.fz (.int ((a : Nat) : Int))), x3, x4, x5, x6, x7, x8, x9, x10, none]) _ = _
    rw [e, loopS_nx]
    exact h1
theorem law_ok {ns : List Int} (hl : ns.length ≤ 63) : m_law T [.fz (.scr ns)] = some (.ok (.fz (.bl true)) []) := by
  show finF [] (mb_law T [some (.fz (.scr ns)), none, none, none, none, none, none, none, none, none, none, none]) = _
  unfold mb_law
  obtain ⟨s, es, hs⟩ := begin_ok T hl
  have a1 := set_ok (g := g_nm 1) (call_ok (n := 1) (f := m_l_begin T) (ê := [some (.fz (.scr ns)), none, none, none, none, none, none, none, none, none, none, none]) (cons_ok (var_ok (i := 0) rfl) nil_ok) rfl es) rfl
  have hk : krng1 [.int (2 + (if (4 : Int) < ((ns.length : Nat) : Int) then 4 else ((ns.length : Nat) : Int)))] = some (cnt 0 (2 + min ns.length 4)) := by
    have hmin : (2 + (if (4 : Int) < ((ns.length : Nat) : Int) then 4 else ((ns.length : Nat) : Int))) = ((2 + min ns.length 4 : Nat) : Int) := by split <;> omega
    rw [hmin]
    exact krng1_ok (by omega)
  have b1 : (m_cons (m2 addI (m_c (.int 2)) (mA (arg2 min2) (m_cons (m1 lenG (m_var 0)) (m_cons (m_c (.int 4)) m_nil)))) m_nil) [some (.fz (.scr ns)), some s, none, none, none, none, none, none, none, none, none, none]
      = some (.ok [.int (2 + (if (4 : Int) < ((ns.length : Nat) : Int) then 4 else ((ns.length : Nat) : Int)))] [some (.fz (.scr ns)), some s, none, none, none, none, none, none, none, none, none, none]) := by
    simp! [arg2, min2]
  obtain ⟨e2, h1⟩ := law_loop T (a0 := some (.fz (.scr ns))) (2 + min ns.length 4) 0 s none none none none none none none none none hs
  refine (congrArg (finF []) ((seq_nx a1).trans (seq_nx (for_ok (mA_ok b1 hk) h1)))).trans ?_
  rfl
end
end K31
namespace K31
open PySem PySem.Spec PyProof.Rows L2 GF GD GL
theorem all_mk {l : PySem.W.OpenLaw} {w : World} {K : PySem.W.Frag} {h : Heap} {mg : Str → Option Value} {fa : Addr}
    {c_Ring : Addr}
    {f_is_number : Addr} {od_is_number an_is_number : Option Addr} {sl_is_number : Array (Option Value)} {oc_is_number kV_is_number dc_is_number pm_is_number cd_is_number ct_is_number : Value}
    {f_is_name : Addr} {od_is_name an_is_name : Option Addr} {sl_is_name : Array (Option Value)} {oc_is_name kV_is_name dc_is_name pm_is_name cd_is_name ct_is_name : Value}
    {f_is_names : Addr} {od_is_names an_is_names : Option Addr} {sl_is_names : Array (Option Value)} {oc_is_names kV_is_names dc_is_names pm_is_names cd_is_names ct_is_names : Value}
    {f_check_names : Addr} {od_check_names an_check_names : Option Addr} {sl_check_names : Array (Option Value)} {oc_check_names kV_check_names dc_check_names pm_check_names cd_check_names ct_check_names : Value}
    {f_check_name : Addr} {od_check_name an_check_name : Option Addr} {sl_check_name : Array (Option Value)} {oc_check_name kV_check_name dc_check_name pm_check_name cd_check_name ct_check_name : Value}
    {f_is_slips : Addr} {od_is_slips an_is_slips : Option Addr} {sl_is_slips : Array (Option Value)} {oc_is_slips kV_is_slips dc_is_slips pm_is_slips cd_is_slips ct_is_slips : Value}
    {f_listed_behind : Addr} {od_listed_behind an_listed_behind : Option Addr} {sl_listed_behind : Array (Option Value)} {oc_listed_behind kV_listed_behind dc_listed_behind pm_listed_behind cd_listed_behind ct_listed_behind : Value}
    {f_who_sit : Addr} {od_who_sit an_who_sit : Option Addr} {sl_who_sit : Array (Option Value)} {oc_who_sit kV_who_sit dc_who_sit pm_who_sit cd_who_sit ct_who_sit : Value}
    {f_check_between : Addr} {od_check_between an_check_between : Option Addr} {sl_check_between : Array (Option Value)} {oc_check_between kV_check_between dc_check_between pm_check_between cd_check_between ct_check_between : Value}
    {f_rests_told : Addr} {od_rests_told an_rests_told : Option Addr} {sl_rests_told : Array (Option Value)} {oc_rests_told kV_rests_told dc_rests_told pm_rests_told cd_rests_told ct_rests_told : Value}
    {f_is_goers : Addr} {od_is_goers an_is_goers : Option Addr} {sl_is_goers : Array (Option Value)} {oc_is_goers kV_is_goers dc_is_goers pm_is_goers cd_is_goers ct_is_goers : Value}
    {f_is_sighting : Addr} {od_is_sighting an_is_sighting : Option Addr} {sl_is_sighting : Array (Option Value)} {oc_is_sighting kV_is_sighting dc_is_sighting pm_is_sighting cd_is_sighting ct_is_sighting : Value}
    {f_says : Addr} {od_says an_says : Option Addr} {sl_says : Array (Option Value)} {oc_says kV_says dc_says pm_says cd_says ct_says : Value}
    {f_sighting_of kd_sighting_of : Addr} {td_sighting_of : Tok} {od_sighting_of an_sighting_of : Option Addr} {sl_sighting_of : Array (Option Value)} {oc_sighting_of dc_sighting_of pm_sighting_of cd_sighting_of ct_sighting_of : Value}
    {f_needs : Addr} {od_needs an_needs : Option Addr} {sl_needs : Array (Option Value)} {oc_needs kV_needs dc_needs pm_needs cd_needs ct_needs : Value}
    {f_least_of : Addr} {od_least_of an_least_of : Option Addr} {sl_least_of : Array (Option Value)} {oc_least_of kV_least_of dc_least_of pm_least_of cd_least_of ct_least_of : Value}
    {f_l_begin : Addr} {od_l_begin an_l_begin : Option Addr} {sl_l_begin : Array (Option Value)} {oc_l_begin kV_l_begin dc_l_begin pm_l_begin cd_l_begin ct_l_begin : Value}
    {f_l_draw : Addr} {od_l_draw an_l_draw : Option Addr} {sl_l_draw : Array (Option Value)} {oc_l_draw kV_l_draw dc_l_draw pm_l_draw cd_l_draw ct_l_draw : Value}
    {f_l_pick : Addr} {od_l_pick an_l_pick : Option Addr} {sl_l_pick : Array (Option Value)} {oc_l_pick kV_l_pick dc_l_pick pm_l_pick cd_l_pick ct_l_pick : Value}
    {f_l_mixed : Addr} {od_l_mixed an_l_mixed : Option Addr} {sl_l_mixed : Array (Option Value)} {oc_l_mixed kV_l_mixed dc_l_mixed pm_l_mixed cd_l_mixed ct_l_mixed : Value}
    {f_l_crew : Addr} {od_l_crew an_l_crew : Option Addr} {sl_l_crew : Array (Option Value)} {oc_l_crew kV_l_crew dc_l_crew pm_l_crew cd_l_crew ct_l_crew : Value}
    {f_l_slip : Addr} {od_l_slip an_l_slip : Option Addr} {sl_l_slip : Array (Option Value)} {oc_l_slip kV_l_slip dc_l_slip pm_l_slip cd_l_slip ct_l_slip : Value}
    {f_l_marks : Addr} {od_l_marks an_l_marks : Option Addr} {sl_l_marks : Array (Option Value)} {oc_l_marks kV_l_marks dc_l_marks pm_l_marks cd_l_marks ct_l_marks : Value}
    {f_l_goes : Addr} {od_l_goes an_l_goes : Option Addr} {sl_l_goes : Array (Option Value)} {oc_l_goes kV_l_goes dc_l_goes pm_l_goes cd_l_goes ct_l_goes : Value}
    {f_l_common : Addr} {od_l_common an_l_common : Option Addr} {sl_l_common : Array (Option Value)} {oc_l_common kV_l_common dc_l_common pm_l_common cd_l_common ct_l_common : Value}
    {f_l_multiple : Addr} {od_l_multiple an_l_multiple : Option Addr} {sl_l_multiple : Array (Option Value)} {oc_l_multiple kV_l_multiple dc_l_multiple pm_l_multiple cd_l_multiple ct_l_multiple : Value}
    {f_l_said_by : Addr} {od_l_said_by an_l_said_by : Option Addr} {sl_l_said_by : Array (Option Value)} {oc_l_said_by kV_l_said_by dc_l_said_by pm_l_said_by cd_l_said_by ct_l_said_by : Value}
    {f_l_needed : Addr} {od_l_needed an_l_needed : Option Addr} {sl_l_needed : Array (Option Value)} {oc_l_needed kV_l_needed dc_l_needed pm_l_needed cd_l_needed ct_l_needed : Value}
    {f_l_all_rounds : Addr} {od_l_all_rounds an_l_all_rounds : Option Addr} {sl_l_all_rounds : Array (Option Value)} {oc_l_all_rounds kV_l_all_rounds dc_l_all_rounds pm_l_all_rounds cd_l_all_rounds ct_l_all_rounds : Value}
    {f_l_with : Addr} {od_l_with an_l_with : Option Addr} {sl_l_with : Array (Option Value)} {oc_l_with kV_l_with dc_l_with pm_l_with cd_l_with ct_l_with : Value}
    {f_l_none_less : Addr} {od_l_none_less an_l_none_less : Option Addr} {sl_l_none_less : Array (Option Value)} {oc_l_none_less kV_l_none_less dc_l_none_less pm_l_none_less cd_l_none_less ct_l_none_less : Value}
    {f_law : Addr} {od_law an_law : Option Addr} {sl_law : Array (Option Value)} {oc_law kV_law dc_law pm_law cd_law ct_law : Value}
    {f_Ring_init : Addr} {od_Ring_init an_Ring_init : Option Addr} {sl_Ring_init : Array (Option Value)} {oc_Ring_init kV_Ring_init dc_Ring_init pm_Ring_init cd_Ring_init ct_Ring_init : Value}
    {f_Ring_names : Addr} {od_Ring_names an_Ring_names : Option Addr} {sl_Ring_names : Array (Option Value)} {oc_Ring_names kV_Ring_names dc_Ring_names pm_Ring_names cd_Ring_names ct_Ring_names : Value}
    {f_Ring_slips : Addr} {od_Ring_slips an_Ring_slips : Option Addr} {sl_Ring_slips : Array (Option Value)} {oc_Ring_slips kV_Ring_slips dc_Ring_slips pm_Ring_slips cd_Ring_slips ct_Ring_slips : Value}
    {f_Ring_order : Addr} {od_Ring_order an_Ring_order : Option Addr} {sl_Ring_order : Array (Option Value)} {oc_Ring_order kV_Ring_order dc_Ring_order pm_Ring_order cd_Ring_order ct_Ring_order : Value}
    {f_Ring_next_of : Addr} {od_Ring_next_of an_Ring_next_of : Option Addr} {sl_Ring_next_of : Array (Option Value)} {oc_Ring_next_of kV_Ring_next_of dc_Ring_next_of pm_Ring_next_of cd_Ring_next_of ct_Ring_next_of : Value}
    {f_Ring_counted_on : Addr} {od_Ring_counted_on an_Ring_counted_on : Option Addr} {sl_Ring_counted_on : Array (Option Value)} {oc_Ring_counted_on kV_Ring_counted_on dc_Ring_counted_on pm_Ring_counted_on cd_Ring_counted_on ct_Ring_counted_on : Value}
    {f_Ring_eq : Addr} {od_Ring_eq an_Ring_eq : Option Addr} {sl_Ring_eq : Array (Option Value)} {oc_Ring_eq kV_Ring_eq dc_Ring_eq pm_Ring_eq cd_Ring_eq ct_Ring_eq : Value}
    {tk_LETTERS : Tok}
    {tk_LONGEST_NAME : Tok}
    {tk_FEWEST : Tok}
    {tk_MOST : Tok}
    {tk_ALL : Tok}
    (X : K.In h) (G : h.Ns mainGlobals mg) (hfa : mg "law" = some (.ref fa))
    (aC_Ring : PySem.W.nsIn K mainGlobals "Ring" = some (some (.ref c_Ring)))
    (pg_Ring : PySem.W.plainGet K c_Ring Str.empty = true)
    (hd_Ring : PySem.W.hasDictIn K c_Ring = true)
    (po_Ring : PySem.W.plainOver K c_Ring = true)
    (sa_Ring : PySem.W.findIn K (.ref c_Ring) "__setattr__" = some (some (.builtin "object.__setattr__")))
    (mk_Ring : PySem.W.makesIn K c_Ring = true)
    (ih_Ring : PySem.W.findIn K (.ref c_Ring) "__class__" = some (some (.builtin "object.__class__")))
    (in_Ring : PySem.W.specialIn K (.builtin "object.__class__") "__get__" = some (some (.builtin "getset_descriptor.__get__")))
    (it_Ring : PySem.W.takesIn K (.builtin "object.__class__") = some true)
    (im_Ring : PySem.W.mroIn K c_Ring (.type "object") = some true)
    (kc_Ring : PySem.W.keepIn K (.ref c_Ring) = true)
    (na_Ring__names : PySem.W.findIn K (.ref c_Ring) "_names" = some none)
    (na_Ring__slips : PySem.W.findIn K (.ref c_Ring) "_slips" = some none)
    (a_is_number : PySem.W.nsIn K mainGlobals "is_number" = some (some (.ref f_is_number)))
    (l_is_number : K.lookup f_is_number = some ⟨oc_is_number, od_is_number, .func (PySem.W.fnOf "is_number" "is_number" (defArgs s_is_number) (defBody s_is_number) (defScope s_is_number) .none kV_is_number dc_is_number pm_is_number an_is_number cd_is_number ct_is_number), sl_is_number⟩)
    (c_is_number_ : PySem.W.codeIn K cd_is_number "is_number" = true)
    (k_is_number : PySem.W.keepIn K (.ref f_is_number) = true)
    (a_is_name : PySem.W.nsIn K mainGlobals "is_name" = some (some (.ref f_is_name)))
    (l_is_name : K.lookup f_is_name = some ⟨oc_is_name, od_is_name, .func (PySem.W.fnOf "is_name" "is_name" (defArgs s_is_name) (defBody s_is_name) (defScope s_is_name) .none kV_is_name dc_is_name pm_is_name an_is_name cd_is_name ct_is_name), sl_is_name⟩)
    (c_is_name_ : PySem.W.codeIn K cd_is_name "is_name" = true)
    (k_is_name : PySem.W.keepIn K (.ref f_is_name) = true)
    (a_is_names : PySem.W.nsIn K mainGlobals "is_names" = some (some (.ref f_is_names)))
    (l_is_names : K.lookup f_is_names = some ⟨oc_is_names, od_is_names, .func (PySem.W.fnOf "is_names" "is_names" (defArgs s_is_names) (defBody s_is_names) (defScope s_is_names) .none kV_is_names dc_is_names pm_is_names an_is_names cd_is_names ct_is_names), sl_is_names⟩)
    (c_is_names_ : PySem.W.codeIn K cd_is_names "is_names" = true)
    (k_is_names : PySem.W.keepIn K (.ref f_is_names) = true)
    (a_check_names : PySem.W.nsIn K mainGlobals "check_names" = some (some (.ref f_check_names)))
    (l_check_names : K.lookup f_check_names = some ⟨oc_check_names, od_check_names, .func (PySem.W.fnOf "check_names" "check_names" (defArgs s_check_names) (defBody s_check_names) (defScope s_check_names) .none kV_check_names dc_check_names pm_check_names an_check_names cd_check_names ct_check_names), sl_check_names⟩)
    (c_check_names_ : PySem.W.codeIn K cd_check_names "check_names" = true)
    (k_check_names : PySem.W.keepIn K (.ref f_check_names) = true)
    (a_check_name : PySem.W.nsIn K mainGlobals "check_name" = some (some (.ref f_check_name)))
    (l_check_name : K.lookup f_check_name = some ⟨oc_check_name, od_check_name, .func (PySem.W.fnOf "check_name" "check_name" (defArgs s_check_name) (defBody s_check_name) (defScope s_check_name) .none kV_check_name dc_check_name pm_check_name an_check_name cd_check_name ct_check_name), sl_check_name⟩)
    (c_check_name_ : PySem.W.codeIn K cd_check_name "check_name" = true)
    (k_check_name : PySem.W.keepIn K (.ref f_check_name) = true)
    (a_is_slips : PySem.W.nsIn K mainGlobals "is_slips" = some (some (.ref f_is_slips)))
    (l_is_slips : K.lookup f_is_slips = some ⟨oc_is_slips, od_is_slips, .func (PySem.W.fnOf "is_slips" "is_slips" (defArgs s_is_slips) (defBody s_is_slips) (defScope s_is_slips) .none kV_is_slips dc_is_slips pm_is_slips an_is_slips cd_is_slips ct_is_slips), sl_is_slips⟩)
    (c_is_slips_ : PySem.W.codeIn K cd_is_slips "is_slips" = true)
    (k_is_slips : PySem.W.keepIn K (.ref f_is_slips) = true)
    (a_listed_behind : PySem.W.nsIn K mainGlobals "listed_behind" = some (some (.ref f_listed_behind)))
    (l_listed_behind : K.lookup f_listed_behind = some ⟨oc_listed_behind, od_listed_behind, .func (PySem.W.fnOf "listed_behind" "listed_behind" (defArgs s_listed_behind) (defBody s_listed_behind) (defScope s_listed_behind) .none kV_listed_behind dc_listed_behind pm_listed_behind an_listed_behind cd_listed_behind ct_listed_behind), sl_listed_behind⟩)
    (c_listed_behind_ : PySem.W.codeIn K cd_listed_behind "listed_behind" = true)
    (k_listed_behind : PySem.W.keepIn K (.ref f_listed_behind) = true)
    (a_who_sit : PySem.W.nsIn K mainGlobals "who_sit" = some (some (.ref f_who_sit)))
    (l_who_sit : K.lookup f_who_sit = some ⟨oc_who_sit, od_who_sit, .func (PySem.W.fnOf "who_sit" "who_sit" (defArgs s_who_sit) (defBody s_who_sit) (defScope s_who_sit) .none kV_who_sit dc_who_sit pm_who_sit an_who_sit cd_who_sit ct_who_sit), sl_who_sit⟩)
    (c_who_sit_ : PySem.W.codeIn K cd_who_sit "who_sit" = true)
    (k_who_sit : PySem.W.keepIn K (.ref f_who_sit) = true)
    (a_check_between : PySem.W.nsIn K mainGlobals "check_between" = some (some (.ref f_check_between)))
    (l_check_between : K.lookup f_check_between = some ⟨oc_check_between, od_check_between, .func (PySem.W.fnOf "check_between" "check_between" (defArgs s_check_between) (defBody s_check_between) (defScope s_check_between) .none kV_check_between dc_check_between pm_check_between an_check_between cd_check_between ct_check_between), sl_check_between⟩)
    (c_check_between_ : PySem.W.codeIn K cd_check_between "check_between" = true)
    (k_check_between : PySem.W.keepIn K (.ref f_check_between) = true)
    (a_rests_told : PySem.W.nsIn K mainGlobals "rests_told" = some (some (.ref f_rests_told)))
    (l_rests_told : K.lookup f_rests_told = some ⟨oc_rests_told, od_rests_told, .func (PySem.W.fnOf "rests_told" "rests_told" (defArgs s_rests_told) (defBody s_rests_told) (defScope s_rests_told) .none kV_rests_told dc_rests_told pm_rests_told an_rests_told cd_rests_told ct_rests_told), sl_rests_told⟩)
    (c_rests_told_ : PySem.W.codeIn K cd_rests_told "rests_told" = true)
    (k_rests_told : PySem.W.keepIn K (.ref f_rests_told) = true)
    (a_is_goers : PySem.W.nsIn K mainGlobals "_is_goers" = some (some (.ref f_is_goers)))
    (l_is_goers : K.lookup f_is_goers = some ⟨oc_is_goers, od_is_goers, .func (PySem.W.fnOf "_is_goers" "_is_goers" (defArgs s_is_goers) (defBody s_is_goers) (defScope s_is_goers) .none kV_is_goers dc_is_goers pm_is_goers an_is_goers cd_is_goers ct_is_goers), sl_is_goers⟩)
    (c_is_goers_ : PySem.W.codeIn K cd_is_goers "_is_goers" = true)
    (k_is_goers : PySem.W.keepIn K (.ref f_is_goers) = true)
    (a_is_sighting : PySem.W.nsIn K mainGlobals "is_sighting" = some (some (.ref f_is_sighting)))
    (l_is_sighting : K.lookup f_is_sighting = some ⟨oc_is_sighting, od_is_sighting, .func (PySem.W.fnOf "is_sighting" "is_sighting" (defArgs s_is_sighting) (defBody s_is_sighting) (defScope s_is_sighting) .none kV_is_sighting dc_is_sighting pm_is_sighting an_is_sighting cd_is_sighting ct_is_sighting), sl_is_sighting⟩)
    (c_is_sighting_ : PySem.W.codeIn K cd_is_sighting "is_sighting" = true)
    (k_is_sighting : PySem.W.keepIn K (.ref f_is_sighting) = true)
    (a_says : PySem.W.nsIn K mainGlobals "says" = some (some (.ref f_says)))
    (l_says : K.lookup f_says = some ⟨oc_says, od_says, .func (PySem.W.fnOf "says" "says" (defArgs s_says) (defBody s_says) (defScope s_says) .none kV_says dc_says pm_says an_says cd_says ct_says), sl_says⟩)
    (c_says_ : PySem.W.codeIn K cd_says "says" = true)
    (k_says : PySem.W.keepIn K (.ref f_says) = true)
    (a_sighting_of : PySem.W.nsIn K mainGlobals "sighting_of" = some (some (.ref f_sighting_of)))
    (l_sighting_of : K.lookup f_sighting_of = some ⟨oc_sighting_of, od_sighting_of, .func (PySem.W.fnOf "sighting_of" "sighting_of" (defArgs s_sighting_of) (defBody s_sighting_of) (defScope s_sighting_of) .none (.ref kd_sighting_of) dc_sighting_of pm_sighting_of an_sighting_of cd_sighting_of ct_sighting_of), sl_sighting_of⟩)
    (zd_sighting_of : PySem.W.nsIn K kd_sighting_of "many" = some (some (.int 0 td_sighting_of)))
    (c_sighting_of_ : PySem.W.codeIn K cd_sighting_of "sighting_of" = true)
    (k_sighting_of : PySem.W.keepIn K (.ref f_sighting_of) = true)
    (a_needs : PySem.W.nsIn K mainGlobals "needs" = some (some (.ref f_needs)))
    (l_needs : K.lookup f_needs = some ⟨oc_needs, od_needs, .func (PySem.W.fnOf "needs" "needs" (defArgs s_needs) (defBody s_needs) (defScope s_needs) .none kV_needs dc_needs pm_needs an_needs cd_needs ct_needs), sl_needs⟩)
    (c_needs_ : PySem.W.codeIn K cd_needs "needs" = true)
    (k_needs : PySem.W.keepIn K (.ref f_needs) = true)
    (a_least_of : PySem.W.nsIn K mainGlobals "least_of" = some (some (.ref f_least_of)))
    (l_least_of : K.lookup f_least_of = some ⟨oc_least_of, od_least_of, .func (PySem.W.fnOf "least_of" "least_of" (defArgs s_least_of) (defBody s_least_of) (defScope s_least_of) .none kV_least_of dc_least_of pm_least_of an_least_of cd_least_of ct_least_of), sl_least_of⟩)
    (c_least_of_ : PySem.W.codeIn K cd_least_of "least_of" = true)
    (k_least_of : PySem.W.keepIn K (.ref f_least_of) = true)
    (a_l_begin : PySem.W.nsIn K mainGlobals "_law_begin" = some (some (.ref f_l_begin)))
    (l_l_begin : K.lookup f_l_begin = some ⟨oc_l_begin, od_l_begin, .func (PySem.W.fnOf "_law_begin" "_law_begin" (defArgs s_l_begin) (defBody s_l_begin) (defScope s_l_begin) .none kV_l_begin dc_l_begin pm_l_begin an_l_begin cd_l_begin ct_l_begin), sl_l_begin⟩)
    (c_l_begin_ : PySem.W.codeIn K cd_l_begin "_law_begin" = true)
    (k_l_begin : PySem.W.keepIn K (.ref f_l_begin) = true)
    (a_l_draw : PySem.W.nsIn K mainGlobals "_law_draw" = some (some (.ref f_l_draw)))
    (l_l_draw : K.lookup f_l_draw = some ⟨oc_l_draw, od_l_draw, .func (PySem.W.fnOf "_law_draw" "_law_draw" (defArgs s_l_draw) (defBody s_l_draw) (defScope s_l_draw) .none kV_l_draw dc_l_draw pm_l_draw an_l_draw cd_l_draw ct_l_draw), sl_l_draw⟩)
    (c_l_draw_ : PySem.W.codeIn K cd_l_draw "_law_draw" = true)
    (k_l_draw : PySem.W.keepIn K (.ref f_l_draw) = true)
    (a_l_pick : PySem.W.nsIn K mainGlobals "_law_pick" = some (some (.ref f_l_pick)))
    (l_l_pick : K.lookup f_l_pick = some ⟨oc_l_pick, od_l_pick, .func (PySem.W.fnOf "_law_pick" "_law_pick" (defArgs s_l_pick) (defBody s_l_pick) (defScope s_l_pick) .none kV_l_pick dc_l_pick pm_l_pick an_l_pick cd_l_pick ct_l_pick), sl_l_pick⟩)
    (c_l_pick_ : PySem.W.codeIn K cd_l_pick "_law_pick" = true)
    (k_l_pick : PySem.W.keepIn K (.ref f_l_pick) = true)
    (a_l_mixed : PySem.W.nsIn K mainGlobals "_law_mixed" = some (some (.ref f_l_mixed)))
    (l_l_mixed : K.lookup f_l_mixed = some ⟨oc_l_mixed, od_l_mixed, .func (PySem.W.fnOf "_law_mixed" "_law_mixed" (defArgs s_l_mixed) (defBody s_l_mixed) (defScope s_l_mixed) .none kV_l_mixed dc_l_mixed pm_l_mixed an_l_mixed cd_l_mixed ct_l_mixed), sl_l_mixed⟩)
    (c_l_mixed_ : PySem.W.codeIn K cd_l_mixed "_law_mixed" = true)
    (k_l_mixed : PySem.W.keepIn K (.ref f_l_mixed) = true)
    (a_l_crew : PySem.W.nsIn K mainGlobals "_law_crew" = some (some (.ref f_l_crew)))
    (l_l_crew : K.lookup f_l_crew = some ⟨oc_l_crew, od_l_crew, .func (PySem.W.fnOf "_law_crew" "_law_crew" (defArgs s_l_crew) (defBody s_l_crew) (defScope s_l_crew) .none kV_l_crew dc_l_crew pm_l_crew an_l_crew cd_l_crew ct_l_crew), sl_l_crew⟩)
    (c_l_crew_ : PySem.W.codeIn K cd_l_crew "_law_crew" = true)
    (k_l_crew : PySem.W.keepIn K (.ref f_l_crew) = true)
    (a_l_slip : PySem.W.nsIn K mainGlobals "_law_slip" = some (some (.ref f_l_slip)))
    (l_l_slip : K.lookup f_l_slip = some ⟨oc_l_slip, od_l_slip, .func (PySem.W.fnOf "_law_slip" "_law_slip" (defArgs s_l_slip) (defBody s_l_slip) (defScope s_l_slip) .none kV_l_slip dc_l_slip pm_l_slip an_l_slip cd_l_slip ct_l_slip), sl_l_slip⟩)
    (c_l_slip_ : PySem.W.codeIn K cd_l_slip "_law_slip" = true)
    (k_l_slip : PySem.W.keepIn K (.ref f_l_slip) = true)
    (a_l_marks : PySem.W.nsIn K mainGlobals "_law_marks" = some (some (.ref f_l_marks)))
    (l_l_marks : K.lookup f_l_marks = some ⟨oc_l_marks, od_l_marks, .func (PySem.W.fnOf "_law_marks" "_law_marks" (defArgs s_l_marks) (defBody s_l_marks) (defScope s_l_marks) .none kV_l_marks dc_l_marks pm_l_marks an_l_marks cd_l_marks ct_l_marks), sl_l_marks⟩)
    (c_l_marks_ : PySem.W.codeIn K cd_l_marks "_law_marks" = true)
    (k_l_marks : PySem.W.keepIn K (.ref f_l_marks) = true)
    (a_l_goes : PySem.W.nsIn K mainGlobals "_law_goes" = some (some (.ref f_l_goes)))
    (l_l_goes : K.lookup f_l_goes = some ⟨oc_l_goes, od_l_goes, .func (PySem.W.fnOf "_law_goes" "_law_goes" (defArgs s_l_goes) (defBody s_l_goes) (defScope s_l_goes) .none kV_l_goes dc_l_goes pm_l_goes an_l_goes cd_l_goes ct_l_goes), sl_l_goes⟩)
    (c_l_goes_ : PySem.W.codeIn K cd_l_goes "_law_goes" = true)
    (k_l_goes : PySem.W.keepIn K (.ref f_l_goes) = true)
    (a_l_common : PySem.W.nsIn K mainGlobals "_law_common" = some (some (.ref f_l_common)))
    (l_l_common : K.lookup f_l_common = some ⟨oc_l_common, od_l_common, .func (PySem.W.fnOf "_law_common" "_law_common" (defArgs s_l_common) (defBody s_l_common) (defScope s_l_common) .none kV_l_common dc_l_common pm_l_common an_l_common cd_l_common ct_l_common), sl_l_common⟩)
    (c_l_common_ : PySem.W.codeIn K cd_l_common "_law_common" = true)
    (k_l_common : PySem.W.keepIn K (.ref f_l_common) = true)
    (a_l_multiple : PySem.W.nsIn K mainGlobals "_law_multiple" = some (some (.ref f_l_multiple)))
    (l_l_multiple : K.lookup f_l_multiple = some ⟨oc_l_multiple, od_l_multiple, .func (PySem.W.fnOf "_law_multiple" "_law_multiple" (defArgs s_l_multiple) (defBody s_l_multiple) (defScope s_l_multiple) .none kV_l_multiple dc_l_multiple pm_l_multiple an_l_multiple cd_l_multiple ct_l_multiple), sl_l_multiple⟩)
    (c_l_multiple_ : PySem.W.codeIn K cd_l_multiple "_law_multiple" = true)
    (k_l_multiple : PySem.W.keepIn K (.ref f_l_multiple) = true)
    (a_l_said_by : PySem.W.nsIn K mainGlobals "_law_said_by" = some (some (.ref f_l_said_by)))
    (l_l_said_by : K.lookup f_l_said_by = some ⟨oc_l_said_by, od_l_said_by, .func (PySem.W.fnOf "_law_said_by" "_law_said_by" (defArgs s_l_said_by) (defBody s_l_said_by) (defScope s_l_said_by) .none kV_l_said_by dc_l_said_by pm_l_said_by an_l_said_by cd_l_said_by ct_l_said_by), sl_l_said_by⟩)
    (c_l_said_by_ : PySem.W.codeIn K cd_l_said_by "_law_said_by" = true)
    (k_l_said_by : PySem.W.keepIn K (.ref f_l_said_by) = true)
    (a_l_needed : PySem.W.nsIn K mainGlobals "_law_needed" = some (some (.ref f_l_needed)))
    (l_l_needed : K.lookup f_l_needed = some ⟨oc_l_needed, od_l_needed, .func (PySem.W.fnOf "_law_needed" "_law_needed" (defArgs s_l_needed) (defBody s_l_needed) (defScope s_l_needed) .none kV_l_needed dc_l_needed pm_l_needed an_l_needed cd_l_needed ct_l_needed), sl_l_needed⟩)
    (c_l_needed_ : PySem.W.codeIn K cd_l_needed "_law_needed" = true)
    (k_l_needed : PySem.W.keepIn K (.ref f_l_needed) = true)
    (a_l_all_rounds : PySem.W.nsIn K mainGlobals "_law_all_rounds" = some (some (.ref f_l_all_rounds)))
    (l_l_all_rounds : K.lookup f_l_all_rounds = some ⟨oc_l_all_rounds, od_l_all_rounds, .func (PySem.W.fnOf "_law_all_rounds" "_law_all_rounds" (defArgs s_l_all_rounds) (defBody s_l_all_rounds) (defScope s_l_all_rounds) .none kV_l_all_rounds dc_l_all_rounds pm_l_all_rounds an_l_all_rounds cd_l_all_rounds ct_l_all_rounds), sl_l_all_rounds⟩)
    (c_l_all_rounds_ : PySem.W.codeIn K cd_l_all_rounds "_law_all_rounds" = true)
    (k_l_all_rounds : PySem.W.keepIn K (.ref f_l_all_rounds) = true)
    (a_l_with : PySem.W.nsIn K mainGlobals "_law_with" = some (some (.ref f_l_with)))
    (l_l_with : K.lookup f_l_with = some ⟨oc_l_with, od_l_with, .func (PySem.W.fnOf "_law_with" "_law_with" (defArgs s_l_with) (defBody s_l_with) (defScope s_l_with) .none kV_l_with dc_l_with pm_l_with an_l_with cd_l_with ct_l_with), sl_l_with⟩)
    (c_l_with_ : PySem.W.codeIn K cd_l_with "_law_with" = true)
    (k_l_with : PySem.W.keepIn K (.ref f_l_with) = true)
    (a_l_none_less : PySem.W.nsIn K mainGlobals "_law_none_less" = some (some (.ref f_l_none_less)))
    (l_l_none_less : K.lookup f_l_none_less = some ⟨oc_l_none_less, od_l_none_less, .func (PySem.W.fnOf "_law_none_less" "_law_none_less" (defArgs s_l_none_less) (defBody s_l_none_less) (defScope s_l_none_less) .none kV_l_none_less dc_l_none_less pm_l_none_less an_l_none_less cd_l_none_less ct_l_none_less), sl_l_none_less⟩)
    (c_l_none_less_ : PySem.W.codeIn K cd_l_none_less "_law_none_less" = true)
    (k_l_none_less : PySem.W.keepIn K (.ref f_l_none_less) = true)
    (a_law : PySem.W.nsIn K mainGlobals "law" = some (some (.ref f_law)))
    (l_law : K.lookup f_law = some ⟨oc_law, od_law, .func (PySem.W.fnOf "law" "law" (defArgs s_law) (defBody s_law) (defScope s_law) .none kV_law dc_law pm_law an_law cd_law ct_law), sl_law⟩)
    (c_law_ : PySem.W.codeIn K cd_law "law" = true)
    (k_law : PySem.W.keepIn K (.ref f_law) = true)
    (a_Ring_init : PySem.W.findIn K (.ref c_Ring) "__init__" = some (some (.ref f_Ring_init)))
    (i_Ring_init : PySem.W.isFn K (.ref f_Ring_init) = true)
    (l_Ring_init : K.lookup f_Ring_init = some ⟨oc_Ring_init, od_Ring_init, .func (PySem.W.fnOf "__init__" "Ring.__init__" (defArgs s_Ring_init) (defBody s_Ring_init) (defScope s_Ring_init) .none kV_Ring_init dc_Ring_init pm_Ring_init an_Ring_init cd_Ring_init ct_Ring_init), sl_Ring_init⟩)
    (c_Ring_init_ : PySem.W.codeIn K cd_Ring_init "Ring.__init__" = true)
    (k_Ring_init : PySem.W.keepIn K (.ref f_Ring_init) = true)
    (a_Ring_names : PySem.W.findIn K (.ref c_Ring) "names" = some (some (.ref f_Ring_names)))
    (i_Ring_names : PySem.W.isFn K (.ref f_Ring_names) = true)
    (l_Ring_names : K.lookup f_Ring_names = some ⟨oc_Ring_names, od_Ring_names, .func (PySem.W.fnOf "names" "Ring.names" (defArgs s_Ring_names) (defBody s_Ring_names) (defScope s_Ring_names) .none kV_Ring_names dc_Ring_names pm_Ring_names an_Ring_names cd_Ring_names ct_Ring_names), sl_Ring_names⟩)
    (c_Ring_names_ : PySem.W.codeIn K cd_Ring_names "Ring.names" = true)
    (k_Ring_names : PySem.W.keepIn K (.ref f_Ring_names) = true)
    (a_Ring_slips : PySem.W.findIn K (.ref c_Ring) "slips" = some (some (.ref f_Ring_slips)))
    (i_Ring_slips : PySem.W.isFn K (.ref f_Ring_slips) = true)
    (l_Ring_slips : K.lookup f_Ring_slips = some ⟨oc_Ring_slips, od_Ring_slips, .func (PySem.W.fnOf "slips" "Ring.slips" (defArgs s_Ring_slips) (defBody s_Ring_slips) (defScope s_Ring_slips) .none kV_Ring_slips dc_Ring_slips pm_Ring_slips an_Ring_slips cd_Ring_slips ct_Ring_slips), sl_Ring_slips⟩)
    (c_Ring_slips_ : PySem.W.codeIn K cd_Ring_slips "Ring.slips" = true)
    (k_Ring_slips : PySem.W.keepIn K (.ref f_Ring_slips) = true)
    (a_Ring_order : PySem.W.findIn K (.ref c_Ring) "order" = some (some (.ref f_Ring_order)))
    (i_Ring_order : PySem.W.isFn K (.ref f_Ring_order) = true)
    (l_Ring_order : K.lookup f_Ring_order = some ⟨oc_Ring_order, od_Ring_order, .func (PySem.W.fnOf "order" "Ring.order" (defArgs s_Ring_order) (defBody s_Ring_order) (defScope s_Ring_order) .none kV_Ring_order dc_Ring_order pm_Ring_order an_Ring_order cd_Ring_order ct_Ring_order), sl_Ring_order⟩)
    (c_Ring_order_ : PySem.W.codeIn K cd_Ring_order "Ring.order" = true)
    (k_Ring_order : PySem.W.keepIn K (.ref f_Ring_order) = true)
    (a_Ring_next_of : PySem.W.findIn K (.ref c_Ring) "next_of" = some (some (.ref f_Ring_next_of)))
    (i_Ring_next_of : PySem.W.isFn K (.ref f_Ring_next_of) = true)
    (l_Ring_next_of : K.lookup f_Ring_next_of = some ⟨oc_Ring_next_of, od_Ring_next_of, .func (PySem.W.fnOf "next_of" "Ring.next_of" (defArgs s_Ring_next_of) (defBody s_Ring_next_of) (defScope s_Ring_next_of) .none kV_Ring_next_of dc_Ring_next_of pm_Ring_next_of an_Ring_next_of cd_Ring_next_of ct_Ring_next_of), sl_Ring_next_of⟩)
    (c_Ring_next_of_ : PySem.W.codeIn K cd_Ring_next_of "Ring.next_of" = true)
    (k_Ring_next_of : PySem.W.keepIn K (.ref f_Ring_next_of) = true)
    (a_Ring_counted_on : PySem.W.findIn K (.ref c_Ring) "_counted_on" = some (some (.ref f_Ring_counted_on)))
    (i_Ring_counted_on : PySem.W.isFn K (.ref f_Ring_counted_on) = true)
    (l_Ring_counted_on : K.lookup f_Ring_counted_on = some ⟨oc_Ring_counted_on, od_Ring_counted_on, .func (PySem.W.fnOf "_counted_on" "Ring._counted_on" (defArgs s_Ring_counted_on) (defBody s_Ring_counted_on) (defScope s_Ring_counted_on) .none kV_Ring_counted_on dc_Ring_counted_on pm_Ring_counted_on an_Ring_counted_on cd_Ring_counted_on ct_Ring_counted_on), sl_Ring_counted_on⟩)
    (c_Ring_counted_on_ : PySem.W.codeIn K cd_Ring_counted_on "Ring._counted_on" = true)
    (k_Ring_counted_on : PySem.W.keepIn K (.ref f_Ring_counted_on) = true)
    (a_Ring_eq : PySem.W.findIn K (.ref c_Ring) "__eq__" = some (some (.ref f_Ring_eq)))
    (i_Ring_eq : PySem.W.isFn K (.ref f_Ring_eq) = true)
    (l_Ring_eq : K.lookup f_Ring_eq = some ⟨oc_Ring_eq, od_Ring_eq, .func (PySem.W.fnOf "__eq__" "Ring.__eq__" (defArgs s_Ring_eq) (defBody s_Ring_eq) (defScope s_Ring_eq) .none kV_Ring_eq dc_Ring_eq pm_Ring_eq an_Ring_eq cd_Ring_eq ct_Ring_eq), sl_Ring_eq⟩)
    (c_Ring_eq_ : PySem.W.codeIn K cd_Ring_eq "Ring.__eq__" = true)
    (k_Ring_eq : PySem.W.keepIn K (.ref f_Ring_eq) = true)
    (z_LETTERS : PySem.W.nsIn K mainGlobals "LETTERS" = some (some (.str "abcdefghijklmnopqrstuvwxyz" tk_LETTERS)))
    (z_LONGEST_NAME : PySem.W.nsIn K mainGlobals "LONGEST_NAME" = some (some (.int 8 tk_LONGEST_NAME)))
    (z_FEWEST : PySem.W.nsIn K mainGlobals "FEWEST" = some (some (.int 2 tk_FEWEST)))
    (z_MOST : PySem.W.nsIn K mainGlobals "MOST" = some (some (.int 12 tk_MOST)))
    (z_ALL : PySem.W.nsIn K mainGlobals "ALL" = some (some (.int 0 tk_ALL)))
    (zm_abs : PySem.W.nsIn K mainGlobals "abs" = some none)
    (zm_all : PySem.W.nsIn K mainGlobals "all" = some none)
    (zm_bool : PySem.W.nsIn K mainGlobals "bool" = some none)
    (zm_dict : PySem.W.nsIn K mainGlobals "dict" = some none)
    (zm_enumerate : PySem.W.nsIn K mainGlobals "enumerate" = some none)
    (zm_int : PySem.W.nsIn K mainGlobals "int" = some none)
    (zm_isinstance : PySem.W.nsIn K mainGlobals "isinstance" = some none)
    (zm_len : PySem.W.nsIn K mainGlobals "len" = some none)
    (zm_list : PySem.W.nsIn K mainGlobals "list" = some none)
    (zm_min : PySem.W.nsIn K mainGlobals "min" = some none)
    (zm_range : PySem.W.nsIn K mainGlobals "range" = some none)
    (zm_repr : PySem.W.nsIn K mainGlobals "repr" = some none)
    (zm_set : PySem.W.nsIn K mainGlobals "set" = some none)
    (zm_str : PySem.W.nsIn K mainGlobals "str" = some none)
    (zm_tuple : PySem.W.nsIn K mainGlobals "tuple" = some none)
    (zm_zip : PySem.W.nsIn K mainGlobals "zip" = some none)
    (zi_lcm : PySem.W.nsIn K mainGlobals "lcm" = some (some (.builtin "math.lcm"))) :
    ∃ fd : FuncData, (∀ (s : Shared) (v : Value), BindsTo s fd ⟨[v], []⟩ [("_law_script", v)]) ∧ ∀ base : Heap, K.In base → base.Ns mainGlobals mg → FG l.prog w K mg base 8 fa fd ["_law_script"] (GL.spLaw K) := by
  obtain rfl : f_law = fa := (Value.ref.inj (Option.some.inj (hfa.symm.trans (PySem.W.mg_of X G a_law)))).symm
  have F_is_number := fun_mk (st := s_is_number) l_is_number c_is_number_ k_is_number
  have F_is_name := fun_mk (st := s_is_name) l_is_name c_is_name_ k_is_name
  have F_is_names := fun_mk (st := s_is_names) l_is_names c_is_names_ k_is_names
  have F_check_names := fun_mk (st := s_check_names) l_check_names c_check_names_ k_check_names
  have F_check_name := fun_mk (st := s_check_name) l_check_name c_check_name_ k_check_name
  have F_is_slips := fun_mk (st := s_is_slips) l_is_slips c_is_slips_ k_is_slips
  have F_listed_behind := fun_mk (st := s_listed_behind) l_listed_behind c_listed_behind_ k_listed_behind
  have F_who_sit := fun_mk (st := s_who_sit) l_who_sit c_who_sit_ k_who_sit
  have F_check_between := fun_mk (st := s_check_between) l_check_between c_check_between_ k_check_between
  have F_rests_told := fun_mk (st := s_rests_told) l_rests_told c_rests_told_ k_rests_told
  have F_is_goers := fun_mk (st := s_is_goers) l_is_goers c_is_goers_ k_is_goers
  have F_is_sighting := fun_mk (st := s_is_sighting) l_is_sighting c_is_sighting_ k_is_sighting
  have F_says := fun_mk (st := s_says) l_says c_says_ k_says
  have F_sighting_of := fun_mk (st := s_sighting_of) l_sighting_of c_sighting_of_ k_sighting_of
  have F_needs := fun_mk (st := s_needs) l_needs c_needs_ k_needs
  have F_least_of := fun_mk (st := s_least_of) l_least_of c_least_of_ k_least_of
  have F_l_begin := fun_mk (st := s_l_begin) l_l_begin c_l_begin_ k_l_begin
  have F_l_draw := fun_mk (st := s_l_draw) l_l_draw c_l_draw_ k_l_draw
  have F_l_pick := fun_mk (st := s_l_pick) l_l_pick c_l_pick_ k_l_pick
  have F_l_mixed := fun_mk (st := s_l_mixed) l_l_mixed c_l_mixed_ k_l_mixed
  have F_l_crew := fun_mk (st := s_l_crew) l_l_crew c_l_crew_ k_l_crew
  have F_l_slip := fun_mk (st := s_l_slip) l_l_slip c_l_slip_ k_l_slip
  have F_l_marks := fun_mk (st := s_l_marks) l_l_marks c_l_marks_ k_l_marks
  have F_l_goes := fun_mk (st := s_l_goes) l_l_goes c_l_goes_ k_l_goes
  have F_l_common := fun_mk (st := s_l_common) l_l_common c_l_common_ k_l_common
  have F_l_multiple := fun_mk (st := s_l_multiple) l_l_multiple c_l_multiple_ k_l_multiple
  have F_l_said_by := fun_mk (st := s_l_said_by) l_l_said_by c_l_said_by_ k_l_said_by
  have F_l_needed := fun_mk (st := s_l_needed) l_l_needed c_l_needed_ k_l_needed
  have F_l_all_rounds := fun_mk (st := s_l_all_rounds) l_l_all_rounds c_l_all_rounds_ k_l_all_rounds
  have F_l_with := fun_mk (st := s_l_with) l_l_with c_l_with_ k_l_with
  have F_l_none_less := fun_mk (st := s_l_none_less) l_l_none_less c_l_none_less_ k_l_none_less
  have F_law := fun_mk (st := s_law) l_law c_law_ k_law
  have F_Ring_init := fun_mk (st := s_Ring_init) l_Ring_init c_Ring_init_ k_Ring_init
  have F_Ring_names := fun_mk (st := s_Ring_names) l_Ring_names c_Ring_names_ k_Ring_names
  have F_Ring_slips := fun_mk (st := s_Ring_slips) l_Ring_slips c_Ring_slips_ k_Ring_slips
  have F_Ring_order := fun_mk (st := s_Ring_order) l_Ring_order c_Ring_order_ k_Ring_order
  have F_Ring_next_of := fun_mk (st := s_Ring_next_of) l_Ring_next_of c_Ring_next_of_ k_Ring_next_of
  have F_Ring_counted_on := fun_mk (st := s_Ring_counted_on) l_Ring_counted_on c_Ring_counted_on_ k_Ring_counted_on
  have F_Ring_eq := fun_mk (st := s_Ring_eq) l_Ring_eq c_Ring_eq_ k_Ring_eq
  let T : Tx K mg := {
    is_Ring := ⟨⟨pg_Ring, hd_Ring, po_Ring, sa_Ring⟩, ih_Ring, in_Ring, it_Ring, im_Ring, if_pos (beq_self_eq_true _)⟩,
    kd_sighting_of := ⟨_, kbn_one zd_sighting_of ⟨_, rfl⟩ fun us ws l1 l2 => match us, ws, l1, l2 with | [_, _], [_], _, _ => ⟨_, _, _, _, _, _, rfl, rfl, rfl⟩⟩,
    a_Ring := c_Ring,
    cl_Ring := ⟨pg_Ring, hd_Ring, po_Ring, sa_Ring⟩,
    g_Ring := PySem.W.mg_of X G aC_Ring,
    n_Ring__names := na_Ring__names,
    n_Ring__slips := na_Ring__slips,
    a_is_number := f_is_number,
    fd_is_number := PySem.W.fnOf "is_number" "is_number" (defArgs s_is_number) (defBody s_is_number) (defScope s_is_number) .none kV_is_number dc_is_number pm_is_number an_is_number cd_is_number ct_is_number,
    F_is_number := F_is_number,
    b_is_number := F_is_number.binds (ps := P_is_number) fun _ _ _ _ _ _ us hl => match us, hl with | [_], _ => rfl,
    g_is_number := PySem.W.mg_of X G a_is_number,
    a_is_name := f_is_name,
    fd_is_name := PySem.W.fnOf "is_name" "is_name" (defArgs s_is_name) (defBody s_is_name) (defScope s_is_name) .none kV_is_name dc_is_name pm_is_name an_is_name cd_is_name ct_is_name,
    F_is_name := F_is_name,
    b_is_name := F_is_name.binds (ps := P_is_name) fun _ _ _ _ _ _ us hl => match us, hl with | [_], _ => rfl,
    g_is_name := PySem.W.mg_of X G a_is_name,
    a_is_names := f_is_names,
    fd_is_names := PySem.W.fnOf "is_names" "is_names" (defArgs s_is_names) (defBody s_is_names) (defScope s_is_names) .none kV_is_names dc_is_names pm_is_names an_is_names cd_is_names ct_is_names,
    F_is_names := F_is_names,
    b_is_names := F_is_names.binds (ps := P_is_names) fun _ _ _ _ _ _ us hl => match us, hl with | [_], _ => rfl,
    g_is_names := PySem.W.mg_of X G a_is_names,
    a_check_names := f_check_names,
    fd_check_names := PySem.W.fnOf "check_names" "check_names" (defArgs s_check_names) (defBody s_check_names) (defScope s_check_names) .none kV_check_names dc_check_names pm_check_names an_check_names cd_check_names ct_check_names,
    F_check_names := F_check_names,
    b_check_names := F_check_names.binds (ps := P_check_names) fun _ _ _ _ _ _ us hl => match us, hl with | [_], _ => rfl,
    g_check_names := PySem.W.mg_of X G a_check_names,
    a_check_name := f_check_name,
    fd_check_name := PySem.W.fnOf "check_name" "check_name" (defArgs s_check_name) (defBody s_check_name) (defScope s_check_name) .none kV_check_name dc_check_name pm_check_name an_check_name cd_check_name ct_check_name,
    F_check_name := F_check_name,
    b_check_name := F_check_name.binds (ps := P_check_name) fun _ _ _ _ _ _ us hl => match us, hl with | [_, _], _ => rfl,
    g_check_name := PySem.W.mg_of X G a_check_name,
    a_is_slips := f_is_slips,
    fd_is_slips := PySem.W.fnOf "is_slips" "is_slips" (defArgs s_is_slips) (defBody s_is_slips) (defScope s_is_slips) .none kV_is_slips dc_is_slips pm_is_slips an_is_slips cd_is_slips ct_is_slips,
    F_is_slips := F_is_slips,
    b_is_slips := F_is_slips.binds (ps := P_is_slips) fun _ _ _ _ _ _ us hl => match us, hl with | [_, _], _ => rfl,
    g_is_slips := PySem.W.mg_of X G a_is_slips,
    a_listed_behind := f_listed_behind,
    fd_listed_behind := PySem.W.fnOf "listed_behind" "listed_behind" (defArgs s_listed_behind) (defBody s_listed_behind) (defScope s_listed_behind) .none kV_listed_behind dc_listed_behind pm_listed_behind an_listed_behind cd_listed_behind ct_listed_behind,
    F_listed_behind := F_listed_behind,
    b_listed_behind := F_listed_behind.binds (ps := P_listed_behind) fun _ _ _ _ _ _ us hl => match us, hl with | [_, _], _ => rfl,
    g_listed_behind := PySem.W.mg_of X G a_listed_behind,
    a_who_sit := f_who_sit,
    fd_who_sit := PySem.W.fnOf "who_sit" "who_sit" (defArgs s_who_sit) (defBody s_who_sit) (defScope s_who_sit) .none kV_who_sit dc_who_sit pm_who_sit an_who_sit cd_who_sit ct_who_sit,
    F_who_sit := F_who_sit,
    b_who_sit := F_who_sit.binds (ps := P_who_sit) fun _ _ _ _ _ _ us hl => match us, hl with | [_, _], _ => rfl,
    g_who_sit := PySem.W.mg_of X G a_who_sit,
    a_check_between := f_check_between,
    fd_check_between := PySem.W.fnOf "check_between" "check_between" (defArgs s_check_between) (defBody s_check_between) (defScope s_check_between) .none kV_check_between dc_check_between pm_check_between an_check_between cd_check_between ct_check_between,
    F_check_between := F_check_between,
    b_check_between := F_check_between.binds (ps := P_check_between) fun _ _ _ _ _ _ us hl => match us, hl with | [_, _, _], _ => rfl,
    g_check_between := PySem.W.mg_of X G a_check_between,
    a_rests_told := f_rests_told,
    fd_rests_told := PySem.W.fnOf "rests_told" "rests_told" (defArgs s_rests_told) (defBody s_rests_told) (defScope s_rests_told) .none kV_rests_told dc_rests_told pm_rests_told an_rests_told cd_rests_told ct_rests_told,
    F_rests_told := F_rests_told,
    b_rests_told := F_rests_told.binds (ps := P_rests_told) fun _ _ _ _ _ _ us hl => match us, hl with | [_, _], _ => rfl,
    g_rests_told := PySem.W.mg_of X G a_rests_told,
    a_is_goers := f_is_goers,
    fd_is_goers := PySem.W.fnOf "_is_goers" "_is_goers" (defArgs s_is_goers) (defBody s_is_goers) (defScope s_is_goers) .none kV_is_goers dc_is_goers pm_is_goers an_is_goers cd_is_goers ct_is_goers,
    F_is_goers := F_is_goers,
    b_is_goers := F_is_goers.binds (ps := P_is_goers) fun _ _ _ _ _ _ us hl => match us, hl with | [_, _], _ => rfl,
    g_is_goers := PySem.W.mg_of X G a_is_goers,
    a_is_sighting := f_is_sighting,
    fd_is_sighting := PySem.W.fnOf "is_sighting" "is_sighting" (defArgs s_is_sighting) (defBody s_is_sighting) (defScope s_is_sighting) .none kV_is_sighting dc_is_sighting pm_is_sighting an_is_sighting cd_is_sighting ct_is_sighting,
    F_is_sighting := F_is_sighting,
    b_is_sighting := F_is_sighting.binds (ps := P_is_sighting) fun _ _ _ _ _ _ us hl => match us, hl with | [_], _ => rfl,
    g_is_sighting := PySem.W.mg_of X G a_is_sighting,
    a_says := f_says,
    fd_says := PySem.W.fnOf "says" "says" (defArgs s_says) (defBody s_says) (defScope s_says) .none kV_says dc_says pm_says an_says cd_says ct_says,
    F_says := F_says,
    b_says := F_says.binds (ps := P_says) fun _ _ _ _ _ _ us hl => match us, hl with | [_], _ => rfl,
    g_says := PySem.W.mg_of X G a_says,
    a_sighting_of := f_sighting_of,
    fd_sighting_of := PySem.W.fnOf "sighting_of" "sighting_of" (defArgs s_sighting_of) (defBody s_sighting_of) (defScope s_sighting_of) .none (.ref kd_sighting_of) dc_sighting_of pm_sighting_of an_sighting_of cd_sighting_of ct_sighting_of,
    F_sighting_of := F_sighting_of,
    g_sighting_of := PySem.W.mg_of X G a_sighting_of,
    a_needs := f_needs,
    fd_needs := PySem.W.fnOf "needs" "needs" (defArgs s_needs) (defBody s_needs) (defScope s_needs) .none kV_needs dc_needs pm_needs an_needs cd_needs ct_needs,
    F_needs := F_needs,
    b_needs := F_needs.binds (ps := P_needs) fun _ _ _ _ _ _ us hl => match us, hl with | [_], _ => rfl,
    g_needs := PySem.W.mg_of X G a_needs,
    a_least_of := f_least_of,
    fd_least_of := PySem.W.fnOf "least_of" "least_of" (defArgs s_least_of) (defBody s_least_of) (defScope s_least_of) .none kV_least_of dc_least_of pm_least_of an_least_of cd_least_of ct_least_of,
    F_least_of := F_least_of,
    b_least_of := F_least_of.binds (ps := P_least_of) fun _ _ _ _ _ _ us hl => match us, hl with | [_], _ => rfl,
    g_least_of := PySem.W.mg_of X G a_least_of,
    kb_least_of := F_least_of.kbp [0] fun _ _ _ _ _ _ ws l => match ws, l with | [_], _ => rfl,
    a_l_begin := f_l_begin,
    fd_l_begin := PySem.W.fnOf "_law_begin" "_law_begin" (defArgs s_l_begin) (defBody s_l_begin) (defScope s_l_begin) .none kV_l_begin dc_l_begin pm_l_begin an_l_begin cd_l_begin ct_l_begin,
    F_l_begin := F_l_begin,
    b_l_begin := F_l_begin.binds (ps := P_l_begin) fun _ _ _ _ _ _ us hl => match us, hl with | [_], _ => rfl,
    g_l_begin := PySem.W.mg_of X G a_l_begin,
    a_l_draw := f_l_draw,
    fd_l_draw := PySem.W.fnOf "_law_draw" "_law_draw" (defArgs s_l_draw) (defBody s_l_draw) (defScope s_l_draw) .none kV_l_draw dc_l_draw pm_l_draw an_l_draw cd_l_draw ct_l_draw,
    F_l_draw := F_l_draw,
    b_l_draw := F_l_draw.binds (ps := P_l_draw) fun _ _ _ _ _ _ us hl => match us, hl with | [_, _], _ => rfl,
    g_l_draw := PySem.W.mg_of X G a_l_draw,
    a_l_pick := f_l_pick,
    fd_l_pick := PySem.W.fnOf "_law_pick" "_law_pick" (defArgs s_l_pick) (defBody s_l_pick) (defScope s_l_pick) .none kV_l_pick dc_l_pick pm_l_pick an_l_pick cd_l_pick ct_l_pick,
    F_l_pick := F_l_pick,
    b_l_pick := F_l_pick.binds (ps := P_l_pick) fun _ _ _ _ _ _ us hl => match us, hl with | [_, _], _ => rfl,
    g_l_pick := PySem.W.mg_of X G a_l_pick,
    a_l_mixed := f_l_mixed,
    fd_l_mixed := PySem.W.fnOf "_law_mixed" "_law_mixed" (defArgs s_l_mixed) (defBody s_l_mixed) (defScope s_l_mixed) .none kV_l_mixed dc_l_mixed pm_l_mixed an_l_mixed cd_l_mixed ct_l_mixed,
    F_l_mixed := F_l_mixed,
    b_l_mixed := F_l_mixed.binds (ps := P_l_mixed) fun _ _ _ _ _ _ us hl => match us, hl with | [_, _], _ => rfl,
    g_l_mixed := PySem.W.mg_of X G a_l_mixed,
    a_l_crew := f_l_crew,
    fd_l_crew := PySem.W.fnOf "_law_crew" "_law_crew" (defArgs s_l_crew) (defBody s_l_crew) (defScope s_l_crew) .none kV_l_crew dc_l_crew pm_l_crew an_l_crew cd_l_crew ct_l_crew,
    F_l_crew := F_l_crew,
    b_l_crew := F_l_crew.binds (ps := P_l_crew) fun _ _ _ _ _ _ us hl => match us, hl with | [_, _], _ => rfl,
    g_l_crew := PySem.W.mg_of X G a_l_crew,
    a_l_slip := f_l_slip,
    fd_l_slip := PySem.W.fnOf "_law_slip" "_law_slip" (defArgs s_l_slip) (defBody s_l_slip) (defScope s_l_slip) .none kV_l_slip dc_l_slip pm_l_slip an_l_slip cd_l_slip ct_l_slip,
    F_l_slip := F_l_slip,
    b_l_slip := F_l_slip.binds (ps := P_l_slip) fun _ _ _ _ _ _ us hl => match us, hl with | [_], _ => rfl,
    g_l_slip := PySem.W.mg_of X G a_l_slip,
    a_l_marks := f_l_marks,
    fd_l_marks := PySem.W.fnOf "_law_marks" "_law_marks" (defArgs s_l_marks) (defBody s_l_marks) (defScope s_l_marks) .none kV_l_marks dc_l_marks pm_l_marks an_l_marks cd_l_marks ct_l_marks,
    F_l_marks := F_l_marks,
    b_l_marks := F_l_marks.binds (ps := P_l_marks) fun _ _ _ _ _ _ us hl => match us, hl with | [_, _], _ => rfl,
    g_l_marks := PySem.W.mg_of X G a_l_marks,
    a_l_goes := f_l_goes,
    fd_l_goes := PySem.W.fnOf "_law_goes" "_law_goes" (defArgs s_l_goes) (defBody s_l_goes) (defScope s_l_goes) .none kV_l_goes dc_l_goes pm_l_goes an_l_goes cd_l_goes ct_l_goes,
    F_l_goes := F_l_goes,
    b_l_goes := F_l_goes.binds (ps := P_l_goes) fun _ _ _ _ _ _ us hl => match us, hl with | [_, _, _], _ => rfl,
    g_l_goes := PySem.W.mg_of X G a_l_goes,
    a_l_common := f_l_common,
    fd_l_common := PySem.W.fnOf "_law_common" "_law_common" (defArgs s_l_common) (defBody s_l_common) (defScope s_l_common) .none kV_l_common dc_l_common pm_l_common an_l_common cd_l_common ct_l_common,
    F_l_common := F_l_common,
    b_l_common := F_l_common.binds (ps := P_l_common) fun _ _ _ _ _ _ us hl => match us, hl with | [_, _], _ => rfl,
    g_l_common := PySem.W.mg_of X G a_l_common,
    a_l_multiple := f_l_multiple,
    fd_l_multiple := PySem.W.fnOf "_law_multiple" "_law_multiple" (defArgs s_l_multiple) (defBody s_l_multiple) (defScope s_l_multiple) .none kV_l_multiple dc_l_multiple pm_l_multiple an_l_multiple cd_l_multiple ct_l_multiple,
    F_l_multiple := F_l_multiple,
    b_l_multiple := F_l_multiple.binds (ps := P_l_multiple) fun _ _ _ _ _ _ us hl => match us, hl with | [_, _], _ => rfl,
    g_l_multiple := PySem.W.mg_of X G a_l_multiple,
    a_l_said_by := f_l_said_by,
    fd_l_said_by := PySem.W.fnOf "_law_said_by" "_law_said_by" (defArgs s_l_said_by) (defBody s_l_said_by) (defScope s_l_said_by) .none kV_l_said_by dc_l_said_by pm_l_said_by an_l_said_by cd_l_said_by ct_l_said_by,
    F_l_said_by := F_l_said_by,
    b_l_said_by := F_l_said_by.binds (ps := P_l_said_by) fun _ _ _ _ _ _ us hl => match us, hl with | [_, _], _ => rfl,
    g_l_said_by := PySem.W.mg_of X G a_l_said_by,
    a_l_needed := f_l_needed,
    fd_l_needed := PySem.W.fnOf "_law_needed" "_law_needed" (defArgs s_l_needed) (defBody s_l_needed) (defScope s_l_needed) .none kV_l_needed dc_l_needed pm_l_needed an_l_needed cd_l_needed ct_l_needed,
    F_l_needed := F_l_needed,
    b_l_needed := F_l_needed.binds (ps := P_l_needed) fun _ _ _ _ _ _ us hl => match us, hl with | [_, _], _ => rfl,
    g_l_needed := PySem.W.mg_of X G a_l_needed,
    a_l_all_rounds := f_l_all_rounds,
    fd_l_all_rounds := PySem.W.fnOf "_law_all_rounds" "_law_all_rounds" (defArgs s_l_all_rounds) (defBody s_l_all_rounds) (defScope s_l_all_rounds) .none kV_l_all_rounds dc_l_all_rounds pm_l_all_rounds an_l_all_rounds cd_l_all_rounds ct_l_all_rounds,
    F_l_all_rounds := F_l_all_rounds,
    b_l_all_rounds := F_l_all_rounds.binds (ps := P_l_all_rounds) fun _ _ _ _ _ _ us hl => match us, hl with | [_, _], _ => rfl,
    g_l_all_rounds := PySem.W.mg_of X G a_l_all_rounds,
    a_l_with := f_l_with,
    fd_l_with := PySem.W.fnOf "_law_with" "_law_with" (defArgs s_l_with) (defBody s_l_with) (defScope s_l_with) .none kV_l_with dc_l_with pm_l_with an_l_with cd_l_with ct_l_with,
    F_l_with := F_l_with,
    b_l_with := F_l_with.binds (ps := P_l_with) fun _ _ _ _ _ _ us hl => match us, hl with | [_, _, _], _ => rfl,
    g_l_with := PySem.W.mg_of X G a_l_with,
    a_l_none_less := f_l_none_less,
    fd_l_none_less := PySem.W.fnOf "_law_none_less" "_law_none_less" (defArgs s_l_none_less) (defBody s_l_none_less) (defScope s_l_none_less) .none kV_l_none_less dc_l_none_less pm_l_none_less an_l_none_less cd_l_none_less ct_l_none_less,
    F_l_none_less := F_l_none_less,
    b_l_none_less := F_l_none_less.binds (ps := P_l_none_less) fun _ _ _ _ _ _ us hl => match us, hl with | [_, _, _, _], _ => rfl,
    g_l_none_less := PySem.W.mg_of X G a_l_none_less,
    a_law := f_law,
    fd_law := PySem.W.fnOf "law" "law" (defArgs s_law) (defBody s_law) (defScope s_law) .none kV_law dc_law pm_law an_law cd_law ct_law,
    F_law := F_law,
    b_law := F_law.binds (ps := P_law) fun _ _ _ _ _ _ us hl => match us, hl with | [_], _ => rfl,
    g_law := PySem.W.mg_of X G a_law,
    a_Ring_init := f_Ring_init,
    fd_Ring_init := PySem.W.fnOf "__init__" "Ring.__init__" (defArgs s_Ring_init) (defBody s_Ring_init) (defScope s_Ring_init) .none kV_Ring_init dc_Ring_init pm_Ring_init an_Ring_init cd_Ring_init ct_Ring_init,
    F_Ring_init := F_Ring_init,
    b_Ring_init := F_Ring_init.binds (ps := P_Ring_init) fun _ _ _ _ _ _ us hl => match us, hl with | [_, _, _], _ => rfl,
    M_Ring := ⟨mk_Ring, a_Ring_init, i_Ring_init, kc_Ring⟩,
    a_Ring_names := f_Ring_names,
    fd_Ring_names := PySem.W.fnOf "names" "Ring.names" (defArgs s_Ring_names) (defBody s_Ring_names) (defScope s_Ring_names) .none kV_Ring_names dc_Ring_names pm_Ring_names an_Ring_names cd_Ring_names ct_Ring_names,
    F_Ring_names := F_Ring_names,
    b_Ring_names := F_Ring_names.binds (ps := P_Ring_names) fun _ _ _ _ _ _ us hl => match us, hl with | [_], _ => rfl,
    mt_Ring_names := ⟨a_Ring_names, i_Ring_names, k_Ring_names⟩,
    a_Ring_slips := f_Ring_slips,
    fd_Ring_slips := PySem.W.fnOf "slips" "Ring.slips" (defArgs s_Ring_slips) (defBody s_Ring_slips) (defScope s_Ring_slips) .none kV_Ring_slips dc_Ring_slips pm_Ring_slips an_Ring_slips cd_Ring_slips ct_Ring_slips,
    F_Ring_slips := F_Ring_slips,
    b_Ring_slips := F_Ring_slips.binds (ps := P_Ring_slips) fun _ _ _ _ _ _ us hl => match us, hl with | [_], _ => rfl,
    mt_Ring_slips := ⟨a_Ring_slips, i_Ring_slips, k_Ring_slips⟩,
    a_Ring_order := f_Ring_order,
    fd_Ring_order := PySem.W.fnOf "order" "Ring.order" (defArgs s_Ring_order) (defBody s_Ring_order) (defScope s_Ring_order) .none kV_Ring_order dc_Ring_order pm_Ring_order an_Ring_order cd_Ring_order ct_Ring_order,
    F_Ring_order := F_Ring_order,
    b_Ring_order := F_Ring_order.binds (ps := P_Ring_order) fun _ _ _ _ _ _ us hl => match us, hl with | [_, _], _ => rfl,
    mt_Ring_order := ⟨a_Ring_order, i_Ring_order, k_Ring_order⟩,
    a_Ring_next_of := f_Ring_next_of,
    fd_Ring_next_of := PySem.W.fnOf "next_of" "Ring.next_of" (defArgs s_Ring_next_of) (defBody s_Ring_next_of) (defScope s_Ring_next_of) .none kV_Ring_next_of dc_Ring_next_of pm_Ring_next_of an_Ring_next_of cd_Ring_next_of ct_Ring_next_of,
    F_Ring_next_of := F_Ring_next_of,
    b_Ring_next_of := F_Ring_next_of.binds (ps := P_Ring_next_of) fun _ _ _ _ _ _ us hl => match us, hl with | [_, _], _ => rfl,
    mt_Ring_next_of := ⟨a_Ring_next_of, i_Ring_next_of, k_Ring_next_of⟩,
    a_Ring_counted_on := f_Ring_counted_on,
    fd_Ring_counted_on := PySem.W.fnOf "_counted_on" "Ring._counted_on" (defArgs s_Ring_counted_on) (defBody s_Ring_counted_on) (defScope s_Ring_counted_on) .none kV_Ring_counted_on dc_Ring_counted_on pm_Ring_counted_on an_Ring_counted_on cd_Ring_counted_on ct_Ring_counted_on,
    F_Ring_counted_on := F_Ring_counted_on,
    b_Ring_counted_on := F_Ring_counted_on.binds (ps := P_Ring_counted_on) fun _ _ _ _ _ _ us hl => match us, hl with | [_, _, _], _ => rfl,
    mt_Ring_counted_on := ⟨a_Ring_counted_on, i_Ring_counted_on, k_Ring_counted_on⟩,
    a_Ring_eq := f_Ring_eq,
    fd_Ring_eq := PySem.W.fnOf "__eq__" "Ring.__eq__" (defArgs s_Ring_eq) (defBody s_Ring_eq) (defScope s_Ring_eq) .none kV_Ring_eq dc_Ring_eq pm_Ring_eq an_Ring_eq cd_Ring_eq ct_Ring_eq,
    F_Ring_eq := F_Ring_eq,
    b_Ring_eq := F_Ring_eq.binds (ps := P_Ring_eq) fun _ _ _ _ _ _ us hl => match us, hl with | [_, _], _ => rfl,
    mt_Ring_eq := ⟨a_Ring_eq, i_Ring_eq, k_Ring_eq⟩,
    tk_LETTERS := tk_LETTERS,
    g_LETTERS := PySem.W.mg_of X G z_LETTERS,
    tk_LONGEST_NAME := tk_LONGEST_NAME,
    g_LONGEST_NAME := PySem.W.mg_of X G z_LONGEST_NAME,
    tk_FEWEST := tk_FEWEST,
    g_FEWEST := PySem.W.mg_of X G z_FEWEST,
    tk_MOST := tk_MOST,
    g_MOST := PySem.W.mg_of X G z_MOST,
    tk_ALL := tk_ALL,
    g_ALL := PySem.W.mg_of X G z_ALL,
    m_abs := PySem.W.mg_none_of X G zm_abs,
    m_all := PySem.W.mg_none_of X G zm_all,
    m_bool := PySem.W.mg_none_of X G zm_bool,
    m_dict := PySem.W.mg_none_of X G zm_dict,
    m_enumerate := PySem.W.mg_none_of X G zm_enumerate,
    m_int := PySem.W.mg_none_of X G zm_int,
    m_isinstance := PySem.W.mg_none_of X G zm_isinstance,
    m_len := PySem.W.mg_none_of X G zm_len,
    m_list := PySem.W.mg_none_of X G zm_list,
    m_min := PySem.W.mg_none_of X G zm_min,
    m_range := PySem.W.mg_none_of X G zm_range,
    m_repr := PySem.W.mg_none_of X G zm_repr,
    m_set := PySem.W.mg_none_of X G zm_set,
    m_str := PySem.W.mg_none_of X G zm_str,
    m_tuple := PySem.W.mg_none_of X G zm_tuple,
    m_zip := PySem.W.mg_none_of X G zm_zip,
    i_lcm := PySem.W.mg_of X G zi_lcm
  }
  exact ⟨T.fd_law, fun s v => .of_eq rfl, fun base _ _ => fg_weak (ok_law T) (law_sp fun ns hl => law_ok T hl)⟩
end K31
open PySem PySem.W PyProof.Rows
set_option maxRecDepth 100000 in
set_option maxHeartbeats 0 in
theorem PySem.Challenge.cw_goersay_k31_least_slips_that_do_alike_holds : PySem.Challenge.rw_goersay_k31_least_slips_that_do_alike.Holds := by
  w_on; o_law; k_head; (case hw => w_witness2)
  k_fill
  refine GF.walk_go (l := PySem.Challenge.rw_goersay_k31_least_slips_that_do_alike) (n := 63) (k := 8) (x := "_law_script") (sp := fun w => GL.spLaw _) rfl (by decide) rfl ⟨rfl, by decide, by decide⟩ (fun w h Y => PySem.W.kIn_of Y) ?F (fun _ _ a ns hl _ hS => ⟨a, ns, rfl, hS, hl, fun _ => rfl⟩)
  case F =>
    intro w mg fa h KX G hmg
    refine' K31.all_mk KX G hmg ?aC_Ring ?pg_Ring ?hd_Ring ?po_Ring ?sa_Ring ?mk_Ring ?ih_Ring ?in_Ring ?it_Ring ?im_Ring ?kc_Ring ?na_Ring__names ?na_Ring__slips ?a_is_number ?l_is_number ?c_is_number_ ?k_is_number ?a_is_name ?l_is_name ?c_is_name_ ?k_is_name ?a_is_names ?l_is_names ?c_is_names_ ?k_is_names ?a_check_names ?l_check_names ?c_check_names_ ?k_check_names ?a_check_name ?l_check_name ?c_check_name_ ?k_check_name ?a_is_slips ?l_is_slips ?c_is_slips_ ?k_is_slips ?a_listed_behind ?l_listed_behind ?c_listed_behind_ ?k_listed_behind ?a_who_sit ?l_who_sit ?c_who_sit_ ?k_who_sit ?a_check_between ?l_check_between ?c_check_between_ ?k_check_between ?a_rests_told ?l_rests_told ?c_rests_told_ ?k_rests_told ?a_is_goers ?l_is_goers ?c_is_goers_ ?k_is_goers ?a_is_sighting ?l_is_sighting ?c_is_sighting_ ?k_is_sighting ?a_says ?l_says ?c_says_ ?k_says ?a_sighting_of ?l_sighting_of ?zd_sighting_of ?c_sighting_of_ ?k_sighting_of ?a_needs ?l_needs ?c_needs_ ?k_needs ?a_least_of ?l_least_of ?c_least_of_ ?k_least_of ?a_l_begin ?l_l_begin ?c_l_begin_ ?k_l_begin ?a_l_draw ?l_l_draw ?c_l_draw_ ?k_l_draw ?a_l_pick ?l_l_pick ?c_l_pick_ ?k_l_pick ?a_l_mixed ?l_l_mixed ?c_l_mixed_ ?k_l_mixed ?a_l_crew ?l_l_crew ?c_l_crew_ ?k_l_crew ?a_l_slip ?l_l_slip ?c_l_slip_ ?k_l_slip ?a_l_marks ?l_l_marks ?c_l_marks_ ?k_l_marks ?a_l_goes ?l_l_goes ?c_l_goes_ ?k_l_goes ?a_l_common ?l_l_common ?c_l_common_ ?k_l_common ?a_l_multiple ?l_l_multiple ?c_l_multiple_ ?k_l_multiple ?a_l_said_by ?l_l_said_by ?c_l_said_by_ ?k_l_said_by ?a_l_needed ?l_l_needed ?c_l_needed_ ?k_l_needed ?a_l_all_rounds ?l_l_all_rounds ?c_l_all_rounds_ ?k_l_all_rounds ?a_l_with ?l_l_with ?c_l_with_ ?k_l_with ?a_l_none_less ?l_l_none_less ?c_l_none_less_ ?k_l_none_less ?a_law ?l_law ?c_law_ ?k_law ?a_Ring_init ?i_Ring_init ?l_Ring_init ?c_Ring_init_ ?k_Ring_init ?a_Ring_names ?i_Ring_names ?l_Ring_names ?c_Ring_names_ ?k_Ring_names ?a_Ring_slips ?i_Ring_slips ?l_Ring_slips ?c_Ring_slips_ ?k_Ring_slips ?a_Ring_order ?i_Ring_order ?l_Ring_order ?c_Ring_order_ ?k_Ring_order ?a_Ring_next_of ?i_Ring_next_of ?l_Ring_next_of ?c_Ring_next_of_ ?k_Ring_next_of ?a_Ring_counted_on ?i_Ring_counted_on ?l_Ring_counted_on ?c_Ring_counted_on_ ?k_Ring_counted_on ?a_Ring_eq ?i_Ring_eq ?l_Ring_eq ?c_Ring_eq_ ?k_Ring_eq ?z_LETTERS ?z_LONGEST_NAME ?z_FEWEST ?z_MOST ?z_ALL ?zm_abs ?zm_all ?zm_bool ?zm_dict ?zm_enumerate ?zm_int ?zm_isinstance ?zm_len ?zm_list ?zm_min ?zm_range ?zm_repr ?zm_set ?zm_str ?zm_tuple ?zm_zip ?zi_lcm
    (case aC_Ring => k_is)
    (case pg_Ring => k_is)
    (case hd_Ring => k_is)
    (case po_Ring => k_is)
    (case sa_Ring => k_is)
    (case mk_Ring => k_is)
    (case ih_Ring => k_is)
    (case in_Ring => k_is)
    (case it_Ring => k_is)
    (case im_Ring => k_is)
    (case kc_Ring => k_is)
    (case na_Ring__names => k_is)
    (case na_Ring__slips => k_is)
    (case a_is_number => k_is)
    (case l_is_number => k_is)
    (case c_is_number_ => k_is)
    (case k_is_number => k_is)
    (case a_is_name => k_is)
    (case l_is_name => k_is)
    (case c_is_name_ => k_is)
    (case k_is_name => k_is)
    (case a_is_names => k_is)
    (case l_is_names => k_is)
    (case c_is_names_ => k_is)
    (case k_is_names => k_is)
    (case a_check_names => k_is)
    (case l_check_names => k_is)
    (case c_check_names_ => k_is)
    (case k_check_names => k_is)
    (case a_check_name => k_is)
    (case l_check_name => k_is)
    (case c_check_name_ => k_is)
    (case k_check_name => k_is)
    (case a_is_slips => k_is)
    (case l_is_slips => k_is)
    (case c_is_slips_ => k_is)
    (case k_is_slips => k_is)
    (case a_listed_behind => k_is)
    (case l_listed_behind => k_is)
    (case c_listed_behind_ => k_is)
    (case k_listed_behind => k_is)
    (case a_who_sit => k_is)
    (case l_who_sit => k_is)
    (case c_who_sit_ => k_is)
    (case k_who_sit => k_is)
    (case a_check_between => k_is)
    (case l_check_between => k_is)
    (case c_check_between_ => k_is)
    (case k_check_between => k_is)
    (case a_rests_told => k_is)
    (case l_rests_told => k_is)
    (case c_rests_told_ => k_is)
    (case k_rests_told => k_is)
    (case a_is_goers => k_is)
    (case l_is_goers => k_is)
    (case c_is_goers_ => k_is)
    (case k_is_goers => k_is)
    (case a_is_sighting => k_is)
    (case l_is_sighting => k_is)
    (case c_is_sighting_ => k_is)
    (case k_is_sighting => k_is)
    (case a_says => k_is)
    (case l_says => k_is)
    (case c_says_ => k_is)
    (case k_says => k_is)
    (case a_sighting_of => k_is)
    (case l_sighting_of => k_is)
    (case zd_sighting_of => k_is)
    (case c_sighting_of_ => k_is)
    (case k_sighting_of => k_is)
    (case a_needs => k_is)
    (case l_needs => k_is)
    (case c_needs_ => k_is)
    (case k_needs => k_is)
    (case a_least_of => k_is)
    (case l_least_of => k_is)
    (case c_least_of_ => k_is)
    (case k_least_of => k_is)
    (case a_l_begin => k_is)
    (case l_l_begin => k_is)
    (case c_l_begin_ => k_is)
    (case k_l_begin => k_is)
    (case a_l_draw => k_is)
    (case l_l_draw => k_is)
    (case c_l_draw_ => k_is)
    (case k_l_draw => k_is)
    (case a_l_pick => k_is)
    (case l_l_pick => k_is)
    (case c_l_pick_ => k_is)
    (case k_l_pick => k_is)
    (case a_l_mixed => k_is)
    (case l_l_mixed => k_is)
    (case c_l_mixed_ => k_is)
    (case k_l_mixed => k_is)
    (case a_l_crew => k_is)
    (case l_l_crew => k_is)
    (case c_l_crew_ => k_is)
    (case k_l_crew => k_is)
    (case a_l_slip => k_is)
    (case l_l_slip => k_is)
    (case c_l_slip_ => k_is)
    (case k_l_slip => k_is)
    (case a_l_marks => k_is)
    (case l_l_marks => k_is)
    (case c_l_marks_ => k_is)
    (case k_l_marks => k_is)
    (case a_l_goes => k_is)
    (case l_l_goes => k_is)
    (case c_l_goes_ => k_is)
    (case k_l_goes => k_is)
    (case a_l_common => k_is)
    (case l_l_common => k_is)
    (case c_l_common_ => k_is)
    (case k_l_common => k_is)
    (case a_l_multiple => k_is)
    (case l_l_multiple => k_is)
    (case c_l_multiple_ => k_is)
    (case k_l_multiple => k_is)
    (case a_l_said_by => k_is)
    (case l_l_said_by => k_is)
    (case c_l_said_by_ => k_is)
    (case k_l_said_by => k_is)
    (case a_l_needed => k_is)
    (case l_l_needed => k_is)
    (case c_l_needed_ => k_is)
    (case k_l_needed => k_is)
    (case a_l_all_rounds => k_is)
    (case l_l_all_rounds => k_is)
    (case c_l_all_rounds_ => k_is)
    (case k_l_all_rounds => k_is)
    (case a_l_with => k_is)
    (case l_l_with => k_is)
    (case c_l_with_ => k_is)
    (case k_l_with => k_is)
    (case a_l_none_less => k_is)
    (case l_l_none_less => k_is)
    (case c_l_none_less_ => k_is)
    (case k_l_none_less => k_is)
    (case a_law => k_is)
    (case l_law => k_is)
    (case c_law_ => k_is)
    (case k_law => k_is)
    (case a_Ring_init => k_is)
    (case i_Ring_init => k_is)
    (case l_Ring_init => k_is)
    (case c_Ring_init_ => k_is)
    (case k_Ring_init => k_is)
    (case a_Ring_names => k_is)
    (case i_Ring_names => k_is)
    (case l_Ring_names => k_is)
    (case c_Ring_names_ => k_is)
    (case k_Ring_names => k_is)
    (case a_Ring_slips => k_is)
    (case i_Ring_slips => k_is)
    (case l_Ring_slips => k_is)
    (case c_Ring_slips_ => k_is)
    (case k_Ring_slips => k_is)
    (case a_Ring_order => k_is)
    (case i_Ring_order => k_is)
    (case l_Ring_order => k_is)
    (case c_Ring_order_ => k_is)
    (case k_Ring_order => k_is)
    (case a_Ring_next_of => k_is)
    (case i_Ring_next_of => k_is)
    (case l_Ring_next_of => k_is)
    (case c_Ring_next_of_ => k_is)
    (case k_Ring_next_of => k_is)
    (case a_Ring_counted_on => k_is)
    (case i_Ring_counted_on => k_is)
    (case l_Ring_counted_on => k_is)
    (case c_Ring_counted_on_ => k_is)
    (case k_Ring_counted_on => k_is)
    (case a_Ring_eq => k_is)
    (case i_Ring_eq => k_is)
    (case l_Ring_eq => k_is)
    (case c_Ring_eq_ => k_is)
    (case k_Ring_eq => k_is)
    (case z_LETTERS => k_is)
    (case z_LONGEST_NAME => k_is)
    (case z_FEWEST => k_is)
    (case z_MOST => k_is)
    (case z_ALL => k_is)
    (case zm_abs => k_is)
    (case zm_all => k_is)
    (case zm_bool => k_is)
    (case zm_dict => k_is)
    (case zm_enumerate => k_is)
    (case zm_int => k_is)
    (case zm_isinstance => k_is)
    (case zm_len => k_is)
    (case zm_list => k_is)
    (case zm_min => k_is)
    (case zm_range => k_is)
    (case zm_repr => k_is)
    (case zm_set => k_is)
    (case zm_str => k_is)
    (case zm_tuple => k_is)
    (case zm_zip => k_is)
    (case zi_lcm => k_is)
