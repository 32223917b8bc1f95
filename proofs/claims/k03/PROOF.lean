import PyProof.Rows.All
import Wide.All
import OpenK.AllK
import Wide.FinOn
import HandS.Base
import HandS.Call
import HandS.List
import HandS.Set
import HandS.Strs
import HandS.Defaults
import HandS.Words
import HandS.ForMost
import HandS.Wide
import HandS.IsInst
import HandS.DictComp
import HandS.More
import HandS.Flow
import HandS.Evl
import HandS.Walk
import HandS.SortInts
import HandS.TupAny
import HandS.Conv
import HandS.Gcd
import HandS.Style
import PySem.Challenge.RW_goersay_k03_whole_rests_two_by_two_and_a
set_option Elab.async false
set_option linter.all false
set_option maxRecDepth 100000
set_option maxHeartbeats 4000000
/-! Own rule: len(set(xs)) of a list or tuple of texts, however many (the set itself is looked at by membership alone). -/
namespace GSet
open PySem PySem.Spec PyProof.Rows
/-- the texts met first, in order -/
def firsts (xs : List Str) : List Str := xs.foldl (fun acc x => if x ∈ acc then acc else acc ++ [x]) []
def more (acc : List Str) (x : Str) : List Str := if x ∈ acc then acc else acc ++ [x]
theorem firsts_snoc (xs : List Str) (x : Str) : firsts (xs ++ [x]) = more (firsts xs) x := by
  unfold firsts more
  rw [List.foldl_append]
  rfl
theorem mem_more {acc : List Str} {x y : Str} : y ∈ more acc x ↔ y ∈ acc ∨ y = x := by
  unfold more
  split
  · rename_i h
    exact ⟨.inl, fun z => z.elim id fun e => by rw [e]; exact h⟩
  · rw [List.mem_append, List.mem_singleton]
theorem more_len {acc : List Str} {x : Str} : (more acc x).length = if x ∈ acc then acc.length else acc.length + 1 := by
  unfold more
  split
  · rfl
  · rw [List.length_append]
    rfl
theorem firsts_le : ∀ (n : Nat) (xs : List Str), xs.length = n → (firsts xs).length ≤ n
  | 0, xs, h => by
    have e := List.eq_nil_of_length_eq_zero h
    subst e
    exact Nat.le_refl _
  | n + 1, xs, h => by
    have hne : xs ≠ [] := fun z => by rw [z] at h; cases h
    have ed := List.dropLast_concat_getLast hne
    have il := firsts_le n xs.dropLast (by rw [List.length_dropLast, h]; rfl)
    rw [← ed, firsts_snoc, more_len]
    split <;> omega
theorem more_nodup {acc : List Str} {x : Str} (h : acc.Nodup) : (more acc x).Nodup := by
  unfold more
  split
  · exact h
  · rename_i hx
    rw [List.nodup_append]
    refine ⟨h, List.nodup_cons.mpr ⟨List.not_mem_nil, List.nodup_nil⟩, fun a ha b hb e => ?_⟩
    rw [List.mem_singleton] at hb
    subst hb
    subst e
    exact hx ha
theorem firsts_nodup_eq {xs : List Str} (h : xs.Nodup) : ∀ i, i ≤ xs.length → firsts (xs.take i) = xs.take i
  | 0, _ => rfl
  | i + 1, hi => by
    have hlt : i < xs.length := hi
    have e1 : xs.take (i + 1) = xs.take i ++ [xs[i]] := by
      rw [List.take_succ, List.getElem?_eq_getElem hlt]
      rfl
    rw [e1, firsts_snoc, firsts_nodup_eq h i (Nat.le_of_lt hlt)]
    unfold more
    rw [if_neg]
    intro hm
    obtain ⟨j, hj, ej⟩ := List.mem_iff_getElem.mp hm
    rw [List.getElem_take] at ej
    rw [List.length_take] at hj
    have := (List.getElem_inj h).mp ej
    omega
theorem firsts_of_nodup {xs : List Str} (h : xs.Nodup) : firsts xs = xs := by
  have q := firsts_nodup_eq h xs.length (Nat.le_refl _)
  rwa [List.take_length] at q
theorem firsts_lt_of_dup {xs : List Str} (h : ¬ xs.Nodup) : (firsts xs).length < xs.length := by
  have key : ∀ (n : Nat) (ys : List Str), ys.length = n → ¬ ys.Nodup → (firsts ys).length < n := by
    intro n
    induction n with
    | zero =>
      intro ys hy hn
      have e := List.eq_nil_of_length_eq_zero hy
      subst e
      exact absurd List.nodup_nil hn
    | succ n ih =>
      intro ys hy hn
      have hne : ys ≠ [] := fun z => by rw [z] at hy; cases hy
      have ed := List.dropLast_concat_getLast hne
      have el : ys.dropLast.length = n := by rw [List.length_dropLast, hy]; rfl
      have ef : firsts ys = more (firsts ys.dropLast) (ys.getLast hne) := by rw [← firsts_snoc, ed]
      by_cases hd : ys.dropLast.Nodup
      · have hin : ys.getLast hne ∈ ys.dropLast := by
          refine Classical.byContradiction fun hc => hn ?_
          rw [← ed, List.nodup_append]
          refine ⟨hd, List.nodup_cons.mpr ⟨List.not_mem_nil, List.nodup_nil⟩, fun a ha b hb e => ?_⟩
          rw [List.mem_singleton] at hb
          rw [e, hb] at ha
          exact hc ha
        rw [ef, more_len, firsts_of_nodup hd, if_pos hin]
        omega
      · have := ih _ el hd
        rw [ef, more_len]
        split <;> omega
  exact key _ xs rfl h
theorem firsts_len_iff (xs : List Str) : (firsts xs).length = xs.length ↔ xs.Nodup := by
  refine ⟨fun e => Classical.byContradiction fun h => ?_, fun h => by rw [firsts_of_nodup h]⟩
  have := firsts_lt_of_dup h
  omega

section
variable {prog : Program} {w : World} {A : Around} {R : Result → Shared → Prop} {I : Addr} {fp wr : List Addr} {G : Array GenState → Array GenState → Prop} {n : Nat} {P : Nat → Value → Prop} {St : Nat → Shared → Prop}
/-- what stands in the set behind i items -/
abbrev InSet (prog : Program) (w : World) (h : Heap) (S : Addr) (xs : List Str) (i : Nat) : Prop :=
  h.SetOf (PySem.strKind prog w) S (fun k' => decide (k' ∈ firsts (xs.take i))) (firsts (xs.take i)).length
theorem turns (W : WalksS prog w A.in1 I fp wr G n P St) (S : Addr) (hSf : S ∉ fp) (xs : List Str) (hsz : xs.length = n) (hbig : n + 1 < scanBound)
    (hval : ∀ i v, P i v → ∃ t, v = .str (xs.getD i Str.empty) t) :
    ∀ (k i : Nat) (s : Shared), n - i = k → i ≤ n → St i s → InSet prog w s.heap S xs i →
      (∀ s', Moved (S :: wr) G s s' → InSet prog w s'.heap S xs n → R (.ok (.ret .none)) s') →
      codeAny (model prog w) A (.builtin "set.update.loop" ⟨[.ref S, .ref I], []⟩) R s := by
  have notW : S ∉ wr := fun z => hSf (W.sub _ z)
  have wide : ∀ b ∈ wr, b ∈ S :: wr := fun _ z => List.mem_cons_of_mem _ z
  intro k
  induction k with
  | zero =>
    intro i s hk hi hst hS hR
    obtain rfl : i = n := by omega
    refine codeAny_builtin PyProof.Rows.F.entry_set_update_loop ?_
    rw [Around.under_plainId PyProof.Rows.F.plain_set_update_loop _]
    show wpAny _ A.in1 (pyNext (.ref I) >>= _) _ _ s
    refine wpAny_bind (W.done s _ _ hst fun s1 mv => ?_)
    show wpAny _ A.in1 (ret Value.none) _ _ s1
    refine wpAny_pure (hR s1 (mv.mono wide) ?_)
    obtain ⟨o, es, ep, t, ho, more⟩ := hS
    exact ⟨o, es, ep, t, mv.heap S _ notW ho, more⟩
  | succ k ih =>
    intro i s hk hi hst hS hR
    have lt : i < n := by omega
    refine codeAny_builtin PyProof.Rows.F.entry_set_update_loop ?_
    rw [Around.under_plainId PyProof.Rows.F.plain_set_update_loop _]
    show wpAny _ A.in1 (pyNext (.ref I) >>= _) _ _ s
    refine wpAny_bind (W.item i s _ _ lt hst fun v s1 hP hst1 mv => ?_)
    obtain ⟨t, rfl⟩ := hval i v hP
    have hS1 : InSet prog w s1.heap S xs i := by
      obtain ⟨o, es, ep, tb, ho, more⟩ := hS
      exact ⟨o, es, ep, tb, mv.heap S _ notW ho, more⟩
    have hle : (firsts (xs.take i)).length ≤ i := firsts_le i (xs.take i) (by rw [List.length_take]; omega)
    show wpAny _ A.in1 (holding [Value.str (xs.getD i Str.empty) t] (setAdd S (.str (xs.getD i Str.empty) t)) >>= _) _ _ s1
    refine wpAny_bind (wpAny_holding ?_)
    unfold setAdd
    refine wpAny_holding (wpAny_bind ((PySem.strKind prog w).pyHash (k := xs.getD i Str.empty) (strKind_is _ _ _ _) ?_))
    refine wpAny_setAddHashed_of (knd := PySem.strKind prog w) (s := { s1 with toks := s1.toks + 1 }) (strKind_is _ _ _ _) rfl hS1 (by omega) fun h2 same hS2 => ?_
    have hlt : i < xs.length := by omega
    have et : xs.take (i + 1) = xs.take i ++ [xs.getD i Str.empty] := by
      rw [List.take_succ, List.getD_eq_getElem?_getD, List.getElem?_eq_getElem hlt]
      rfl
    have hSi : InSet prog w h2 S xs (i + 1) := by
      refine SetOf_congr hS2 (fun k' => ?_) ?_
      · rw [et, firsts_snoc, Bool.eq_iff_iff, Bool.or_eq_true, decide_eq_true_iff, decide_eq_true_iff, decide_eq_true_iff]
        exact mem_more.symm
      · rw [et, firsts_snoc, more_len]
        by_cases c : xs.getD i Str.empty ∈ firsts (xs.take i)
        · rw [if_pos c, if_pos (by rw [decide_eq_true_iff]; exact c)]
        · rw [if_neg c, if_neg (by rw [decide_eq_true_iff]; exact c)]
    have offS : ∀ b, b ∉ S :: wr → b ≠ S := fun b z e => z (by rw [e]; exact List.mem_cons_self)
    refine wpAny_pure ⟨plainId_quiet PyProof.Rows.F.plain_set_update_loop _, ih (i + 1) _ (by omega) lt (W.frame _ s1 _ _ hst1 (Nat.le_succ _) fun b hb o e => ?_) hSi fun s3 mv3 hS3 => ?_⟩
    · rw [same.2 b fun z => hSf (z ▸ hb)]
      exact e
    · refine hR s3 (Moved.trans W.gtrans ((mv.mono wide).then_heap (Nat.le_succ _) fun b o hb e => ?_) mv3) hS3
      rw [same.2 b (offS b hb)]
      exact e
end

section
variable {prog : Program} {w : World} {A : Around} {E : Value → Shared → Prop} {s : Shared}
/-- a set just made -/
abbrev Fso (led : Bool) : Obj := { cls := .type "set", dict := none, data := .set #[] 0 (.fresh 0 0 led) }
/-- what a fresh set of the texts is, and that nothing else has changed -/
abbrev Made (prog : Program) (w : World) (h0 h1 : Heap) (xs : List Str) : Prop :=
  InSet prog w h1 h0.objs.size xs xs.length ∧ ∀ b o, b < h0.objs.size → h0.get? b = some o → h1.get? b = some o

set_option maxHeartbeats 3200000 in
theorem set_of_list {l : Addr} {items : Array Value} {xs : List Str} {Q : Value → Shared → Prop} (hh : A.handled = none) (hl : s.heap.IsList l items) (hi : StrsAre items.toList xs) (hbig : xs.length + 1 < scanBound)
    (k : ∀ (h1 : Heap) (tk : Nat), Made prog w s.heap h1 xs → Q (.ref s.heap.objs.size) { s with heap := h1, toks := tk }) : wpAny (model prog w) A (call (.type "set") [.ref l]) Q E s := by
  obtain ⟨c, tl, hmro⟩ := PySem.F.called_set.mro
  have hmade := PySem.F.called_set.made; have hsub := PySem.F.called_set.sub
  refine wpAny_call (codeAny_of_tree (show wpAny _ _ (callAny (.type "set") _) _ _ _ from wpAny_pure ⟨Code.quiet_builtin _ (by decide +kernel), codeAny_builtin PySem.F.entry_type_call ?_⟩))
  rw [Around.under_plain (weight_type_call_type "set" [.ref l] []) rfl]
  have h1 := PySem.F.called_set.notType; have h2 := PySem.F.called_set.canCreate; have hct := PySem.F.typeCall_set_1 (.ref l)
  repeat (any_goals (first | assumption | wp_step))
  refine codeAny_mono (code_set_new_1 (.ref l) (E := E) (Q₁ := fun ob z => ∃ led : Bool, ob = .ref s.heap.objs.size ∧ z = { s with heap := s.heap.push (Fso led) }) fun led => ⟨led, rfl, rfl⟩) fun r z hr => ?_
  cases r with
  | error e => exact hr
  | ok fl =>
    cases fl with
    | ret ob =>
      obtain ⟨led, rfl, rfl⟩ := hr
      have hS : (s.heap.push (Fso led)).get? s.heap.objs.size = some (Fso led) := Heap.get?_push_size _ rfl
      have hT : Shared.TypeIs { s with heap := s.heap.push (Fso led) } (.ref s.heap.objs.size) "set" := ⟨_, hS, rfl⟩
      have hli := PySem.F.called_set.init.lookup; have hbi := PySem.F.called_set.init.bind (.ref s.heap.objs.size)
      repeat (any_goals (first | assumption | wp_step))
      refine codeAny_mono (codeAny_call_builtin (R := wants (fun r z => r = .none ∧ ∃ h1 tk, z = { s with heap := h1, toks := tk } ∧ Made prog w s.heap h1 xs) E)
        PySem.F.called_set.init.plain PySem.F.entry_set_init (check_set_init_1 hT ?_)) fun r2 z2 hr2 => ?_
      · obtain ⟨⟨oc, od, odat, osl⟩, hol, hcl, nl, hdl⟩ := hl
        simp only at hcl hdl; subst hcl; subst hdl
        have hol2 : (s.heap.push (Fso led)).get? l = some { cls := .type "list", dict := od, data := .seq items nl, slots := osl } := Heap.get?_push_of_some _ hol
        have q1 := PySem.F.sub_list_set; have q2 := PySem.F.sub_list_frozenset; have q3 : (Value.type "list" == Value.type "dict") = false := by decide
        have hl1 : (s.heap.push (Fso led)).IsList l items := ⟨_, hol2, rfl, nl, rfl⟩
        unfold Builtin.«set.__init__» noKeywords Builtin.Frozenset.updateFrom
        generalize hPI : pyIter = PI
        wp_walk
        subst hPI
        refine wpAny_pyIter_list hl1 ?_; refine wpAny_bind (wpAny_runValue ?_)
        have lt := Heap.lt_size hol
        have hsz : xs.length = items.size := by rw [← StrsAre.len_eq hi, Array.length_toList]
        have apart : l ≠ (s.heap.push (Fso led)).objs.size := by rw [Heap.size_push]; exact Nat.ne_of_lt (Nat.lt_succ_of_lt lt)
        have off : s.heap.objs.size ∉ [(s.heap.push (Fso led)).objs.size, l] := by
          rw [Heap.size_push]; simp only [List.mem_cons, List.not_mem_nil, or_false, not_or]; exact ⟨Nat.ne_of_lt (Nat.lt_succ_self _), Nat.ne_of_gt lt⟩
        refine turns ((Walks.list (show A.in1.in1.in1.handled = none by simp [hh]) _ l apart items).toS) s.heap.objs.size off xs hsz (by omega)
          (fun i v hv => SS.strs_at hi i v (by rw [Array.getElem?_toList]; exact hv)) (items.size - 0) 0 _ (by omega) (Nat.zero_le _) ⟨⟨_, Heap.get?_push_size _ rfl, rfl, rfl⟩, hl1.push _⟩ ?start0 ?rest0
        case start0 =>
          have hget : ((s.heap.push (Fso led)).push { cls := .type "list_iterator", data := .fields #[.ref l, .int 0 0] }).get? s.heap.objs.size = some (Fso led) := Heap.get?_push_of_some _ hS
          exact SetOf_congr ((setObjOf_fresh (knd := PySem.strKind prog w) led).setOf hget (by unfold scanBound; omega)) (fun _ => rfl) rfl
        case rest0 =>
          rintro ⟨h3, g3, d3, tk3, os3⟩ hm hS3
          obtain rfl : g3 = s.gens := hm.gens
          obtain rfl : d3 = s.drawn := hm.drawn
          obtain rfl : os3 = s.os := hm.os
          show wpAny _ _ _ _ _ _
          refine wpAny_pure ?_
          show wpAny _ _ (ret Value.none) _ _ _
          rw [← hsz] at hS3
          refine wpAny_pure ⟨rfl, h3, tk3, rfl, hS3, fun b o hb e => hm.heap b o ?_ (Heap.get?_push_of_some _ (Heap.get?_push_of_some _ e))⟩
          rw [Heap.size_push]; simp only [List.mem_cons, List.not_mem_nil, or_false, not_or]; exact ⟨Nat.ne_of_lt hb, Nat.ne_of_lt (Nat.lt_succ_of_lt hb)⟩
      · cases r2 with
        | error e => exact hr2
        | ok fl2 =>
          cases fl2 with
          | ret r =>
            obtain ⟨rfl, h1, tk, rfl, hm⟩ := hr2
            repeat (any_goals (first | assumption | wp_step))
            exact k _ _ hm
          | _ => exact hr2.elim
    | _ => exact hr.elim

set_option maxHeartbeats 3200000 in
theorem set_of_tuple {l : Addr} {items : Array Value} {xs : List Str} {Q : Value → Shared → Prop} (hh : A.handled = none) (hl : s.heap.IsTuple l items) (hi : StrsAre items.toList xs) (hbig : xs.length + 1 < scanBound)
    (k : ∀ (h1 : Heap) (tk : Nat), Made prog w s.heap h1 xs → Q (.ref s.heap.objs.size) { s with heap := h1, toks := tk }) : wpAny (model prog w) A (call (.type "set") [.ref l]) Q E s := by
  obtain ⟨c, tl, hmro⟩ := PySem.F.called_set.mro
  have hmade := PySem.F.called_set.made; have hsub := PySem.F.called_set.sub
  refine wpAny_call (codeAny_of_tree (show wpAny _ _ (callAny (.type "set") _) _ _ _ from wpAny_pure ⟨Code.quiet_builtin _ (by decide +kernel), codeAny_builtin PySem.F.entry_type_call ?_⟩))
  rw [Around.under_plain (weight_type_call_type "set" [.ref l] []) rfl]
  have h1 := PySem.F.called_set.notType; have h2 := PySem.F.called_set.canCreate; have hct := PySem.F.typeCall_set_1 (.ref l)
  repeat (any_goals (first | assumption | wp_step))
  refine codeAny_mono (code_set_new_1 (.ref l) (E := E) (Q₁ := fun ob z => ∃ led : Bool, ob = .ref s.heap.objs.size ∧ z = { s with heap := s.heap.push (Fso led) }) fun led => ⟨led, rfl, rfl⟩) fun r z hr => ?_
  cases r with
  | error e => exact hr
  | ok fl =>
    cases fl with
    | ret ob =>
      obtain ⟨led, rfl, rfl⟩ := hr
      have hS : (s.heap.push (Fso led)).get? s.heap.objs.size = some (Fso led) := Heap.get?_push_size _ rfl
      have hT : Shared.TypeIs { s with heap := s.heap.push (Fso led) } (.ref s.heap.objs.size) "set" := ⟨_, hS, rfl⟩
      have hli := PySem.F.called_set.init.lookup; have hbi := PySem.F.called_set.init.bind (.ref s.heap.objs.size)
      repeat (any_goals (first | assumption | wp_step))
      refine codeAny_mono (codeAny_call_builtin (R := wants (fun r z => r = .none ∧ ∃ h1 tk, z = { s with heap := h1, toks := tk } ∧ Made prog w s.heap h1 xs) E)
        PySem.F.called_set.init.plain PySem.F.entry_set_init (check_set_init_1 hT ?_)) fun r2 z2 hr2 => ?_
      · obtain ⟨⟨oc, od, odat, osl⟩, hol, hcl, nl, hdl⟩ := hl
        simp only at hcl hdl; subst hcl; subst hdl
        have hol2 : (s.heap.push (Fso led)).get? l = some { cls := .type "tuple", dict := od, data := .seq items nl, slots := osl } := Heap.get?_push_of_some _ hol
        have q1 := PySem.F.sub_tuple_set; have q2 := PySem.F.sub_tuple_frozenset; have q3 : (Value.type "tuple" == Value.type "dict") = false := by decide
        have hl1 : (s.heap.push (Fso led)).IsTuple l items := ⟨_, hol2, rfl, nl, rfl⟩
        unfold Builtin.«set.__init__» noKeywords Builtin.Frozenset.updateFrom
        generalize hPI : pyIter = PI
        wp_walk
        subst hPI
        refine wpAny_pyIter_tuple hl1 ?_; refine wpAny_bind (wpAny_runValue ?_)
        have lt := Heap.lt_size hol
        have hsz : xs.length = items.size := by rw [← StrsAre.len_eq hi, Array.length_toList]
        have apart : l ≠ (s.heap.push (Fso led)).objs.size := by rw [Heap.size_push]; exact Nat.ne_of_lt (Nat.lt_succ_of_lt lt)
        have off : s.heap.objs.size ∉ [(s.heap.push (Fso led)).objs.size, l] := by
          rw [Heap.size_push]; simp only [List.mem_cons, List.not_mem_nil, or_false, not_or]; exact ⟨Nat.ne_of_lt (Nat.lt_succ_self _), Nat.ne_of_gt lt⟩
        refine turns ((Walks.tuple (show A.in1.in1.in1.handled = none by simp [hh]) _ l apart items).toS) s.heap.objs.size off xs hsz (by omega)
          (fun i v hv => SS.strs_at hi i v (by rw [Array.getElem?_toList]; exact hv)) (items.size - 0) 0 _ (by omega) (Nat.zero_le _) ⟨⟨_, Heap.get?_push_size _ rfl, rfl, rfl⟩, hl1.push _⟩ ?start0 ?rest0
        case start0 =>
          have hget : ((s.heap.push (Fso led)).push { cls := .type "tuple_iterator", data := .fields #[.ref l, .int 0 0] }).get? s.heap.objs.size = some (Fso led) := Heap.get?_push_of_some _ hS
          exact SetOf_congr ((setObjOf_fresh (knd := PySem.strKind prog w) led).setOf hget (by unfold scanBound; omega)) (fun _ => rfl) rfl
        case rest0 =>
          rintro ⟨h3, g3, d3, tk3, os3⟩ hm hS3
          obtain rfl : g3 = s.gens := hm.gens
          obtain rfl : d3 = s.drawn := hm.drawn
          obtain rfl : os3 = s.os := hm.os
          show wpAny _ _ _ _ _ _
          refine wpAny_pure ?_
          show wpAny _ _ (ret Value.none) _ _ _
          rw [← hsz] at hS3
          refine wpAny_pure ⟨rfl, h3, tk3, rfl, hS3, fun b o hb e => hm.heap b o ?_ (Heap.get?_push_of_some _ (Heap.get?_push_of_some _ e))⟩
          rw [Heap.size_push]; simp only [List.mem_cons, List.not_mem_nil, or_false, not_or]; exact ⟨Nat.ne_of_lt hb, Nat.ne_of_lt (Nat.lt_succ_of_lt hb)⟩
      · cases r2 with
        | error e => exact hr2
        | ok fl2 =>
          cases fl2 with
          | ret r =>
            obtain ⟨rfl, h1, tk, rfl, hm⟩ := hr2
            repeat (any_goals (first | assumption | wp_step))
            exact k _ _ hm
          | _ => exact hr2.elim
    | _ => exact hr.elim

end
end GSet
namespace L2
open PySem PySem.Spec PyProof.Rows
/-- len(set(xs)), xs a list or tuple of texts -/
def tLenSetS (K : PySem.W.Frag) (ta : TE) : TE := fun σ H Q => ta σ H fun x H1 => ∃ l, ∃ xs : List Str, x = .ref l ∧ (SqL K H1 l (xs.map V.str) ∨ SqT K H1 l (xs.map V.str)) ∧ xs.length ≤ 1000 ∧ Q (.int (GSet.firsts xs).length) H1
theorem pe_lenSetS {X : Cx} {a : Expr} {ta : TE} {p p2 q pos : Pos} (hc : X.calm = true) (hm : X.mg "len" = none) (hm2 : X.mg "set" = none) (ha : PE X a ta) (hg : Gl X "len" := by rfl) (hg2 : Gl X "set" := by rfl)
    (na : starEach [a] X.env = (false, eval a X.env) :: starEach [] X.env := by rfl) : PE X (.Call (.Name "len" p) [.Call (.Name "set" p2) [a] [] q] [] pos) (tLenSetS X.K ta) := by
  refine ⟨fun pins s σ H Q I h => Call_ (ld_blt I hg hm boot_len (callWith_builtin1 (args_cons ?_ rfl) rfl rfl))⟩
  refine Call_ (ld_blt I hg2 hm2 boot_set (callWith_type1 (args_cons (thn (ha.run pins s σ H _ I h) fun v s1 ⟨x, H1, I1, r1, q1⟩ => args_nil ?_) na) na rfl))
  obtain ⟨l, xs, rfl, hq, hl, q1⟩ := q1
  cases r1
  have big : xs.length + 1 < scanBound := by unfold scanBound; omega
  have fin : ∀ (h1 : Heap) (tk : Nat), GSet.Made X.prog X.w s1.heap h1 xs →
      wpAny (model X.prog X.w) X.A (spliced (backTo pos (starEach [] X.env))) (fun vs z => wpAny (model X.prog X.w) X.A (call (.builtin "len") (Value.ref s1.heap.objs.size :: vs)) (EP X pins σ Q) X.xe z) X.xe { s1 with heap := h1, toks := tk } := fun h1 tk ⟨hS, hk⟩ => by
    have le := GSet.firsts_le xs.length (xs.take xs.length) (by rw [List.take_length])
    obtain ⟨o, es, ep, t, ho, hex, hd, _, _, _, hf, hn⟩ := hS
    have I2 : Inv X pins σ H1 { s1 with heap := h1, toks := tk } := I1.kept fun b o e => hk b o (Heap.lt_size e) e
    refine args_nil (call_len_set ho hex hd hf (by rw [hn]; omega) ⟨.int (GSet.firsts xs).length, H1, I2.tok _, ⟨_, by rw [hn, List.take_length]⟩, q1⟩)
  rcases hq with hq | hq
  · obtain ⟨its, r, pl, hz⟩ := I1.list hq
    exact GSet.set_of_list (I1.ok.hd hc) pl.isList (by simpa using strsAre_of r) big fin
  · obtain ⟨its, r, pl, hz⟩ := I1.tuple hq
    exact GSet.set_of_tuple (I1.ok.hd hc) pl (by simpa using strsAre_of r) big fin
end L2
/-! Own rule: o.m(k = v, ..), a method of an own class called by keywords alone. -/
namespace L2
open PySem PySem.Spec PyProof.Rows
/-- [o], its class, then the keywords' values, then the promise of them in the parameters' order -/
def tMethKw (C : Addr) (m : Str) (n : Nat) (sp : Sp) (gV : List V → List V → List V) (E : XK) (ta : TE) (tk : TA) : TE := fun σ H Q =>
  ta σ H fun x H1 => ∃ a dx fs, x = .ref a ∧ H1 a = some (.ins C dx fs) ∧ fs.lookup m = none ∧ tk σ H1 fun zs H2 => zs.length = n ∧ sp (gV [x] zs) H2 Q E
section
variable {X : Cx} {CX : CXT} {k : Nat} {f C : Addr} {fd : FuncData} {ps ks : List Str} {sp : Sp} {E : XK} {o : Expr} {m : Str} {ta : TE} {apos : Pos} {pos : Pos} {kws : List Keyword} {tk : TA} {g : List Value → List Value → List Value} {gV : List V → List V → List V}
theorem pe_methKw {pl : Sem Bool} (he : PE X o ta) (c : Cls X.K C) (hm : Meth X.K C m f) (F : FnOk X.prog X.w X.K X.mg X.base CX k f fd ps sp) (hr : Room k X.A) (hb : KBn X.K fd ps 1 ks g gV) (hx : Passes CX X E) (hkw : PK X kws tk)
    (hall : (backToKw pos (keywordEach kws X.env)).all (·.1.isSome) = true := by rfl) (hks : (backToKw pos (keywordEach kws X.env)).filterMap (·.1) = ks := by rfl)
    (hpl : ((backTo pos (starEach [] X.env)).any (·.1) || (backToKw pos (keywordEach kws X.env)).any (·.1.isNone)) = false := by rfl)
    (ht : eval (.Call (.Attribute o m apos) [] kws pos) X.env = (do
      let v ← eval o X.env
      standAt apos.atName
      let (q, first) ← holding [v] (getMethod v m pl)
      callWith pos q first (backTo pos (starEach [] X.env)) (backToKw pos (keywordEach kws X.env))) := by rfl) :
    PE X (.Call (.Attribute o m apos) [] kws pos) (tMethKw C m ks.length sp gV E ta tk) := by
  refine ⟨fun pins s σ H Q I h => PySem.W.methodCall_KW (pl := pl) (thn (he.run pins s σ H _ I h) fun u s1 ⟨x, H1, I1, rx, a, dx, fs, ex, ea, l, q⟩ => ?_) ht⟩
  subst ex
  obtain rfl : u = Value.ref a := rx
  refine getmeth_ok I1 ea c hm l (PySem.W.callWith_KW0 (first := [.ref a]) (h₀ := X.base) I.ok.mod.kin hm.kp hall ?_ hpl)
  refine thn (hkw.run pos pins s1 σ H1 _ I1 q) fun ws s2 ⟨zs, H2, I2, rz, l2, q2⟩ => ⟨I2.kIn, ?_⟩
  rw [hks]
  exact run_fnN (us := [.ref a]) (vs := [.ref a]) F hr hb hx I2 (.cons rfl .nil) rz rfl l2 q2
end
/-- how one keyword behind self binds: h is «fun _ _ _ _ _ _ us ws l1 l2 => match us, ws, l1, l2 with | [_], [_], _, _ => rfl» -/
theorem Fun.kbn {K : PySem.W.Frag} {x qual : Str} {st : Stmt} {f : Addr} {fd : FuncData} {ps ks : List Str} {n : Nat} (F : Fun K x qual st f fd)
    (h : ∀ (kV doc pm : Value) (an : Option Addr) (cdv ct : Value) (us ws : List Value), us.length = n → ws.length = ks.length → bindArgs (PySem.W.fnOf x qual (defArgs st) (defBody st) (defScope st) .none kV doc pm an cdv ct) ⟨us, ks.zip ws⟩ = pure (ps.zip (us ++ ws))) :
    KBn K fd ps n ks (fun us ws => us ++ ws) (fun us ws => us ++ ws) := by
  obtain ⟨oc, od, kV, doc, pm, an, cdv, ct, osl, rfl, lk, hcd⟩ := F.ex
  exact ⟨fun s us ws _ l1 l2 => .of_eq (h kV doc pm an cdv ct us ws l1 l2), fun r rz => r.append rz⟩
/-- by places -/
def byPl {α : Type} (is : List Nat) (_us ws : List α) : List α := is.filterMap fun i => ws[i]?
theorem Vals.at? : ∀ {zs : List V} {ws : List Value} (i : Nat), Vals zs ws → (∃ z w, zs[i]? = some z ∧ ws[i]? = some w ∧ RelV z w) ∨ (zs[i]? = none ∧ ws[i]? = none)
  | _, _, _, .nil => .inr ⟨rfl, rfl⟩
  | _, _, 0, .cons r _ => .inl ⟨_, _, rfl, rfl, r⟩
  | _, _, i + 1, .cons _ t => Vals.at? i t
theorem Vals.byPl {zs : List V} {ws : List Value} (r : Vals zs ws) : ∀ is : List Nat, Vals (is.filterMap fun i => zs[i]?) (is.filterMap fun i => ws[i]?)
  | [] => .nil
  | i :: t => by
    have ih := Vals.byPl r t
    rcases Vals.at? i r with ⟨z, w, e1, e2, q⟩ | ⟨e1, e2⟩
    · rw [List.filterMap_cons_some e1, List.filterMap_cons_some e2]
      exact .cons q ih
    · rw [List.filterMap_cons_none e1, List.filterMap_cons_none e2]
      exact ih
/-- f(k = v, ..): keywords alone, is: where each parameter's value stands among them -/
theorem Fun.kbp {K : PySem.W.Frag} {x qual : Str} {st : Stmt} {f : Addr} {fd : FuncData} {ps ks : List Str} (is : List Nat) (F : Fun K x qual st f fd)
    (h : ∀ (kV doc pm : Value) (an : Option Addr) (cdv ct : Value) (ws : List Value), ws.length = ks.length → bindArgs (PySem.W.fnOf x qual (defArgs st) (defBody st) (defScope st) .none kV doc pm an cdv ct) ⟨[], ks.zip ws⟩ = pure (ps.zip (byPl is [] ws))) :
    KBn K fd ps 0 ks (byPl is) (byPl is) := by
  obtain ⟨oc, od, kV, doc, pm, an, cdv, ct, osl, rfl, lk, hcd⟩ := F.ex
  refine ⟨fun s us ws _ l1 l2 => .of_eq ?_, fun r rz => Vals.byPl rz is⟩
  cases us with
  | nil => exact h kV doc pm an cdv ct ws l2
  | cons _ _ => cases l1
def tCallK0 (n : Nat) (sp : Sp) (gV : List V → List V → List V) (E : XK) (tk : TA) : TE := fun σ H Q => tk σ H fun zs H2 => zs.length = n ∧ sp (gV [] zs) H2 Q E
section
variable {X : Cx} {CX : CXT} {k : Nat} {f : Addr} {fd : FuncData} {ps ks : List Str} {sp : Sp} {E : XK} {x : Str} {p pos : Pos} {kws : List Keyword} {tk : TA} {g : List Value → List Value → List Value} {gV : List V → List V → List V}
theorem pe_callK0 (F : FnOk X.prog X.w X.K X.mg X.base CX k f fd ps sp) (hr : Room k X.A) (hg : Gl X x) (hm : X.mg x = some (.ref f)) (hk : PySem.W.keepIn X.K (.ref f) = true) (hb : KBn X.K fd ps 0 ks g gV) (hx : Passes CX X E)
    (hkw : PK X kws tk) (hall : (backToKw pos (keywordEach kws X.env)).all (·.1.isSome) = true := by rfl) (hks : (backToKw pos (keywordEach kws X.env)).filterMap (·.1) = ks := by rfl)
    (hdb : (x == ("__debug__" : Str)) = false := by decide)
    (hpl : ((backTo pos (starEach [] X.env)).any (·.1) || (backToKw pos (keywordEach kws X.env)).any (·.1.isNone)) = false := by rfl) :
    PE X (.Call (.Name x p) [] kws pos) (tCallK0 ks.length sp gV E tk) := by
  refine ⟨fun pins s σ H Q I h => ?_⟩
  refine wpAny_Call_Name_kw (ld_glob I hg hm ?_ hdb)
  refine PySem.W.callWith_KW0 (h₀ := X.base) (first := []) I.ok.mod.kin hk hall ?_ hpl
  refine thn (hkw.run pos pins s σ H _ I h) fun ws s2 ⟨zs, H2, I2, rz, l2, q2⟩ => ⟨I2.kIn, ?_⟩
  rw [hks]
  exact run_fnN (us := []) (vs := []) F hr hb hx I2 .nil rz rfl l2 q2
end
end L2
/-! Lemmas that every law of this program wants: the state of the draws, lists and texts, what a comparison of data tells. -/
namespace GL
open PySem PySem.Spec PyProof.Rows L2
/-! ### the draws' state: a list at S, its cells at C -/
def StOk (H : Hp) (S C : Addr) : Prop := ∃ (cells : List Int) (k m : Int), H S = some (.lst [.ref C, .int k, .int m]) ∧ H C = some (.lst (cells.map V.int)) ∧ 0 < cells.length ∧ cells.length ≤ 63 ∧ (∀ c ∈ cells, 0 ≤ c) ∧ 0 ≤ k ∧ 0 ≤ m ∧ m < 2147483647
/-- all but the state stands as it stood -/
def Mod (S C : Addr) (H H' : Hp) : Prop := ∀ b o, H b = some o → b ≠ S → b ≠ C → H' b = some o
theorem Mod.refl (S C : Addr) (H : Hp) : Mod S C H H := fun _ _ h _ _ => h
theorem Mod.trans {S C : Addr} {H H1 H2 : Hp} (a : Mod S C H H1) (b : Mod S C H1 H2) : Mod S C H H2 := fun x o h n1 n2 => b x o (a x o h n1 n2) n1 n2
theorem Mod.of {S C : Addr} {H H1 : Hp} (a : Same H H1) : Mod S C H H1 := fun x o h _ _ => a x o h
theorem same_new {H : Hp} {p : Addr} {o : HO} (h : H p = none) : Same H (upd H p o) := fun b x e => by
  rw [upd_ne (ne_of_none e h)]
  exact e
/-- a new object of the call's own may change -/
theorem _root_.L2.Same.own {H H1 : Hp} {p : Addr} {o : HO} (s : Same H H1) (h : H p = none) : Same H (upd H1 p o) := fun b x e => by
  rw [upd_ne (ne_of_none e h)]
  exact s b x e
theorem Mod.own {S C : Addr} {H H1 : Hp} {p : Addr} {o : HO} (s : Mod S C H H1) (h : H p = none) : Mod S C H (upd H1 p o) := fun b x e n1 n2 => by
  rw [upd_ne (ne_of_none e h)]
  exact s b x e n1 n2
theorem StOk.ne {H : Hp} {S C : Addr} (h : StOk H S C) : S ≠ C := fun e => by
  obtain ⟨cells, k, m, h1, h2, _⟩ := h
  rw [e, h2] at h1
  cases cells with
  | nil => cases h1
  | cons x r => cases h1
theorem StOk.same {H H' : Hp} {S C : Addr} (h : StOk H S C) (s : Same H H') : StOk H' S C := by
  obtain ⟨cells, k, m, h1, h2, r⟩ := h
  exact ⟨cells, k, m, s _ _ h1, s _ _ h2, r⟩
theorem StOk.upd {H : Hp} {S C p : Addr} {o : HO} (h : StOk H S C) (n1 : p ≠ S) (n2 : p ≠ C) : StOk (upd H p o) S C := by
  obtain ⟨cells, k, m, h1, h2, r⟩ := h
  exact ⟨cells, k, m, by rw [upd_ne n1.symm]; exact h1, by rw [upd_ne n2.symm]; exact h2, r⟩
theorem StOk.neS {H : Hp} {S C p : Addr} (h : StOk H S C) (n : H p = none) : p ≠ S := fun e => by
  obtain ⟨cells, k, m, h1, h2, r⟩ := h
  rw [e, h1] at n
  cases n
theorem StOk.neC {H : Hp} {S C p : Addr} (h : StOk H S C) (n : H p = none) : p ≠ C := fun e => by
  obtain ⟨cells, k, m, h1, h2, r⟩ := h
  rw [e, h2] at n
  cases n
/-- an object of another kind is none of the two -/
theorem StOk.offL {H : Hp} {S C p : Addr} {o : HO} (h : StOk H S C) (e : H p = some o) (k : ∀ xs, o ≠ .lst xs) : p ≠ S ∧ p ≠ C := by
  obtain ⟨cells, i, m, h1, h2, r⟩ := h
  refine ⟨fun z => ?_, fun z => ?_⟩
  · rw [z, h1] at e
    exact k _ (Option.some.inj e).symm
  · rw [z, h2] at e
    exact k _ (Option.some.inj e).symm
theorem StOk.offS {H : Hp} {S C p : Addr} {ys : List Str} (h : StOk H S C) (e : H p = some (.lst (ys.map V.str))) : p ≠ S ∧ p ≠ C := by
  obtain ⟨cells, i, m, h1, h2, h0, r⟩ := h
  refine ⟨fun z => ?_, fun z => ?_⟩
  · rw [z, h1] at e
    cases ys with
    | nil => cases e
    | cons y r => cases e
  · rw [z, h2] at e
    cases ys with
    | nil =>
      cases cells with
      | nil => exact absurd h0 (Nat.lt_irrefl _)
      | cons x r => cases e
    | cons y r =>
      cases cells with
      | nil => cases e
      | cons x r => cases e
theorem Mod.strs {S C p : Addr} {H H' : Hp} {ys : List Str} (m : Mod S C H H') (h : StOk H S C) (e : H p = some (.lst (ys.map V.str))) : H' p = some (.lst (ys.map V.str)) :=
  m _ _ e (h.offS e).1 (h.offS e).2
theorem Mod.other {S C p : Addr} {H H' : Hp} {o : HO} (m : Mod S C H H') (h : StOk H S C) (e : H p = some o) (k : ∀ xs, o ≠ .lst xs) : H' p = some o :=
  m _ _ e (h.offL e k).1 (h.offL e k).2
/-! ### items -/
theorem cell_at {xs : List Int} {z : Int} (h0 : 0 ≤ z) (h : z < (xs.length : Int)) : ∃ (j : Nat) (c : Int), z = (j : Int) ∧ j < xs.length ∧ xs[j]? = some c ∧ (xs.map V.int)[j]? = some (.int c) ∧ c ∈ xs := by
  obtain ⟨j, rfl⟩ := Int.eq_ofNat_of_zero_le h0
  have hj : j < xs.length := by omega
  refine ⟨j, xs[j], rfl, hj, List.getElem?_eq_getElem hj, ?_, List.getElem_mem hj⟩
  rw [List.getElem?_map, List.getElem?_eq_getElem hj]
  rfl
theorem ixN_of {n j : Nat} {z : Int} (e : z = (j : Int)) (h : j < n) : ixN n z = some j := by
  subst e
  unfold ixN
  rw [if_pos (by omega), if_pos (by omega)]
  rfl
theorem lst3_set1 (a b c d : V) : ([a, b, c] : List V).set 1 d = [a, d, c] := rfl
theorem at_some {α : Type} {xs : List α} {d : Int} (h0 : 0 ≤ d) (h : d < (xs.length : Int)) : ∃ j v, d = ((j : Nat) : Int) ∧ xs[j]? = some v ∧ v ∈ xs := by
  obtain ⟨j, rfl⟩ := Int.eq_ofNat_of_zero_le h0
  have hj : j < xs.length := by omega
  exact ⟨j, xs[j], rfl, List.getElem?_eq_getElem hj, List.getElem_mem hj⟩
theorem atI_at {α : Type} {xs : List α} {d : Int} {j : Nat} {v : α} (e : d = ((j : Nat) : Int)) (h : xs[j]? = some v) : atI xs d = some v := by
  subst e
  unfold atI
  rw [ixN_of rfl (List.getElem?_eq_some_iff.mp h).1]
  exact h
theorem strs_at {xs : List Str} {j : Nat} {v : Str} (h : xs[j]? = some v) : (xs.map V.str)[j]? = some (.str v) := by
  rw [List.getElem?_map, h]
  rfl
theorem of_strs_at {xs : List Str} {j : Nat} {v : V} (h : (xs.map V.str)[j]? = some v) : ∃ z, xs[j]? = some z ∧ v = .str z := by
  rw [List.getElem?_map] at h
  cases e : xs[j]? with
  | none => rw [e] at h; cases h
  | some z => rw [e] at h; exact ⟨z, rfl, (Option.some.inj h).symm⟩
theorem of_ints_at {xs : List Int} {j : Nat} {v : V} (h : (xs.map V.int)[j]? = some v) : ∃ z, xs[j]? = some z ∧ v = .int z := by
  rw [List.getElem?_map] at h
  cases e : xs[j]? with
  | none => rw [e] at h; cases h
  | some z => rw [e] at h; exact ⟨z, rfl, (Option.some.inj h).symm⟩
theorem take_snoc {α : Type} {l : List α} {i : Nat} {x : α} (h : l[i]? = some x) : l.take (i + 1) = l.take i ++ [x] := by
  rw [List.take_succ, h]
  rfl
theorem small_nat {n : Nat} (h : n ≤ 100000) : (n : Int).natAbs < 2 ^ 200 := by
  rw [Int.natAbs_natCast]
  exact Nat.lt_of_le_of_lt h (by decide)
theorem small_sz {n : Nat} (h : n ≤ 100000) : n ≤ sizeLine := Nat.le_trans h (by decide)
theorem small_lt {n : Nat} (h : n < 100000) : n < sizeLine := Nat.lt_of_lt_of_le h (by decide)
/-- one taken out -/
theorem erase_perm {α : Type} : ∀ {l : List α} {j : Nat} {x : α}, l[j]? = some x → (x :: l.eraseIdx j).Perm l
  | [], _, _, h => by simp at h
  | a :: r, 0, x, h => by
    have e : a = x := Option.some.inj h
    subst e
    exact .refl _
  | a :: r, j + 1, x, h => by
    have ih := erase_perm (l := r) (j := j) (x := x) h
    show (x :: a :: r.eraseIdx j).Perm (a :: r)
    exact (List.Perm.swap _ _ _).trans (ih.cons a)
theorem erase_map {α β : Type} (f : α → β) : ∀ (l : List α) (j : Nat), (l.map f).eraseIdx j = (l.eraseIdx j).map f
  | [], _ => rfl
  | a :: r, 0 => rfl
  | a :: r, j + 1 => by
    show f a :: (r.map f).eraseIdx j = f a :: (r.eraseIdx j).map f
    rw [erase_map f r j]
theorem take_min {α : Type} (xs : List α) (k : Nat) : xs.take (min k xs.length) = xs.take k := by
  by_cases h : k ≤ xs.length
  · rw [Nat.min_eq_left h]
  · rw [Nat.min_eq_right (by omega), List.take_length, List.take_of_length_le (by omega)]
theorem drop_min {α : Type} (xs : List α) (k : Nat) : xs.drop (min k xs.length) = xs.drop k := by
  by_cases h : k ≤ xs.length
  · rw [Nat.min_eq_left h]
  · rw [Nat.min_eq_right (by omega), List.drop_length, List.drop_of_length_le (by omega)]
theorem cut_take (xs : List V) (k : Nat) : cutV xs none (some (k : Int)) = xs.take k := by
  unfold cutV
  rw [HT.sIx_none, HT.sIx_nat, List.drop_zero, Nat.sub_zero, take_min]
theorem cut_drop (xs : List V) (k : Nat) : cutV xs (some (k : Int)) none = xs.drop k := by
  unfold cutV
  rw [HT.sIx_none, HT.sIx_nat, drop_min, List.take_of_length_le]
  rw [List.length_drop]
  omega
/-! ### texts as data -/
theorem dp_all {K : PySem.W.Frag} {H : Hp} : ∀ ys : List Str, DpAll K H (ys.map V.str) (ys.map PyData.str)
  | [] => .nil
  | y :: r => .cons (.str y) (dp_all r)
theorem dp_list {K : PySem.W.Frag} {H : Hp} {a : Addr} {ys : List Str} (h : H a = some (.lst (ys.map V.str))) : Dp K H (.ref a) (.list (ys.map PyData.str)) := .lst (SqL.of h) (dp_all ys)
theorem dp_tup {K : PySem.W.Frag} {H : Hp} {a : Addr} {ys : List Str} (h : H a = some (.tup (ys.map V.str))) : Dp K H (.ref a) (.tuple (ys.map PyData.str)) := .tup (SqT.of h) (dp_all ys)
theorem can_strs : ∀ ys : List Str, (∀ y ∈ ys, PyData.strOk y = true) → PyData.canLayAll0 (ys.map PyData.str) = true
  | [], _ => by rw [List.map_nil, PyData.canLayAll0]
  | y :: r, h => by
    rw [List.map_cons, PyData.canLayAll0, PyData.canLay0, h y List.mem_cons_self, can_strs r fun z hz => h z (List.mem_cons_of_mem _ hz)]
    rfl
theorem depth_strs : ∀ ys : List Str, PyData.depthAll (ys.map PyData.str) = 0
  | [] => by rw [List.map_nil, PyData.depthAll]
  | y :: r => by
    rw [List.map_cons, PyData.depthAll, depth_strs r, PyData.depth]
    rfl
theorem shaped_list {ys : List Str} (h : ∀ y ∈ ys, PyData.strOk y = true) : SeqAt.shaped (.list (ys.map PyData.str)) = true := by
  unfold SeqAt.shaped
  rw [PyData.canLay0, can_strs ys h, PyData.depth, depth_strs]
  rfl
theorem shaped_tup {ys : List Str} (h : ∀ y ∈ ys, PyData.strOk y = true) : SeqAt.shaped (.tuple (ys.map PyData.str)) = true := by
  unfold SeqAt.shaped
  rw [PyData.canLay0, can_strs ys h, PyData.depth, depth_strs]
  rfl
theorem eqv_strs : ∀ xs ys : List Str, PyData.eqvAll (xs.map PyData.str) (ys.map PyData.str) = decide (xs = ys)
  | [], [] => by rw [List.map_nil, PyData.eqvAll]; rfl
  | [], y :: r => by rw [List.map_nil, List.map_cons, PyData.eqvAll]; rfl
  | x :: r, [] => by rw [List.map_nil, List.map_cons, PyData.eqvAll]; rfl
  | x :: r, y :: s => by
    rw [List.map_cons, List.map_cons, PyData.eqvAll, PyData.eqv, eqv_strs r s, Bool.eq_iff_iff, Bool.and_eq_true, beq_iff_eq, decide_eq_true_iff, decide_eq_true_iff, List.cons.injEq]
theorem eqv_lists (xs ys : List Str) : PyData.eqv (.list (xs.map PyData.str)) (.list (ys.map PyData.str)) = decide (xs = ys) := by rw [PyData.eqv, eqv_strs]
theorem eqv_tups (xs ys : List Str) : PyData.eqv (.tuple (xs.map PyData.str)) (.tuple (ys.map PyData.str)) = decide (xs = ys) := by rw [PyData.eqv, eqv_strs]
/-! ### ints as data -/
theorem dpi_all {K : PySem.W.Frag} {H : Hp} : ∀ ys : List Int, DpAll K H (ys.map V.int) (ys.map PyData.int)
  | [] => .nil
  | y :: r => .cons (.int y) (dpi_all r)
theorem can_ints : ∀ ys : List Int, PyData.canLayAll0 (ys.map PyData.int) = true
  | [] => by rw [List.map_nil, PyData.canLayAll0]
  | y :: r => by rw [List.map_cons, PyData.canLayAll0, PyData.canLay0, can_ints r]; rfl
theorem depth_ints : ∀ ys : List Int, PyData.depthAll (ys.map PyData.int) = 0
  | [] => by rw [List.map_nil, PyData.depthAll]
  | y :: r => by rw [List.map_cons, PyData.depthAll, depth_ints r, PyData.depth]; rfl
theorem shapedi_list (ys : List Int) : SeqAt.shaped (.list (ys.map PyData.int)) = true := by
  unfold SeqAt.shaped
  rw [PyData.canLay0, can_ints ys, PyData.depth, depth_ints]
  rfl
theorem shapedi_tup (ys : List Int) : SeqAt.shaped (.tuple (ys.map PyData.int)) = true := by
  unfold SeqAt.shaped
  rw [PyData.canLay0, can_ints ys, PyData.depth, depth_ints]
  rfl
theorem eqv_ints : ∀ xs ys : List Int, PyData.eqvAll (xs.map PyData.int) (ys.map PyData.int) = decide (xs = ys)
  | [], [] => by rw [List.map_nil, PyData.eqvAll]; rfl
  | [], y :: r => by rw [List.map_nil, List.map_cons, PyData.eqvAll]; rfl
  | x :: r, [] => by rw [List.map_nil, List.map_cons, PyData.eqvAll]; rfl
  | x :: r, y :: s => by
    rw [List.map_cons, List.map_cons, PyData.eqvAll, PyData.eqv, eqv_ints r s, Bool.eq_iff_iff, Bool.and_eq_true, beq_iff_eq, decide_eq_true_iff, decide_eq_true_iff, List.cons.injEq]
theorem eqvi_lists (xs ys : List Int) : PyData.eqv (.list (xs.map PyData.int)) (.list (ys.map PyData.int)) = decide (xs = ys) := by rw [PyData.eqv, eqv_ints]
theorem eqvi_tups (xs ys : List Int) : PyData.eqv (.tuple (xs.map PyData.int)) (.tuple (ys.map PyData.int)) = decide (xs = ys) := by rw [PyData.eqv, eqv_ints]
/-! ### promises of the helpers -/
def spDraw : Sp := fun vs H Q _ => ∃ (S C : Addr) (n : Int), vs = [.ref S, .int n] ∧ 0 < n ∧ n.natAbs < 2 ^ 200 ∧ StOk H S C ∧ ∀ H' d, Mod S C H H' → StOk H' S C → 0 ≤ d → d < n → Q (.int d) H'
/-- one of a list, or one sign of a text -/
def spPick : Sp := fun vs H Q _ => ∃ (S C : Addr) (x : V), vs = [.ref S, x] ∧ StOk H S C ∧
  ((∃ a xs, x = .ref a ∧ a ≠ S ∧ a ≠ C ∧ H a = some (.lst xs) ∧ 0 < xs.length ∧ xs.length ≤ 1000 ∧ ∀ H' v, Mod S C H H' → StOk H' S C → v ∈ xs → Q v H') ∨
   (∃ z : Str, x = .str z ∧ 0 < z.cps.toList.length ∧ z.length ≤ 1000 ∧ ∀ H' c, Mod S C H H' → StOk H' S C → c ∈ z.cps.toList → Q (.str ⟨#[c]⟩) H'))
/-- a new list of the same, in some order -/
def spMixed : Sp := fun vs H Q _ => ∃ (S C a : Addr) (ns : List Str), vs = [.ref S, .ref a] ∧ StOk H S C ∧ H a = some (.lst (ns.map V.str)) ∧ ns.length ≤ 100 ∧ (∀ y ∈ ns, PyData.strOk y = true) ∧
  ∀ H' p ys, Mod S C H H' → StOk H' S C → H p = none → H' p = some (.lst (List.map V.str ys)) → ys.Perm ns → Q (.ref p) H'
/-- a slip of at most 58 figures -/
def spSlip : Sp := fun vs H Q _ => ∃ (S C : Addr), vs = [.ref S] ∧ StOk H S C ∧ ∀ H' z, Mod S C H H' → StOk H' S C → Int.natAbs z < 10 ^ 58 → Q (.int z) H'
def spState (K : PySem.W.Frag) : Sp := fun vs H Q _ => ∃ (a : Addr) (ns : List Int), vs = [.ref a] ∧ SqL K H a (ns.map V.int) ∧ ns.length ≤ 63 ∧ ∀ H' S C, Same H H' → H S = none → H C = none → StOk H' S C → Q (.ref S) H'
def spLaw (K : PySem.W.Frag) : Sp := fun vs H Q _ => ∃ (a : Addr) (ns : List Int), vs = [.ref a] ∧ SqL K H a (ns.map V.int) ∧ ns.length ≤ 63 ∧ ∀ H', Q (.bl true) H'
end GL
/-! Own rule: sorted(d), d a dict whose keys are numbers, however many. -/
namespace L2
open PySem PySem.Spec PyProof.Rows
variable {X : Cx}
theorem keys_nums {us : List Value} {ns : List Int} (h : us.length = ns.length) (g : ∀ (i : Nat) (u : Value) (n : Int), us[i]? = some u → ns[i]? = some n → ∃ t, u = Value.int n t) : IntsAre us ns := by
  refine ints_each h fun i u e => ?_
  have hlt : i < ns.length := by rw [← h]; exact (List.getElem?_eq_some_iff.mp e).1
  obtain ⟨t, rfl⟩ := g i u _ e (List.getElem?_eq_getElem hlt)
  exact ⟨_, t, List.getElem?_eq_getElem hlt, rfl⟩
def rSortKeys : List V → Hp → VK → Prop := fun xs H Q => ∃ (d : Addr) (kvs : List (Key × V)) (ns : List Int), xs = [.ref d] ∧ Rd H d (.dK kvs) ∧ kvs.map (·.1) = ns.map Sum.inl ∧ ns.length ≤ 5000 ∧
  ∀ (ms : List Int) (q : Addr), ms.Perm ns → ms.Pairwise (· ≤ ·) → H q = none → Q (.ref q) (upd H q (.lst (ms.map V.int)))
theorem cr_sortedKeys (calm : X.calm = true) : CallR X (.builtin "sorted") rSortKeys := by
  intro pins s σ H xs us Q I rel hyp
  obtain ⟨d, kvs, ns, rfl, hd, hk, hlen, fin⟩ := hyp
  rw [Vals.ref1 rel]
  obtain ⟨z, lo, raw, krel, dl⟩ := dk_rd I.hok hd
  obtain ⟨ep, at'⟩ := dl.dictAt
  have hraw : raw.map (·.1) = ns.map Sum.inl := krel.keys.symm.trans hk
  have len : raw.length = ns.length := by simpa using congrArg List.length hraw
  have line : ns.length ≤ sizeLine := Nat.le_trans hlen (by decide)
  refine Calls.call_function_entry PyProof.Rows.kind_sorted PyProof.Rows.plain_sorted PyProof.Rows.entry_sorted (PyProof.Rows.args_sorted1 _) ?_
  unfold Builtin.«sorted»
  refine wpAny_bind (m := checkCount "sorted" 1 1 _) (wpAny_pure ?_)
  refine wpAny_bind (PySem.W.kdu_collect (A := X.A.in1) (PySem.W.kdl_dict (knd := mixKind X.prog X.w) (kvs := raw) (ep := ep) lo) (I.ok.hd calm) at' (by rw [len]; exact line) fun h1 tk got kept hgot => ?_)
  have gl : got.toList.length = ns.length := by rw [Array.length_toList, hgot.1, len]
  have nums : IntsAre got.toList ns := keys_nums gl fun i u n e en => by
    obtain ⟨k, w, e1, e2⟩ := hgot.2 i u (by rw [← Array.getElem?_toList]; exact e)
    have e3 : (raw.map (·.1))[i]? = some k := by rw [List.getElem?_map, e1]; rfl
    rw [hraw, List.getElem?_map, en] at e3
    have e4 : Sum.inl n = k := Option.some.inj e3
    subst e4
    rcases keyIs_shape (show keyIs (Sum.inl n) u = true from e2) with ⟨m, t, ek, ev⟩ | ⟨m, t, ek, ev⟩
    · cases ek
      exact ⟨t, ev⟩
    · cases ek
  have I1 : Inv X pins σ H { s with heap := h1, toks := tk } := I.kept kept
  refine wpAny_bind (wpAny_newList ?_ (by rw [gl]; exact line))
  have ob : (h1.push (seqObj "list" got.toList.toArray 0)).get? h1.objs.size = some (seqObj "list" got.toList.toArray 0) := Heap.get?_push_size _ rfl
  show wpAny _ _ _ _ _ { s with heap := h1.push (seqObj "list" got.toList.toArray 0), toks := tk }
  refine wpAny_bind (wpAny_holding (wpAny_call_entry PyProof.Rows.slot_list_sort ⟨_, ob, rfl⟩ PyProof.Rows.entry_list_sort
    (SrtO.list_sort_ord SrtO.swo_int (s := { s with heap := h1.push (seqObj "list" got.toList.toArray 0), toks := tk }) ob (by rw [gl]; exact line) (fun two => SrtO.ints_sortable nums two) fun out g1 g2 => ⟨_, rfl, ?_⟩) (PyProof.Rows.args_list_sort _)))
  obtain ⟨k1, k2, k3⟩ := SrtO.ints_out nums g1 g2
  obtain ⟨ep', at2⟩ := PyProof.Rows.sortedHeap_at (vs := got.toList) (out := out.toArray) ob
  have small : ((out.map SrtO.iv).map V.int).length ≤ sizeLine := by rw [List.length_map, k2.length_eq]; exact line
  refine wpAny_pure ⟨_, rfl, .ref h1.objs.size, upd H h1.objs.size (.lst ((out.map SrtO.iv).map V.int)), I1.laid (t' := tk) (fun b u e => ?_) (Nat.le_refl _)
    (show ObjOk X.prog X.w _ _ _ (.lst ((out.map SrtO.iv).map V.int)) from ⟨small, out, ep', vals_of_ints k1, at2⟩), rfl, fin _ _ k2 k3 (I1.hok.fresh (Nat.le_refl _))⟩
  have lt := Heap.lt_size e
  rw [PyProof.Rows.sortedHeap_old (Nat.ne_of_lt lt) (by rw [size_push']; exact Nat.lt_succ_of_lt lt)]
  exact Heap.get?_push_of_some _ e
/-- a row to be gone through that is a list or a tuple -/
theorem pi_either {tg e : Expr} {w1 w2 : TI} (a : PI X tg e w1) (b : PI X tg e w2) : PI X tg e (fun σ H R => w1 σ H R ∨ w2 σ H R) :=
  ⟨fun pins s σ H R I h => h.elim (a.run pins s σ H R I) (b.run pins s σ H R I)⟩
end L2
/-! Tuples of which it is known that they have no dict of their own: made by tuple(l), t + u, t[i:j]; t.index(x). -/
namespace L2
open PySem PySem.Spec PyProof.Rows
/-- a tuple whose object is known -/
def TupF (H : Hp) (a : Addr) (xs : List V) : Prop := ∃ o : Obj, o.dict = none ∧ H a = some (.frz o (.tup xs))
theorem TupF.same {H H' : Hp} {a : Addr} {xs : List V} (h : TupF H a xs) (s : Same H H') : TupF H' a xs := let ⟨o, e, q⟩ := h; ⟨o, e, s _ _ q⟩
theorem TupF.sq {K : PySem.W.Frag} {H : Hp} {a : Addr} {xs : List V} (h : TupF H a xs) : SqT K H a xs := let ⟨o, _, q⟩ := h; .inl (.inr ⟨o, q⟩)
section
variable {X : Cx}
/-- tuple(l), l a list -/
theorem call_tupleF : CallR X (.type "tuple") (fun xs H Q => ∃ p ys, xs = [.ref p] ∧ SqL X.K H p ys ∧ ∀ l o, H l = none → o.dict = none → Q (.ref l) (upd H l (.frz o (.tup ys)))) := by
  intro pins s σ H xs us Q I r h
  obtain ⟨p, ys, rfl, hq, q⟩ := h
  obtain ⟨u, rfl, rx⟩ := vals1 r
  cases rx
  obtain ⟨its, r', pl, hz⟩ := I.list hq
  have hlen := r'.length
  refine call_tuple_list pl.isList (fun h' kp => ?_) (by simp only [List.size_toArray] <;> omega)
  have I1 : Inv X pins σ H { s with heap := h' } := I.kept (t' := s.toks) kp
  have I2 : Inv X pins σ (upd H h'.objs.size (.frz { cls := .type "tuple", data := .seq its.toArray } (.tup ys))) { s with heap := h'.push { cls := .type "tuple", data := .seq its.toArray } } :=
    I1.laid (t' := s.toks) (fun b o e => Heap.get?_push_of_some _ e) (Nat.le_refl _) (show ObjOk X.prog X.w _ _ _ (.frz { cls := .type "tuple", data := .seq its.toArray } (.tup ys)) from ⟨Heap.get?_push_size _ rfl, hz, its, r', IsTup.new _ _⟩)
  exact ⟨.ref h'.objs.size, _, I2, rfl, q _ _ (I1.hok.fresh (Nat.le_refl _)) rfl⟩
/-- t + u -/
def rCatF (K : PySem.W.Frag) : R2 := fun x y H Q => ∃ a b xs ys, x = .ref a ∧ y = .ref b ∧ SqT K H a xs ∧ SqT K H b ys ∧ xs.length + ys.length ≤ sizeLine ∧
  (xs = [] → Q (.ref b) H) ∧ (xs ≠ [] → ys = [] → Q (.ref a) H) ∧ (xs ≠ [] → ys ≠ [] → ∀ p o, H p = none → o.dict = none → Q (.ref p) (upd H p (.frz o (.tup (xs ++ ys)))))
theorem op_catF : OpR X (binaryOp .Add) (rCatF X.K) := by
  intro pins s σ H x y v u Q I rx ry h
  obtain ⟨a, b, xs, ys, rfl, rfl, ha, hb, hz, q0, q1, q2⟩ := h
  by_cases hx : xs = []
  · subst hx
    exact op_catA pins s σ H _ _ v u Q I rx ry ⟨a, b, [], ys, rfl, rfl, ha, hb, hz, q0, fun e => absurd rfl e, fun e => absurd rfl e⟩
  · cases rx
    cases ry
    obtain ⟨its, r1, p1, _⟩ := I.tuple ha
    obtain ⟨its2, r2, p2, _⟩ := I.tuple hb
    refine HT.cat_tup p1 p2 (fun z => hx (r1.nil_iff.mp z)) (fun z => ⟨.ref a, H, I, rfl, q1 hx (r2.nil_iff.mp z)⟩) (fun z => ?_) (by rw [← r1.length, ← r2.length]; exact hz)
    refine ⟨.ref s.heap.objs.size, _, I.laid (t' := s.toks) (o := .frz { cls := .type "tuple", data := .seq (its ++ its2).toArray } (.tup (xs ++ ys))) (fun b ob q => Heap.get?_push_of_some _ q) (Nat.le_refl _) ?_, rfl, q2 hx (fun w => z (r2.nil_iff.mpr w)) _ _ (I.hok.fresh (Nat.le_refl _)) rfl⟩
    exact ⟨Heap.get?_push_size _ rfl, by rw [List.length_append]; exact hz, _, r1.append r2, IsTup.new _ _⟩
/-- t[lo:hi] -/
def rSlF (K : PySem.W.Frag) : V → Option Int → Option Int → Hp → VK → Prop := fun x lo hi H Q => ∃ a xs, x = .ref a ∧ SqT K H a xs ∧
  (HT.sIx xs.length 0 lo = 0 ∧ HT.sIx xs.length xs.length hi = xs.length → Q (.ref a) H) ∧ (¬ (HT.sIx xs.length 0 lo = 0 ∧ HT.sIx xs.length xs.length hi = xs.length) → ∀ p o, H p = none → o.dict = none → Q (.ref p) (upd H p (.frz o (.tup (cutV xs lo hi)))))
theorem sl_tupF : SlR X (rSlF X.K) := by
  intro pins s σ H x v vl vu lo hi sl Q I rx hs pl pu h
  obtain ⟨a, xs, rfl, hx, q1, q2⟩ := h
  by_cases hw : HT.sIx xs.length 0 lo = 0 ∧ HT.sIx xs.length xs.length hi = xs.length
  · exact sl_tupA pins s σ H _ v vl vu lo hi sl Q I rx hs pl pu ⟨a, xs, rfl, hx, q1, fun e => absurd hw e⟩
  · cases rx
    obtain ⟨its, r, ht, hz⟩ := I.tuple hx
    have hlen : its.toArray.size = xs.length := by rw [List.size_toArray]; exact r.length.symm
    refine ⟨"tuple", _, PyProof.Rows.slot_tuple_getitem.lookup, ht.typeIs, ?_⟩
    refine HT.getItem_tuple_cut ht hs pl pu (by rw [hlen]; exact hw) ?_ (by rw [hlen]; exact hz)
    rw [hlen]
    refine ⟨.ref s.heap.objs.size, _, I.laid (t' := s.toks) (o := .frz { cls := .type "tuple", data := .seq ((its.drop (HT.sIx xs.length 0 lo)).take (HT.sIx xs.length xs.length hi - HT.sIx xs.length 0 lo)).toArray } (.tup (cutV xs lo hi))) (fun b ob q => Heap.get?_push_of_some _ q) (Nat.le_refl _) ?_, rfl, q2 hw _ _ (I.hok.fresh (Nat.le_refl _)) rfl⟩
    exact ⟨Heap.get?_push_size _ rfl, Nat.le_trans (cutV_length xs lo hi) hz, _, (r.drop (HT.sIx xs.length 0 lo)).take (HT.sIx xs.length xs.length hi - HT.sIx xs.length 0 lo), IsTup.new _ _⟩
def tBMF (r : V → List V → Hp → VK → Prop) (to : TE) (t : TA) : TE := fun σ H Q => to σ H fun x H1 => (∃ a xs, x = .ref a ∧ TupF H1 a xs) ∧ t σ H1 fun xs H2 => r x xs H2 Q
variable {o e : Expr} {es : List Expr} {to : TE} {t : TA} {name : Str} {apos cpos : Pos} {id : String} {r : V → List V → Hp → VK → Prop}
/-- t.m(e, ..), t a tuple whose object is known -/
theorem pe_bmF (slot : Slot "tuple" name id) (hty : typeOf (.builtin id) = pure (.type "method_descriptor")) (hm : MtR X id r) (ho : PE X o to) (ha : PA X (e :: es) t)
    (hbase : attributeBase o name X.env (eval o X.env) = eval o X.env := by rfl)
    (hfew : ((backTo cpos (starEach (e :: es) X.env)).all (fun x => !x.1) && (backToKw cpos (keywordEach [] X.env)).all (fun x => x.1.isSome)
      && decide ((e :: es).length + ([] : List Keyword).length + (if ([] : List Keyword).isEmpty then 0 else 1) < 30)) = true := by rfl)
    (hline : (apos.endLine == cpos.line) = true := by rfl) (hs : starEach (e :: es) X.env = (false, eval e X.env) :: starEach es X.env := by rfl) (hplain : (backTo cpos (starEach es X.env)).any (·.1) = false := by rfl) :
    PE X (.Call (.Attribute o name apos) (e :: es) [] cpos) (tBMF r to t) := by
  refine ⟨fun pins s σ H Q I h => ?_⟩
  refine wpAny_Call_method_late hbase hfew hline rfl (thn (ho.run pins s σ H _ I h) fun v s1 ⟨x, H1, I1, r1, ty, q1⟩ => ?_)
  obtain ⟨a, xs, rfl, ob, hd, he⟩ := ty
  cases (show v = Value.ref a from r1)
  obtain ⟨hg, _, its, rv, o', h1, h2, _⟩ := (show ObjOk X.prog X.w H1 s1.heap a (.frz ob (.tup xs)) from I1.hok a _ he)
  refine ⟨"tuple", id, PySem.F.plainAttrs_tuple, slot, hty, ⟨o', h1, h2⟩, fun b eb => ?_, ?_⟩
  · cases eb
    exact ⟨ob, hg, hd⟩
  have hA := ha.run cpos pins s1 σ H1 _ I1 q1
  rw [hs] at hA ⊢
  refine Calls.callWith_builtin (by show (false || (backTo cpos (starEach es X.env)).any (·.1)) = false; rw [hplain] <;> rfl) (Calls.evalArgs_plain ?_)
  exact thn hA fun us s2 ⟨vs, H2, I2, r2, q2⟩ => hm pins s2 σ H2 _ vs _ us Q I2 r1 r2 q2
end
end L2
/-! Own rule: list(range(a, b, c)), c from 1 on. -/
namespace L2
open PySem PySem.Spec PyProof.Rows
theorem range_small {a b c : Int} (a0 : 0 ≤ a) (b0 : 0 ≤ b) (c0 : 0 < c) (a1 : a ≤ 100000) (b1 : b ≤ 100000) (c1 : c ≤ 100000) : Builtin.Range.small a b c = true ∧ Builtin.Range.rangeSize a b c ≤ 100000 ∧ 0 ≤ Builtin.Range.rangeSize a b c := by
  have hs : Builtin.Range.rangeSize a b c ≤ 100000 ∧ 0 ≤ Builtin.Range.rangeSize a b c := by
    unfold Builtin.Range.rangeSize
    rw [if_pos (show c > 0 from c0)]
    split
    · have h1 : (b - a - 1) / c ≤ b - a - 1 := Int.ediv_le_self _ (by omega)
      have h2 : 0 ≤ (b - a - 1) / c := Int.ediv_nonneg (by omega) (by omega)
      omega
    · omega
  refine ⟨?_, hs⟩
  obtain ⟨s1, s2⟩ := hs
  unfold Builtin.Range.small
  rw [if_pos (show c > 0 from c0)]
  simp only [Builtin.Range.rangeFitsLong, Bool.and_eq_true, Bool.or_eq_true, decide_eq_true_eq]
  refine ⟨⟨⟨⟨?_, ?_⟩, ?_⟩, ?_⟩, .inr ?_⟩ <;> omega
/-- the numbers from a on below b, by c -/
def rgC (a b c : Int) : List Int := (List.range (Builtin.Range.rangeSize a b c).toNat).map fun k : Nat => a + (k : Int) * c
def tListRgC (ta : TA) : TE := fun σ H Q => ta σ H fun vs H1 => ∃ i j c : Int, vs = [.int i, .int j, .int c] ∧ (0 ≤ i ∧ 0 ≤ j ∧ 0 < c ∧ i ≤ 100000 ∧ j ≤ 100000 ∧ c ≤ 100000) ∧ ∀ q, H1 q = none → Q (.ref q) (upd H1 q (.lst ((rgC i j c).map V.int)))
theorem pe_listRgC {X : Cx} {a b c : Expr} {ta : TA} {p p2 pos pos2 : Pos} (hc : X.calm = true) (hm : X.mg "list" = none) (hm2 : X.mg "range" = none) (ha : PA X [a, b, c] ta) (hg : Gl X "list" := by rfl) (hg2 : Gl X "range" := by rfl)
    (hs : starEach [a, b, c] X.env = (false, eval a X.env) :: starEach [b, c] X.env := by rfl) (hpl : (backTo pos2 (starEach [b, c] X.env)).any (·.1) = false := by rfl)
    (na : starEach [.Call (.Name "range" p2) [a, b, c] [] pos2] X.env = (false, eval (.Call (.Name "range" p2) [a, b, c] [] pos2) X.env) :: starEach [] X.env := by rfl) :
    PE X (.Call (.Name "list" p) [.Call (.Name "range" p2) [a, b, c] [] pos2] [] pos) (tListRgC ta) := by
  refine ⟨fun pins s σ H Q I h => ?_⟩
  have hr : wpAny (model X.prog X.w) X.A (eval (.Call (.Name "range" p2) [a, b, c] [] pos2) X.env) (fun x s' => ∃ (r : Addr) (i j k : Int) (t u v : Tok) (H' : Hp), x = .ref r ∧ IsRange s'.heap r i j k t u v ∧ Inv X pins σ H' s' ∧
      (0 ≤ i ∧ 0 ≤ j ∧ 0 < k ∧ i ≤ 100000 ∧ j ≤ 100000 ∧ k ≤ 100000) ∧ ∀ q, H' q = none → Q (.ref q) (upd H' q (.lst ((rgC i j k).map V.int)))) X.xe s := by
    refine Call_ (ld_blt I hg2 hm2 boot_range (callWith_type1 (thn (ha.run pos2 pins s σ H _ I h) fun us s1 ⟨vs, H1, I1, r1, q1⟩ => ?_) hs hpl))
    obtain ⟨i, j, k, rfl, ok, q⟩ := q1
    cases r1 with
    | cons r rr =>
      cases rr with
      | cons r' rr =>
        cases rr with
        | cons r'' rr =>
          cases rr
          obtain ⟨t, rfl⟩ := r; obtain ⟨t', rfl⟩ := r'; obtain ⟨t'', rfl⟩ := r''
          exact call_range_3 (by omega) ⟨_, i, j, k, _, _, _, H1, rfl, IsRange.new .., I1.kept (t' := s1.toks) fun b o e => Heap.get?_push_of_some _ e, ok, q⟩ (.inl (PyProof.noPylong_small (by omega)))
  refine Call_ (ld_blt I hg hm boot_list (callWith_type1 (args_cons (thn hr fun x s1 ⟨r, i, j, k, t, u, v, H1, ex, hr, I1, ok, q⟩ => args_nil ?_) na) na))
  subst ex
  obtain ⟨o1, o2, o3, o4, o5, o6⟩ := ok
  obtain ⟨sm, s1', s2'⟩ := range_small o1 o2 o3 o4 o5 o6
  refine call_list_range (n := (Builtin.Range.rangeSize i j k).toNat) (I1.ok.hd hc) hr sm (by omega) (by omega) fun h' tk acc c' hk e' hi => ?_
  have hl : acc.toList.length = (Builtin.Range.rangeSize i j k).toNat := by rw [Array.length_toList]; exact hi.1
  have hv : Vals ((rgC i j k).map V.int) acc.toList := by
    unfold rgC
    rw [← hl, List.map_map]
    refine vals_of_get acc.toList _ fun m w hm => ?_
    obtain ⟨t, rfl⟩ := hi.2 m w (by rw [← hm, Array.getElem?_toList])
    exact ⟨t, rfl⟩
  refine ⟨.ref s1.heap.objs.size, upd H1 s1.heap.objs.size (.lst ((rgC i j k).map V.int)), I1.laid hk (Nat.le_refl _) (show ObjOk X.prog X.w _ _ _ (.lst ((rgC i j k).map V.int)) from ⟨?_, acc.toList, c', hv, by rw [Array.toArray_toList]; exact e'⟩), rfl, q _ (I1.hok.fresh (Nat.le_refl _))⟩
  unfold rgC
  rw [List.length_map, List.length_map, List.length_range, sizeLine_eq]
  omega
end L2
/-! Rests. -/
namespace GL
open PySem PySem.Spec PyProof.Rows L2
theorem gcd_pos {m n : Int} (hm : 0 < m) : 0 < (Int.gcd m n : Int) := by
  have : Int.gcd m n ≠ 0 := fun e => by
    rw [Int.gcd_eq_zero_iff] at e
    omega
  omega
theorem dvd_of_emod {a b : Int} (h : a % b = 0) : b ∣ a := Int.dvd_of_emod_eq_zero h
theorem emod_iff {a b : Int} : a % b = 0 ↔ b ∣ a := ⟨Int.dvd_of_emod_eq_zero, Int.emod_eq_zero_of_dvd⟩
/-- parts by the greatest common divisor have none in common -/
theorem coprime_parts {m n : Int} (hm : 0 < m) : Int.gcd (m / (Int.gcd m n : Int)) (n / (Int.gcd m n : Int)) = 1 := by
  have hg := gcd_pos (n := n) hm
  obtain ⟨a, ha⟩ := Int.gcd_dvd_left (a := m) (b := n)
  obtain ⟨b, hb⟩ := Int.gcd_dvd_right (a := m) (b := n)
  generalize hG : (Int.gcd m n : Int) = G at *
  have e1 : m / G = a := by rw [ha]; exact Int.mul_ediv_cancel_left _ (by omega)
  have e2 : n / G = b := by rw [hb]; exact Int.mul_ediv_cancel_left _ (by omega)
  rw [e1, e2]
  have h : Int.gcd (G * a) (G * b) = G.natAbs * Int.gcd a b := Int.gcd_mul_left ..
  rw [← ha, ← hb] at h
  have hGn : G.natAbs = Int.gcd m n := by rw [← hG]; exact Int.natAbs_natCast _
  rw [hGn] at h
  have hpos : 0 < Int.gcd m n := by omega
  have : Int.gcd m n * 1 = Int.gcd m n * Int.gcd a b := by rw [Nat.mul_one]; exact h
  exact (Nat.eq_of_mul_eq_mul_left hpos this).symm
/-- one step of the common rest -/
theorem crt_step {r m s n inv : Int} (hm : 0 < m) (hn : 0 < n) (h0 : 0 ≤ r) (h1 : r < m) (hs0 : 0 ≤ s) (hs1 : s < n) (hd : (s - r) % (Int.gcd m n : Int) = 0)
    (hi : (n / (Int.gcd m n : Int)) ∣ (m / (Int.gcd m n : Int)) * inv - 1) :
    let p := n / (Int.gcd m n : Int)
    let st := ((s - r) / (Int.gcd m n : Int) * inv) % p
    0 < p ∧ 0 ≤ r + m * st ∧ r + m * st < m * p ∧ (r + m * st) % m = r ∧ (r + m * st) % n = s := by
  have hg := gcd_pos (n := n) hm
  obtain ⟨a, ha⟩ := Int.gcd_dvd_left (a := m) (b := n)
  obtain ⟨b, hb⟩ := Int.gcd_dvd_right (a := m) (b := n)
  obtain ⟨k, hk⟩ := dvd_of_emod hd
  generalize (Int.gcd m n : Int) = G at *
  have e1 : m / G = a := by rw [ha]; exact Int.mul_ediv_cancel_left _ (by omega)
  have e2 : n / G = b := by rw [hb]; exact Int.mul_ediv_cancel_left _ (by omega)
  have e3 : (s - r) / G = k := by rw [hk]; exact Int.mul_ediv_cancel_left _ (by omega)
  rw [e1, e2] at hi
  have hb0 : 0 < b := by
    rcases Int.lt_trichotomy b 0 with c | c | c
    · have : G * b < 0 := Int.mul_neg_of_pos_of_neg hg c
      omega
    · rw [c, Int.mul_zero] at hb
      omega
    · exact c
  intro p st
  have ep : p = b := e2
  have est : st = (k * inv) % b := by show ((s - r) / G * inv) % (n / G) = _; rw [e2, e3]
  have t0 : 0 ≤ st := by rw [est]; exact Int.emod_nonneg _ (by omega)
  have t1 : st < b := by rw [est]; exact Int.emod_lt_of_pos _ hb0
  have q0 : 0 ≤ m * st := Int.mul_nonneg (by omega) t0
  have q1 : m * st ≤ m * (b - 1) := Int.mul_le_mul_of_nonneg_left (by omega) (by omega)
  refine ⟨by rw [ep]; exact hb0, by omega, ?_, ?_, ?_⟩
  · rw [ep]
    have : m * (b - 1) = m * b - m := by rw [Int.mul_sub, Int.mul_one]
    omega
  · rw [Int.add_mul_emod_self_left]
    exact Int.emod_eq_of_lt h0 h1
  · obtain ⟨c, hc⟩ := hi
    -- st = k * inv - b * q
    have hq : st = k * inv - b * (k * inv / b) := by
      rw [est]
      have := Int.emod_add_mul_ediv (k * inv) b
      omega
    have key : r + m * st = s + n * (k * c - a * (k * inv / b)) := by
      have e4 : r = s - G * k := by omega
      rw [hq, e4, ha, hb]
      have e5 : a * inv = b * c + 1 := by omega
      have : G * a * (k * inv - b * (k * inv / b)) = G * k * (a * inv) - G * b * (a * (k * inv / b)) := by
        rw [Int.mul_sub]
        congr 1
        · rw [Int.mul_assoc, Int.mul_assoc, ← Int.mul_assoc a, Int.mul_comm a k, Int.mul_assoc k]
        · rw [Int.mul_assoc, Int.mul_assoc, ← Int.mul_assoc a, Int.mul_comm a b, Int.mul_assoc b]
      rw [this, e5, Int.mul_add, Int.mul_one, Int.mul_sub]
      have : G * k * (b * c) = G * b * (k * c) := by
        rw [Int.mul_assoc, Int.mul_assoc, ← Int.mul_assoc k, Int.mul_comm k b, Int.mul_assoc b]
      rw [this]
      omega
    rw [key, Int.add_mul_emod_self_left]
    exact Int.emod_eq_of_lt hs0 hs1
/-- no number has both where the divisor parts them -/
theorem crt_none {r m s n x : Int} (h1 : x % m = r) (h2 : x % n = s) : (s - r) % (Int.gcd m n : Int) = 0 := by
  rw [emod_iff]
  have a : m ∣ x - r := by rw [← h1]; exact Int.dvd_self_sub_emod
  have b : n ∣ x - s := by rw [← h2]; exact Int.dvd_self_sub_emod
  have a' := Int.dvd_trans (Int.gcd_dvd_left (a := m) (b := n)) a
  have b' := Int.dvd_trans (Int.gcd_dvd_right (a := m) (b := n)) b
  have := Int.dvd_sub a' b'
  rwa [show x - r - (x - s) = s - r by omega] at this
/-- all common multiples are multiples of m * (n / g) -/
theorem lcm_dvd {m n d : Int} (hm : 0 < m) (h1 : m ∣ d) (h2 : n ∣ d) : m * (n / (Int.gcd m n : Int)) ∣ d := by
  have hg := gcd_pos (n := n) hm
  have hc := coprime_parts (n := n) hm
  obtain ⟨a, ha⟩ := Int.gcd_dvd_left (a := m) (b := n)
  obtain ⟨b, hb⟩ := Int.gcd_dvd_right (a := m) (b := n)
  generalize (Int.gcd m n : Int) = G at *
  have e1 : m / G = a := by rw [ha]; exact Int.mul_ediv_cancel_left _ (by omega)
  have e2 : n / G = b := by rw [hb]; exact Int.mul_ediv_cancel_left _ (by omega)
  rw [e1, e2] at hc
  rw [e2]
  obtain ⟨x, hx⟩ := h1
  obtain ⟨y, hy⟩ := h2
  have h3 : a * x = b * y := by
    have : G * (a * x) = G * (b * y) := by rw [← Int.mul_assoc, ← Int.mul_assoc, ← ha, ← hb, ← hx, ← hy]
    exact Int.eq_of_mul_eq_mul_left (by omega) this
  have h4 : b ∣ a * x := ⟨y, h3⟩
  have h5 : b ∣ x := by
    have h6 := Int.natAbs_dvd_natAbs.mpr h4
    rw [Int.natAbs_mul] at h6
    have hc' : Nat.Coprime b.natAbs a.natAbs := by
      have : Nat.gcd a.natAbs b.natAbs = 1 := hc
      exact (Nat.gcd_comm _ _).trans this
    exact Int.natAbs_dvd_natAbs.mp (hc'.dvd_of_dvd_mul_left h6)
  obtain ⟨z, hz⟩ := h5
  exact ⟨z, by rw [hx, hz, Int.mul_assoc]⟩
theorem crt_one {m n x y : Int} (hm : 0 < m) (h0 : 0 ≤ x) (h1 : x < m * (n / (Int.gcd m n : Int))) (k0 : 0 ≤ y) (k1 : y < m * (n / (Int.gcd m n : Int))) (a : x % m = y % m) (b : x % n = y % n) : x = y := by
  have d1 : m ∣ x - y := by rw [← emod_iff, Int.sub_emod, a, Int.sub_self, Int.zero_emod]
  have d2 : n ∣ x - y := by rw [← emod_iff, Int.sub_emod, b, Int.sub_self, Int.zero_emod]
  have d := lcm_dvd hm d1 d2
  generalize m * (n / (Int.gcd m n : Int)) = L at *
  have e1 := Int.emod_eq_of_lt h0 h1
  have e2 := Int.emod_eq_of_lt k0 k1
  have : x % L = y % L := by
    rw [← emod_iff] at d
    exact Int.emod_eq_emod_iff_emod_sub_eq_zero.mpr d
  omega
/-- what holds all along of the numbers by which the inverse is reckoned -/
structure InvW (a p h l t o : Int) : Prop where
  hp : 0 < h
  l0 : 0 ≤ l
  cop : Int.gcd h l = 1
  dt : p ∣ a * t - h
  dO : p ∣ a * o - l
  ab : ∃ A B : Int, 0 ≤ A ∧ A ≤ p ∧ 0 ≤ B ∧ B ≤ p ∧ B * h + A * l = p ∧ ((t = A ∧ o = -B) ∨ (t = -A ∧ o = B))
theorem InvW.start {a p : Int} (ha : 0 < a) (hp : 0 < p) (hc : Int.gcd a p = 1) : InvW a p a p 1 0 :=
  ⟨ha, by omega, hc, ⟨0, by rw [Int.mul_one, Int.sub_self, Int.mul_zero]⟩, ⟨-1, by rw [Int.mul_zero]; omega⟩, 1, 0, by omega, by omega, by omega, by omega, by rw [Int.zero_mul, Int.one_mul, Int.zero_add], .inl ⟨rfl, rfl⟩⟩
theorem InvW.step {a p h l t o : Int} (W : InvW a p h l t o) (hl : 0 < l) : InvW a p l (h - h / l * l) o (t - h / l * o) := by
  obtain ⟨hp, l0, cop, dt, dO, A, B, A0, A1, B0, B1, e, sg⟩ := W
  have hq : 0 ≤ h / l := Int.ediv_nonneg (by omega) l0
  have hm : h - h / l * l = h % l := by
    have := Int.emod_add_mul_ediv h l
    rw [Int.mul_comm l] at this
    omega
  have m0 : 0 ≤ h % l := Int.emod_nonneg _ (by omega)
  have B2 : 0 ≤ A + h / l * B := by have := Int.mul_nonneg hq B0; omega
  have key : (A + h / l * B) * l + B * (h - h / l * l) = p := by
    rw [Int.add_mul, Int.mul_sub, ← e, Int.mul_assoc (h / l), Int.mul_comm B l, ← Int.mul_assoc (h / l), Int.mul_comm (h / l * l) B, Int.mul_comm B h, Int.mul_comm A l]
    omega
  refine ⟨hl, by rw [hm]; exact m0, ?_, dO, ?_, B, A + h / l * B, B0, B1, B2, ?_, key, ?_⟩
  · rw [Int.gcd_sub_mul_right_right, Int.gcd_comm]
    exact cop
  · obtain ⟨x, hx⟩ := dt
    obtain ⟨y, hy⟩ := dO
    refine ⟨x - h / l * y, ?_⟩
    have e1 : a * (t - h / l * o) - (h - h / l * l) = (a * t - h) - h / l * (a * o - l) := by
      rw [Int.mul_sub, Int.mul_sub, ← Int.mul_assoc a, Int.mul_comm a (h / l), Int.mul_assoc (h / l)]
      omega
    rw [e1, hx, hy, Int.mul_sub, ← Int.mul_assoc p, Int.mul_comm p (h / l), Int.mul_assoc (h / l)]
  · have n1 : 0 ≤ B * (h - h / l * l) := Int.mul_nonneg B0 (by rw [hm]; exact m0)
    have n2 : (A + h / l * B) * 1 ≤ (A + h / l * B) * l := Int.mul_le_mul_of_nonneg_left (by omega) B2
    rw [Int.mul_one] at n2
    omega
  · rcases sg with ⟨rfl, rfl⟩ | ⟨rfl, rfl⟩
    · refine .inr ⟨rfl, ?_⟩
      rw [Int.mul_neg]
      omega
    · refine .inl ⟨rfl, ?_⟩
      omega
theorem InvW.fin {a p h t o : Int} (W : InvW a p h 0 t o) : p ∣ a * t - 1 ∧ t.natAbs ≤ p.natAbs := by
  obtain ⟨hp, l0, cop, dt, dO, A, B, A0, A1, B0, B1, e, sg⟩ := W
  have : h = 1 := by
    rw [Int.gcd_zero_right] at cop
    omega
  rw [this] at dt
  exact ⟨dt, by rcases sg with ⟨rfl, _⟩ | ⟨rfl, _⟩ <;> omega⟩
theorem InvW.bound {a p h l t o : Int} (W : InvW a p h l t o) : o.natAbs ≤ p.natAbs ∧ t.natAbs ≤ p.natAbs := by
  obtain ⟨hp, l0, cop, dt, dO, A, B, A0, A1, B0, B1, e, sg⟩ := W
  rcases sg with ⟨rfl, rfl⟩ | ⟨rfl, rfl⟩ <;> omega
/-! ### promises -/
/-- a rest stands at t -/
structure RestAt (H : Hp) (t : Addr) (r m : Int) : Prop where
  at' : H t = some (.tup [.int r, .int m])
  r0 : 0 ≤ r
  rm : r < m
  big : m.natAbs < 2 ^ 4000
theorem RestAt.same {H H' : Hp} {t : Addr} {r m : Int} (h : RestAt H t r m) (s : Same H H') : RestAt H' t r m := ⟨s _ _ h.at', h.r0, h.rm, h.big⟩
theorem RestAt.mod {H H' : Hp} {t S C : Addr} {r m : Int} (h : RestAt H t r m) (s : Mod S C H H') (st : StOk H S C) : RestAt H' t r m := ⟨s.other st h.at' (fun _ z => nomatch z), h.r0, h.rm, h.big⟩
theorem RestAt.pos {H : Hp} {t : Addr} {r m : Int} (h : RestAt H t r m) : 0 < m := by have := h.r0; have := h.rm; omega
def spIsInt : Sp := fun vs H Q _ => ∃ z : Int, vs = [.int z] ∧ Q (.bl true) H
def spIsRest : Sp := fun vs H Q _ => ∃ (t : Addr) (r m : Int), vs = [.ref t] ∧ RestAt H t r m ∧ Q (.bl true) H
def spChRest : Sp := fun vs H Q _ => ∃ (t : Addr) (r m : Int), vs = [.ref t] ∧ RestAt H t r m ∧ Q .non H
def spChNum : Sp := fun vs H Q _ => ∃ z : Int, vs = [.int z] ∧ Q .non H
def spHas : Sp := fun vs H Q _ => ∃ (t : Addr) (r m z : Int), vs = [.ref t, .int z] ∧ RestAt H t r m ∧ Q (.bl (decide (z % m = r))) H
def spLeast : Sp := fun vs H Q _ => ∃ (t : Addr) (r m : Int), vs = [.ref t] ∧ RestAt H t r m ∧ Q (.int r) H
def spMoved : Sp := fun vs H Q _ => ∃ (t : Addr) (r m k : Int), vs = [.ref t, .int k] ∧ RestAt H t r m ∧ ∀ H' q, Same H H' → H q = none → RestAt H' q ((r + k) % m) m → Q (.ref q) H'
def spInv : Sp := fun vs H Q _ => ∃ a p : Int, vs = [.int a, .int p] ∧ 0 < a ∧ 0 < p ∧ a.natAbs < 2 ^ 4000 ∧ p.natAbs < 2 ^ 4000 ∧ Int.gcd a p = 1 ∧ ∀ (H' : Hp) (t : Int), Same H H' → p ∣ a * t - 1 → t.natAbs ≤ p.natAbs → Q (.int t) H'
def spBoth : Sp := fun vs H Q _ => ∃ (t u : Addr) (r m s n : Int), vs = [.ref t, .ref u] ∧ RestAt H t r m ∧ RestAt H u s n ∧
  (¬ (s - r) % (Int.gcd m n : Int) = 0 → Q .non H) ∧
  ((s - r) % (Int.gcd m n : Int) = 0 → ∀ H' q x, Same H H' → H q = none → H' q = some (.tup [.int x, .int (m * (n / (Int.gcd m n : Int)))]) → 0 ≤ x → x < m * (n / (Int.gcd m n : Int)) → x % m = r → x % n = s → Q (.ref q) H')
def spBetween : Sp := fun vs H Q _ => ∃ (z lo hi : Int), vs = [.int z, .int lo, .int hi] ∧ lo ≤ z ∧ z ≤ hi ∧ Q .non H
def spBy : Sp := fun vs H Q _ => ∃ (t : Addr) (r m k : Int), vs = [.ref t, .int k] ∧ RestAt H t r m ∧ 1 ≤ k ∧ k ≤ 1000 ∧ ∀ H' q, Same H H' → H q = none → H' q = some (.lst ((rgC (r % (Int.gcd m k : Int)) k (Int.gcd m k : Int)).map V.int)) → Q (.ref q) H'
end GL
namespace GL
open PySem PySem.Spec PyProof.Rows L2
def spGreat : Sp := fun vs H Q _ => ∃ (S C : Addr) (f : Int), vs = [.ref S, .int f] ∧ 0 ≤ f ∧ f ≤ 100 ∧ StOk H S C ∧ ∀ H' z, Mod S C H H' → StOk H' S C → 0 ≤ z → z < 10 ^ f.toNat → Q (.int z) H'
end GL
/-! Powers of primes. -/
namespace GL
open PySem PySem.Spec PyProof.Rows L2
def Pr (p : Nat) : Prop := 2 ≤ p ∧ ∀ m, Nat.Coprime p m ∨ p ∣ m
theorem pr_of {p b : Nat} (h : 2 ≤ p) (hb : p < (b + 1) * (b + 1)) (hd : ∀ d, d < b + 1 → 2 ≤ d → p % d ≠ 0) : Pr p := by
  refine ⟨h, fun m => ?_⟩
  have hg : Nat.gcd p m ∣ p := Nat.gcd_dvd_left p m
  have key : Nat.gcd p m = 1 ∨ Nat.gcd p m = p := by
    have hm : Nat.gcd p m ∣ m := Nat.gcd_dvd_right p m
    generalize Nat.gcd p m = d at hg
    obtain ⟨c, hc⟩ := hg
    have d0 : d ≠ 0 := fun e => by rw [e, Nat.zero_mul] at hc; omega
    by_cases d1 : d = 1
    · exact .inl d1
    · by_cases c1 : c = 1
      · rw [c1, Nat.mul_one] at hc; exact .inr hc.symm
      · have c0 : c ≠ 0 := fun e => by rw [e, Nat.mul_zero] at hc; omega
        exfalso
        by_cases hdb : d < b + 1
        · exact hd d hdb (by omega) (by rw [hc]; exact Nat.mul_mod_right d c)
        · by_cases hcb : c < b + 1
          · exact hd c hcb (by omega) (by rw [hc]; exact Nat.mul_mod_left d c)
          · have := Nat.mul_le_mul (Nat.le_of_not_lt hdb) (Nat.le_of_not_lt hcb)
            omega
  rcases key with k | k
  · exact .inl k
  · exact .inr (by rw [← k]; exact Nat.gcd_dvd_right p m)
def PRIMES : List Nat := [2, 3, 5, 7, 11, 13, 1000003]
theorem pr_primes : ∀ p ∈ PRIMES, Pr p := by
  intro p hp
  simp only [PRIMES, List.mem_cons, List.not_mem_nil, or_false] at hp
  rcases hp with rfl | rfl | rfl | rfl | rfl | rfl | rfl
  · exact pr_of (b := 1) (by decide) (by decide) (by decide)
  · exact pr_of (b := 1) (by decide) (by decide) (by decide)
  · exact pr_of (b := 2) (by decide) (by decide) (by decide)
  · exact pr_of (b := 2) (by decide) (by decide) (by decide)
  · exact pr_of (b := 3) (by decide) (by decide) (by decide)
  · exact pr_of (b := 3) (by decide) (by decide) (by decide)
  · exact pr_of (b := 1000) (by decide) (by decide) (by decide +kernel)
theorem primes_co : PRIMES.Pairwise Nat.Coprime := by
  unfold PRIMES Nat.Coprime
  decide +kernel
def prodP : List (Nat × Nat) → Nat
  | [] => 1
  | x :: r => x.1 ^ x.2 * prodP r
def partP (N : Nat) : List (Nat × Nat) → Nat
  | [] => 1
  | x :: r => Nat.gcd (x.1 ^ x.2) N * partP N r
theorem prodP_snoc (x : Nat × Nat) : ∀ l, prodP (l ++ [x]) = prodP l * x.1 ^ x.2
  | [] => by simp [prodP]
  | y :: r => by rw [List.cons_append, prodP, prodP, prodP_snoc x r, Nat.mul_assoc]
theorem partP_snoc (N : Nat) (x : Nat × Nat) : ∀ l, partP N (l ++ [x]) = partP N l * Nat.gcd (x.1 ^ x.2) N
  | [] => by simp [partP]
  | y :: r => by rw [List.cons_append, partP, partP, partP_snoc N x r, Nat.mul_assoc]
theorem co_prod {p : Nat} : ∀ l : List (Nat × Nat), (∀ x ∈ l, Nat.Coprime p x.1) → Nat.Coprime p (prodP l)
  | [], _ => Nat.coprime_one_right p
  | y :: r, h => Nat.Coprime.mul_right (Nat.Coprime.pow_right _ (h y List.mem_cons_self)) (co_prod r fun x hx => h x (List.mem_cons_of_mem _ hx))
theorem part_gcd (N : Nat) : ∀ l : List (Nat × Nat), (l.map (·.1)).Pairwise Nat.Coprime → partP N l = Nat.gcd (prodP l) N
  | [], _ => (Nat.gcd_one_left N).symm
  | x :: r, h => by
    rw [List.map_cons, List.pairwise_cons] at h
    rw [partP, prodP, part_gcd N r h.2]
    have hc : Nat.Coprime (x.1 ^ x.2) (prodP r) := Nat.Coprime.pow_left _ (co_prod r fun y hy => h.1 _ (List.mem_map_of_mem hy))
    rw [Nat.gcd_comm (x.1 ^ x.2 * prodP r), Nat.Coprime.gcd_mul N hc, Nat.gcd_comm N, Nat.gcd_comm N]
structure PowOk (ps : List (Nat × Nat)) : Prop where
  ks : ps.map (·.1) = PRIMES
  es : ∀ x ∈ ps, x.2 ≤ 20
def kvP (ps : List (Nat × Nat)) : List (Key × V) := ps.map fun x => (Sum.inl (x.1 : Int), V.int (x.2 : Int))
theorem PowOk.len {ps : List (Nat × Nat)} (h : PowOk ps) : ps.length = 7 := by
  have := congrArg List.length h.ks
  rw [List.length_map] at this
  exact this
theorem PowOk.part {ps : List (Nat × Nat)} (h : PowOk ps) (N : Nat) : partP N ps = Nat.gcd (prodP ps) N := part_gcd N ps (by rw [h.ks]; exact primes_co)
theorem PowOk.mem {ps : List (Nat × Nat)} (h : PowOk ps) {x : Nat × Nat} (hx : x ∈ ps) : x.1 ∈ PRIMES := by
  rw [← h.ks]; exact List.mem_map_of_mem hx
theorem primes_le : ∀ p ∈ PRIMES, 2 ≤ p ∧ p ≤ 2 ^ 20 := by decide
theorem kvP_get {ps : List (Nat × Nat)} {i : Nat} {k : Key} {v : V} (h : (kvP ps)[i]? = some (k, v)) : ∃ x, ps[i]? = some x ∧ k = Sum.inl (x.1 : Int) ∧ v = .int (x.2 : Int) := by
  unfold kvP at h
  rw [List.getElem?_map] at h
  cases e : ps[i]? with
  | none => rw [e] at h; cases h
  | some x =>
    rw [e] at h
    injection h with h
    injection h with h1 h2
    exact ⟨x, rfl, h1.symm, h2.symm⟩
theorem valV_kvP {ps : List (Nat × Nat)} (hn : (ps.map (·.1)).Nodup) : ∀ x ∈ ps, valV (kvP ps) (Sum.inl (x.1 : Int)) = some (.int (x.2 : Int)) := by
  induction ps with
  | nil => intro x hx; cases hx
  | cons y r ih =>
    intro x hx
    rw [List.map_cons, List.nodup_cons] at hn
    rcases List.mem_cons.mp hx with rfl | hx
    · simp [kvP, valV]
    · have hne : y.1 ≠ x.1 := fun e => hn.1 (by rw [e]; exact List.mem_map_of_mem hx)
      have := ih hn.2 x hx
      unfold kvP at this ⊢
      simp only [List.map_cons, valV] at this ⊢
      have hk : ¬ (Sum.inl (y.1 : Int) : Key) = Sum.inl (x.1 : Int) := fun e => hne (by injection e with e; omega)
      simp [List.find?_cons, hk, hne] at this ⊢
      exact this
theorem PowOk.nd {ps : List (Nat × Nat)} (h : PowOk ps) : (ps.map (·.1)).Nodup := by rw [h.ks]; decide
theorem pow_le {ps : List (Nat × Nat)} (h : PowOk ps) {x : Nat × Nat} (hx : x ∈ ps) : x.1 ^ x.2 ≤ 2 ^ 400 := by
  have a := (primes_le _ (h.mem hx)).2
  have b := h.es x hx
  calc x.1 ^ x.2 ≤ (2 ^ 20) ^ x.2 := Nat.pow_le_pow_left a _
    _ = 2 ^ (20 * x.2) := (Nat.pow_mul 2 20 x.2).symm
    _ ≤ 2 ^ 400 := Nat.pow_le_pow_right (by decide) (by omega)
theorem prod_le {qs : List (Nat × Nat)} (h : ∀ x ∈ qs, x.1 ^ x.2 ≤ 2 ^ 400) : prodP qs ≤ 2 ^ (400 * qs.length) := by
  induction qs with
  | nil => exact Nat.le_refl 1
  | cons y r ih =>
    have a := h y List.mem_cons_self
    have b := ih fun x hx => h x (List.mem_cons_of_mem _ hx)
    rw [prodP, List.length_cons, Nat.mul_add, Nat.mul_one, Nat.pow_add, Nat.mul_comm (2 ^ (400 * r.length))]
    exact Nat.mul_le_mul a b
theorem prod_pos {ps : List (Nat × Nat)} (h : ∀ x ∈ ps, 0 < x.1) : 0 < prodP ps := by
  induction ps with
  | nil => exact Nat.zero_lt_one
  | cons y r ih => exact Nat.mul_pos (Nat.pow_pos (h y List.mem_cons_self)) (ih fun x hx => h x (List.mem_cons_of_mem _ hx))
theorem PowOk.pos {ps : List (Nat × Nat)} (h : PowOk ps) : 0 < prodP ps := prod_pos fun x hx => by have := (primes_le _ (h.mem hx)).1; omega
theorem PowOk.lt {ps : List (Nat × Nat)} (h : PowOk ps) : prodP ps < 2 ^ 4000 := by
  have a := prod_le fun x hx => pow_le h hx
  rw [h.len] at a
  exact Nat.lt_of_le_of_lt a (Nat.pow_lt_pow_right (by decide) (by decide))
/-- the loop of a part, at one prime -/
def PartInv (p N f0 j f l : Nat) : Prop := f = f0 * Nat.gcd (p ^ j) N ∧ (l * p ^ j = N ∨ (l = 1 ∧ ∀ k, j ≤ k → Nat.gcd (p ^ k) N = Nat.gcd (p ^ j) N))
theorem PartInv.start (p N f0 : Nat) : PartInv p N f0 0 f0 N := ⟨by rw [Nat.pow_zero, Nat.gcd_one_left, Nat.mul_one], .inl (by rw [Nat.pow_zero, Nat.mul_one])⟩
theorem PartInv.yes {p N f0 j f l : Nat} (hp : Pr p) (h : PartInv p N f0 j f l) (d : l % p = 0) : PartInv p N f0 (j + 1) (f * p) (l / p) := by
  obtain ⟨rfl, h | ⟨rfl, h⟩⟩ := h
  · have e : N = l / p * p ^ (j + 1) := by
      rw [Nat.pow_succ, Nat.mul_comm (p ^ j), ← Nat.mul_assoc, Nat.div_mul_cancel (Nat.dvd_of_mod_eq_zero d), h]
    have g1 : Nat.gcd (p ^ j) N = p ^ j := Nat.gcd_eq_left ⟨l, by rw [← h, Nat.mul_comm]⟩
    have g2 : Nat.gcd (p ^ (j + 1)) N = p ^ (j + 1) := Nat.gcd_eq_left ⟨l / p, by rw [Nat.mul_comm]; exact e⟩
    exact ⟨by rw [g1, g2, Nat.pow_succ, Nat.mul_assoc], .inl e.symm⟩
  · have := hp.1
    rw [Nat.mod_eq_of_lt (by omega)] at d
    omega
theorem PartInv.no {p N f0 j f l : Nat} (hp : Pr p) (h : PartInv p N f0 j f l) (d : ¬ l % p = 0) : PartInv p N f0 (j + 1) f 1 := by
  obtain ⟨rfl, h | ⟨rfl, h⟩⟩ := h
  · have hc : Nat.Coprime p l := (hp.2 l).resolve_right fun e => d (Nat.mod_eq_zero_of_dvd e)
    have hk : ∀ k, j ≤ k → Nat.gcd (p ^ k) N = p ^ j := fun k hk => by
      have e : p ^ k = p ^ j * p ^ (k - j) := by rw [← Nat.pow_add]; congr 1; omega
      rw [← h, e, Nat.mul_comm l, Nat.gcd_mul_left]
      have : Nat.gcd (p ^ (k - j)) l = 1 := Nat.Coprime.pow_left _ hc
      rw [this, Nat.mul_one]
    exact ⟨by rw [hk j (Nat.le_refl _), hk (j + 1) (by omega)], .inr ⟨rfl, fun k h' => by rw [hk k (by omega), hk (j + 1) (by omega)]⟩⟩
  · exact ⟨by rw [h (j + 1) (by omega)], .inr ⟨rfl, fun k h' => by rw [h k (by omega), h (j + 1) (by omega)]⟩⟩
/-- two rising rows with the same members -/
theorem lt_ext : ∀ (xs ys : List Int), xs.Pairwise (· < ·) → ys.Pairwise (· < ·) → (∀ z, z ∈ xs ↔ z ∈ ys) → xs = ys
  | [], [], _, _, _ => rfl
  | [], y :: ys, _, _, h => by have := (h y).mpr List.mem_cons_self; cases this
  | x :: xs, [], _, _, h => by have := (h x).mp List.mem_cons_self; cases this
  | x :: xs, y :: ys, hx, hy, h => by
    rw [List.pairwise_cons] at hx hy
    have e : x = y := by
      rcases List.mem_cons.mp ((h x).mp List.mem_cons_self) with e | e
      · exact e
      · rcases List.mem_cons.mp ((h y).mpr List.mem_cons_self) with e' | e'
        · exact e'.symm
        · have a := hx.1 y e'
          have b := hy.1 x e
          omega
    subst e
    congr 1
    refine lt_ext xs ys hx.2 hy.2 fun z => ⟨fun hz => ?_, fun hz => ?_⟩
    · have := hx.1 z hz
      rcases List.mem_cons.mp ((h z).mp (List.mem_cons_of_mem _ hz)) with e | e
      · omega
      · exact e
    · have := hy.1 z hz
      rcases List.mem_cons.mp ((h z).mpr (List.mem_cons_of_mem _ hz)) with e | e
      · omega
      · exact e
/-- the rests by k, two ways -/
def byRow (r g : Int) (k : Nat) : List Int := ((List.range k).map fun i : Nat => (i : Int)).filter fun z => decide ((z - r) % g = 0)
theorem byRow_mem {r g z : Int} {k : Nat} : z ∈ byRow r g k ↔ 0 ≤ z ∧ z < k ∧ (z - r) % g = 0 := by
  unfold byRow
  rw [List.mem_filter, List.mem_map, decide_eq_true_eq]
  constructor
  · rintro ⟨⟨n, hn, rfl⟩, h⟩
    rw [List.mem_range] at hn
    exact ⟨by omega, by omega, h⟩
  · rintro ⟨h0, h1, h⟩
    exact ⟨⟨z.toNat, by rw [List.mem_range]; omega, by omega⟩, h⟩
theorem byRow_lt (r g : Int) (k : Nat) : (byRow r g k).Pairwise (· < ·) := by
  refine List.Pairwise.filter _ ?_
  rw [List.pairwise_map]
  exact List.pairwise_lt_range.imp fun h => by omega
theorem rgC_mem {a b c z : Int} (hc : 0 < c) (ha : a < c) (ha0 : 0 ≤ a) : z ∈ rgC a b c ↔ a ≤ z ∧ z < b ∧ (z - a) % c = 0 := by
  unfold rgC Builtin.Range.rangeSize
  rw [if_pos (show c > 0 from hc), List.mem_map]
  constructor
  · rintro ⟨n, hn, rfl⟩
    rw [List.mem_range] at hn
    split at hn
    · have h1 : (n : Int) ≤ (b - a - 1) / c := by omega
      have h2 : (n : Int) * c ≤ (b - a - 1) / c * c := Int.mul_le_mul_of_nonneg_right h1 (by omega)
      have h3 := Int.ediv_mul_le (b - a - 1) (show c ≠ 0 by omega)
      have h4 : 0 ≤ (n : Int) * c := Int.mul_nonneg (by omega) (by omega)
      refine ⟨by omega, by omega, ?_⟩
      rw [show a + (n : Int) * c - a = n * c by omega]
      exact Int.mul_emod_left _ _
    · exact absurd hn (Nat.not_lt_zero _)
  · rintro ⟨h0, h1, h⟩
    obtain ⟨q, hq⟩ := Int.dvd_of_emod_eq_zero h
    have q0 : 0 ≤ q := by
      rcases Int.lt_or_le q 0 with h' | h'
      · have := Int.mul_neg_of_pos_of_neg hc h'
        omega
      · exact h'
    refine ⟨q.toNat, ?_, by rw [Int.toNat_of_nonneg q0, Int.mul_comm]; omega⟩
    rw [List.mem_range, if_pos (show a < b by omega)]
    have : q ≤ (b - a - 1) / c := (Int.le_ediv_iff_mul_le hc).mpr (by rw [Int.mul_comm]; omega)
    omega
theorem rgC_lt {a b c : Int} (hc : 0 < c) : (rgC a b c).Pairwise (· < ·) := by
  unfold rgC
  rw [List.pairwise_map]
  refine List.pairwise_lt_range.imp fun {m n} h => ?_
  have : (m : Int) * c < n * c := Int.mul_lt_mul_of_pos_right (by omega) hc
  omega
theorem by_row {r g : Int} {k : Nat} (hg : 0 < g) : rgC (r % g) k g = byRow r g k := by
  have e0 := Int.emod_nonneg r (show g ≠ 0 by omega)
  have e1 := Int.emod_lt_of_pos r hg
  refine lt_ext _ _ (rgC_lt hg) (byRow_lt ..) fun z => ?_
  rw [rgC_mem hg e1 e0, byRow_mem]
  have key : (z - r % g) % g = 0 ↔ (z - r) % g = 0 := by
    rw [Int.sub_emod z (r % g), Int.emod_emod, ← Int.sub_emod]
  rw [key]
  constructor
  · rintro ⟨a, b, c⟩; exact ⟨by omega, b, c⟩
  · rintro ⟨a, b, c⟩
    refine ⟨?_, b, c⟩
    have h1 : z % g = r % g := Int.emod_eq_emod_iff_emod_sub_eq_zero.mpr c
    have h2 : z % g ≤ z := by
      have := Int.ediv_mul_le z (show g ≠ 0 by omega)
      have h3 := Int.emod_add_mul_ediv z g
      have h4 : 0 ≤ g * (z / g) := Int.mul_nonneg (by omega) (Int.ediv_nonneg a (by omega))
      omega
    omega
/-! ### promises -/
def spPowers : Sp := fun vs H Q _ => ∃ (S C : Addr), vs = [.ref S] ∧ StOk H S C ∧ ∀ H' d ps, Mod S C H H' → StOk H' S C → H d = none → H' d = some (.dK (kvP ps)) → PowOk ps → Q (.ref d) H'
def spProduct : Sp := fun vs H Q _ => ∃ (d : Addr) (ps : List (Nat × Nat)), vs = [.ref d] ∧ H d = some (.dK (kvP ps)) ∧ PowOk ps ∧ Q (.int (prodP ps : Nat)) H
def spPart : Sp := fun vs H Q _ => ∃ (d : Addr) (ps : List (Nat × Nat)) (n : Int), vs = [.ref d, .int n] ∧ H d = some (.dK (kvP ps)) ∧ PowOk ps ∧ 0 < n ∧ n.natAbs < 2 ^ 4000 ∧ Q (.int (Int.gcd (prodP ps : Nat) n : Nat)) H
def spByRight : Sp := fun vs H Q _ => ∃ (t d : Addr) (r N : Int) (ps : List (Nat × Nat)), vs = [.ref t, .ref d, .int N] ∧ RestAt H t r (prodP ps : Nat) ∧ H d = some (.dK (kvP ps)) ∧ PowOk ps ∧ 1 ≤ N ∧ N ≤ 1000 ∧ ∀ H', Same H H' → Q (.bl true) H'
end GL
namespace GL
open PySem PySem.Spec PyProof.Rows L2
theorem upd_back {H : Hp} {d : Addr} {o u : HO} (h : H d = some u) : upd (upd H d o) d u = H := by
  funext x
  by_cases e : x = d
  · rw [e, upd_same, h]
  · rw [upd_ne e, upd_ne e]
theorem upd_of {H : Hp} {p : Addr} {o : HO} (h : H p = none) : upd H p o p = some o := upd_same
def PL : List (Nat × Nat) := [(2, 20), (3, 12), (5, 8), (7, 6), (11, 4), (13, 4), (1000003, 2)]
theorem PL_fst : PL.map (·.1) = PRIMES := rfl
theorem PL_len : PL.length = 7 := rfl
def TupsAt (H : Hp) (ts : List Addr) : Prop := ts.length = 7 ∧ ∀ (i : Nat) (t : Addr) (x : Nat × Nat), ts[i]? = some t → PL[i]? = some x → H t = some (.tup [.int (x.1 : Int), .int (x.2 : Int)])
theorem TupsAt.keep {H H' : Hp} {ts : List Addr} (h : TupsAt H ts) (k : ∀ t o, H t = some (.tup o) → H' t = some (.tup o)) : TupsAt H' ts := ⟨h.1, fun i t x a b => k _ _ (h.2 i t x a b)⟩
theorem tups_at {H : Hp} {t1 t2 t3 t4 t5 t6 t7 : Addr} (h1 : H t1 = some (.tup [.int 2, .int 20])) (h2 : H t2 = some (.tup [.int 3, .int 12])) (h3 : H t3 = some (.tup [.int 5, .int 8])) (h4 : H t4 = some (.tup [.int 7, .int 6])) (h5 : H t5 = some (.tup [.int 11, .int 4])) (h6 : H t6 = some (.tup [.int 13, .int 4])) (h7 : H t7 = some (.tup [.int 1000003, .int 2])) : TupsAt H [t1, t2, t3, t4, t5, t6, t7] := by
  refine ⟨rfl, fun i t x ht hx => ?_⟩
  rcases i with _ | _ | _ | _ | _ | _ | _ | i
  · injection ht with ht; injection hx with hx; subst ht; subst hx; exact h1
  · injection ht with ht; injection hx with hx; subst ht; subst hx; exact h2
  · injection ht with ht; injection hx with hx; subst ht; subst hx; exact h3
  · injection ht with ht; injection hx with hx; subst ht; subst hx; exact h4
  · injection ht with ht; injection hx with hx; subst ht; subst hx; exact h5
  · injection ht with ht; injection hx with hx; subst ht; subst hx; exact h6
  · injection ht with ht; injection hx with hx; subst ht; subst hx; exact h7
  · cases ht
theorem putK_new {ps : List (Nat × Nat)} {p e : Nat} (h : p ∉ ps.map (·.1)) : putK (kvP ps) (Sum.inl (p : Int)) (.int (e : Int)) = kvP (ps ++ [(p, e)]) := by
  unfold putK
  have : (kvP ps).any (fun kv => decide (kv.1 = Sum.inl (p : Int))) = false := by
    rw [List.any_eq_false]
    intro kv hkv
    obtain ⟨x, hx, rfl⟩ := List.mem_map.mp hkv
    rw [decide_eq_true_eq]
    intro e'
    injection e' with e'
    exact h (by rw [show p = x.1 by omega]; exact List.mem_map_of_mem hx)
  rw [this, if_neg (by decide)]
  unfold kvP
  rw [List.map_append]
  rfl
theorem PL_le : ∀ x ∈ PL, x.2 ≤ 20 := by decide
theorem take_notin {l : List Nat} {i p : Nat} (hn : l.Nodup) (h : l[i]? = some p) : p ∉ l.take i := by
  intro hm
  obtain ⟨j, hj⟩ := List.mem_iff_getElem?.mp hm
  rw [List.getElem?_take] at hj
  split at hj
  · rename_i hji
    obtain ⟨h1, e1⟩ := List.getElem?_eq_some_iff.mp hj
    obtain ⟨h2, e2⟩ := List.getElem?_eq_some_iff.mp h
    have := (List.getElem_inj hn).mp (e1.trans e2.symm)
    omega
  · cases hj
theorem inV_ints (x : Int) : ∀ ys : List Int, inV (.int x) (ys.map V.int) = decide (x ∈ ys)
  | [] => rfl
  | y :: r => by
    have ih := inV_ints x r
    unfold inV at ih ⊢
    rw [List.map_cons, List.any_cons, ih]
    show ((y == x) || decide (x ∈ r)) = _
    by_cases e : y = x
    · subst e; simp
    · simp [e, Ne.symm e]
theorem flat_ints : ∀ ys : List Int, (ys.map V.int).all flatV = true
  | [] => rfl
  | y :: r => by rw [List.map_cons, List.all_cons, flat_ints r]; rfl
end GL
namespace GL
open PySem PySem.Spec PyProof.Rows L2
theorem byRow_succ (r g : Int) (j : Nat) : byRow r g (j + 1) = if ((j : Int) - r) % g = 0 then byRow r g j ++ [(j : Int)] else byRow r g j := by
  unfold byRow
  rw [List.range_succ, List.map_append, List.filter_append]
  split
  · rename_i h
    congr 1
    simp [h]
  · rename_i h
    simp [h]
theorem byRow_len (r g : Int) (j : Nat) : (byRow r g j).length ≤ j := by
  unfold byRow
  refine Nat.le_trans (List.length_filter_le ..) ?_
  rw [List.length_map, List.length_range]
  exact Nat.le_refl _
end GL
namespace GL
open PySem PySem.Spec PyProof.Rows L2
theorem mod_back {r m f : Int} (h0 : 0 ≤ r) (h1 : r < m) : ((r + f) % m + (0 - f)) % m = r := by
  rw [Int.emod_add_emod, show r + f + (0 - f) = r by omega]
  exact Int.emod_eq_of_lt h0 h1
theorem mod_whole {r m : Int} (h0 : 0 ≤ r) (h1 : r < m) : (r + m) % m = r := by
  rw [Int.add_emod_right]
  exact Int.emod_eq_of_lt h0 h1
theorem cond_moved {r m s n f : Int} : ((s + f) % n - (r + f) % m) % (Int.gcd m n : Int) = (s - r) % (Int.gcd m n : Int) := by
  have a : ((s + f) % n) % (Int.gcd m n : Int) = (s + f) % (Int.gcd m n : Int) := Int.emod_emod_of_dvd _ (Int.gcd_dvd_right ..)
  have b : ((r + f) % m) % (Int.gcd m n : Int) = (r + f) % (Int.gcd m n : Int) := Int.emod_emod_of_dvd _ (Int.gcd_dvd_left ..)
  rw [Int.sub_emod, a, b, ← Int.sub_emod, show s + f - (r + f) = s - r by omega]
theorem cond_sec {x m y n : Int} : (y % n - x % m) % (Int.gcd m n : Int) = (y - x) % (Int.gcd m n : Int) := by
  have := cond_moved (r := x) (m := m) (s := y) (n := n) (f := 0)
  rwa [Int.add_zero, Int.add_zero] at this
theorem lcm_left {m n : Int} : m ∣ m * (n / (Int.gcd m n : Int)) := ⟨_, rfl⟩
theorem lcm_right {m n : Int} (hm : 0 < m) : n ∣ m * (n / (Int.gcd m n : Int)) := by
  have hg := gcd_pos (n := n) hm
  obtain ⟨a, ha⟩ := Int.gcd_dvd_left (a := m) (b := n)
  obtain ⟨b, hb⟩ := Int.gcd_dvd_right (a := m) (b := n)
  generalize (Int.gcd m n : Int) = G at *
  have e2 : n / G = b := by rw [hb]; exact Int.mul_ediv_cancel_left _ (by omega)
  rw [e2]
  refine ⟨a, ?_⟩
  rw [ha, hb, Int.mul_assoc, Int.mul_assoc, Int.mul_comm a b]
theorem moved_both {m n r s f x y : Int} (hm : 0 < m) (hn : 0 < n) (h1 : x % m = r) (h2 : x % n = s) (y0 : 0 ≤ y) (y1 : y < m * (n / (Int.gcd m n : Int))) (k1 : y % m = (r + f) % m) (k2 : y % n = (s + f) % n) : y = (x + f) % (m * (n / (Int.gcd m n : Int))) := by
  have hL : 0 < m * (n / (Int.gcd m n : Int)) := by omega
  refine crt_one hm y0 y1 (Int.emod_nonneg _ (by omega)) (Int.emod_lt_of_pos _ hL) ?_ ?_
  · rw [k1, Int.emod_emod_of_dvd _ lcm_left, ← h1, Int.emod_add_emod]
  · rw [k2, Int.emod_emod_of_dvd _ (lcm_right hm), ← h2, Int.emod_add_emod]
theorem shaped_two (a b c d : Int) : SeqAt.shaped (.list [.tuple [.int a, .int b], .tuple [.int c, .int d]]) = true := by
  unfold SeqAt.shaped
  rfl
theorem eqv_two (a b c d : Int) : PyData.eqv (.list [.tuple [.int a, .int b], .tuple [.int c, .int d]]) (.list [.tuple [.int a, .int b], .tuple [.int c, .int d]]) = true := by
  simp [PyData.eqv, PyData.eqvAll]
end GL
namespace GL
open PySem PySem.Spec PyProof.Rows L2
theorem pmapF {α β : Type} {F G : α → β → Prop} (h : ∀ a b, F a b → G a b) : ∀ {xs : List α} {ys : List β}, Paired F xs ys → Paired G xs ys
  | _, _, .nil => .nil
  | _, _, .cons a r => .cons (h _ _ a) (pmapF h r)
theorem psnoc {α β : Type} {F : α → β → Prop} {a : α} {b : β} (h : F a b) : ∀ {xs : List α} {ys : List β}, Paired F xs ys → Paired F (xs ++ [a]) (ys ++ [b])
  | _, _, .nil => .cons h .nil
  | _, _, .cons x r => .cons x (psnoc h r)
theorem plen {α β : Type} {F : α → β → Prop} : ∀ {xs : List α} {ys : List β}, Paired F xs ys → xs.length = ys.length
  | _, _, .nil => rfl
  | _, _, .cons x r => by rw [List.length_cons, List.length_cons, plen r]
end GL
namespace GL
open PySem PySem.Spec PyProof.Rows L2
theorem iteN {d e : PyData} {A B : Prop} (h : PyData.eqv d e = true) (b : B) : if (!PyData.eqv d e) = true then A else B := by
  rw [h]
  exact iteF b
theorem eqv_pair (a b : Int) : PyData.eqv (.tuple [.int a, .int b]) (.tuple [.int a, .int b]) = true := (eqvi_tups [a, b] [a, b]).trans (decide_eq_true rfl)
end GL
/-! Rests by numbers gone through. -/
namespace GL
open PySem PySem.Spec PyProof.Rows L2
theorem inv_ex {a p : Int} : ∀ (n : Nat) {h l t o : Int}, InvW a p h l t o → l.toNat ≤ n → ∃ t, p ∣ a * t - 1
  | n, h, l, t, o, W, hn => by
    by_cases hl : l = 0
    · subst hl
      exact ⟨_, W.fin.1⟩
    · have l0 := W.l0
      have hpos : 0 < l := by omega
      have e : h - h / l * l = h % l := by
        have := Int.emod_add_mul_ediv h l
        rw [Int.mul_comm l] at this
        omega
      have m1 : h - h / l * l < l := by rw [e]; exact Int.emod_lt_of_pos _ hpos
      have m0 : 0 ≤ h - h / l * l := by rw [e]; exact Int.emod_nonneg _ hl
      cases n with
      | zero => omega
      | succ n => exact inv_ex n (W.step hpos) (by omega)
theorem inv_some {a p : Int} (ha : 0 < a) (hp : 0 < p) (hc : Int.gcd a p = 1) : ∃ t, p ∣ a * t - 1 := inv_ex _ (InvW.start ha hp hc) (Nat.le_refl _)
theorem parts_pos {m n : Int} (hm : 0 < m) (hn : 0 < n) : 0 < m / (Int.gcd m n : Int) ∧ 0 < n / (Int.gcd m n : Int) := by
  have hg := gcd_pos (n := n) hm
  have a := Int.le_of_dvd hm (Int.gcd_dvd_left (a := m) (b := n))
  have b := Int.le_of_dvd hn (Int.gcd_dvd_right (a := m) (b := n))
  exact ⟨Int.ediv_pos_of_pos_of_dvd hm (by omega) (Int.gcd_dvd_left ..), Int.ediv_pos_of_pos_of_dvd hn (by omega) (Int.gcd_dvd_right ..)⟩
/-- the step to a number that has both -/
theorem crt_some {r m s n : Int} (h0 : 0 ≤ r) (h1 : r < m) (hs0 : 0 ≤ s) (hs1 : s < n) (hd : (s - r) % (Int.gcd m n : Int) = 0) :
    ∃ k : Int, 0 ≤ k ∧ k < n / (Int.gcd m n : Int) ∧ r + m * k < m * (n / (Int.gcd m n : Int)) ∧ (r + m * k) % m = r ∧ (r + m * k) % n = s := by
  have hm : 0 < m := by omega
  have hn : 0 < n := by omega
  obtain ⟨pa, pb⟩ := parts_pos hm hn
  obtain ⟨inv, hi⟩ := inv_some pa pb (coprime_parts hm)
  obtain ⟨a, b, c, d, e⟩ := crt_step hm hn h0 h1 hs0 hs1 hd hi
  exact ⟨_, Int.emod_nonneg _ (by omega), Int.emod_lt_of_pos _ pb, c, d, e⟩
def dueRow (r m s n : Int) (k : Nat) : List Int := ((List.range k).map fun i : Nat => (i : Int)).filter fun z => decide (z % m = r) && decide (z % n = s)
theorem dueRow_mem {r m s n z : Int} {k : Nat} : z ∈ dueRow r m s n k ↔ 0 ≤ z ∧ z < k ∧ z % m = r ∧ z % n = s := by
  unfold dueRow
  rw [List.mem_filter, List.mem_map, Bool.and_eq_true, decide_eq_true_eq, decide_eq_true_eq]
  constructor
  · rintro ⟨⟨i, hi, rfl⟩, h⟩
    rw [List.mem_range] at hi
    exact ⟨by omega, by omega, h⟩
  · rintro ⟨h0, h1, h⟩
    exact ⟨⟨z.toNat, by rw [List.mem_range]; omega, by omega⟩, h⟩
theorem dueRow_lt (r m s n : Int) (k : Nat) : (dueRow r m s n k).Pairwise (· < ·) := by
  refine List.Pairwise.filter _ ?_
  rw [List.pairwise_map]
  exact List.pairwise_lt_range.imp fun h => by omega
theorem dueRow_succ (r m s n : Int) (j : Nat) : dueRow r m s n (j + 1) = if ((j : Int) % m = r ∧ (j : Int) % n = s) then dueRow r m s n j ++ [(j : Int)] else dueRow r m s n j := by
  unfold dueRow
  rw [List.range_succ, List.map_append, List.filter_append]
  split
  · rename_i h
    congr 1
    simp [h.1, h.2]
  · rename_i h
    simp [h]
theorem dueRow_len (r m s n : Int) (j : Nat) : (dueRow r m s n j).length ≤ j := by
  unfold dueRow
  refine Nat.le_trans (List.length_filter_le ..) ?_
  rw [List.length_map, List.length_range]
  exact Nat.le_refl _
theorem due_none {r m s n : Int} {k : Nat} (h : ¬ (s - r) % (Int.gcd m n : Int) = 0) : dueRow r m s n k = [] := by
  rw [List.eq_nil_iff_forall_not_mem]
  intro z hz
  obtain ⟨_, _, a, b⟩ := dueRow_mem.mp hz
  exact h (crt_none a b)
theorem lcm_gcd {m n : Int} (hm : 0 < m) : m * n = m * (n / (Int.gcd m n : Int)) * (Int.gcd m n : Int) := by
  rw [Int.mul_assoc, Int.ediv_mul_cancel (Int.gcd_dvd_right ..)]
/-- what is due, where there is any -/
theorem due_some {r m s n : Int} {k : Nat} (h0 : 0 ≤ r) (h1 : r < m) (hs0 : 0 ≤ s) (hs1 : s < n) (hk : (k : Int) = m * n) (hd : (s - r) % (Int.gcd m n : Int) = 0) :
    ∃ x : Int, 0 ≤ x ∧ x < m * (n / (Int.gcd m n : Int)) ∧ x % m = r ∧ x % n = s ∧ (dueRow r m s n k)[0]? = some x ∧ ((dueRow r m s n k).length : Int) = (Int.gcd m n : Int) ∧ m * n / (Int.gcd m n : Int) = m * (n / (Int.gcd m n : Int)) := by
  have hm : 0 < m := by omega
  have hn : 0 < n := by omega
  have hg := gcd_pos (n := n) hm
  obtain ⟨j, j0, j1, xL, e1, e2⟩ := crt_some h0 h1 hs0 hs1 hd
  have x0 : 0 ≤ r + m * j := by have := Int.mul_nonneg (show 0 ≤ m by omega) j0; omega
  generalize r + m * j = x at *
  have eL := lcm_gcd (n := n) hm
  have dl : m ∣ m * (n / (Int.gcd m n : Int)) := lcm_left
  have dr : n ∣ m * (n / (Int.gcd m n : Int)) := lcm_right hm
  have dd : ∀ d, m ∣ d → n ∣ d → m * (n / (Int.gcd m n : Int)) ∣ d := fun d a b => lcm_dvd hm a b
  have hq : m * n / (Int.gcd m n : Int) = m * (n / (Int.gcd m n : Int)) := Int.mul_ediv_assoc _ (Int.gcd_dvd_right ..)
  generalize m * (n / (Int.gcd m n : Int)) = L at *
  generalize (Int.gcd m n : Int) = g at *
  have L0 : 0 < L := by omega
  have row : dueRow r m s n k = rgC x (m * n) L := by
    refine lt_ext _ _ (dueRow_lt ..) (rgC_lt L0) fun z => ?_
    rw [dueRow_mem, rgC_mem L0 xL x0, hk]
    constructor
    · rintro ⟨a, b, c, d⟩
      have k1 : m ∣ z - x := by rw [← emod_iff, Int.sub_emod, c, e1, Int.sub_self, Int.zero_emod]
      have k2 : n ∣ z - x := by rw [← emod_iff, Int.sub_emod, d, e2, Int.sub_self, Int.zero_emod]
      have k3 := dd _ k1 k2
      refine ⟨?_, b, emod_iff.mpr k3⟩
      obtain ⟨w, hw⟩ := k3
      rcases Int.lt_or_le w 0 with h' | h'
      · have : L * w ≤ L * (-1) := Int.mul_le_mul_of_nonneg_left (by omega) (by omega)
        omega
      · have := Int.mul_nonneg (show 0 ≤ L by omega) h'
        omega
    · rintro ⟨a, b, c⟩
      have k3 := emod_iff.mp c
      have k1 := Int.dvd_trans dl k3
      have k2 := Int.dvd_trans dr k3
      refine ⟨by omega, b, ?_, ?_⟩
      · rw [← e1]
        exact Int.emod_eq_emod_iff_emod_sub_eq_zero.mpr (emod_iff.mpr k1)
      · rw [← e2]
        exact Int.emod_eq_emod_iff_emod_sub_eq_zero.mpr (emod_iff.mpr k2)
  have xF : x < m * n := by
    rw [eL]
    have : L * 1 ≤ L * g := Int.mul_le_mul_of_nonneg_left (by omega) (by omega)
    omega
  have size : Builtin.Range.rangeSize x (m * n) L = g := by
    unfold Builtin.Range.rangeSize
    rw [if_pos (show L > 0 from L0), if_pos xF, eL]
    have : (L * g - x - 1) / L = g - 1 := by
      have e : L * g - x - 1 = (L - x - 1) + L * (g - 1) := by rw [Int.mul_sub]; omega
      rw [e, Int.add_mul_ediv_left _ _ (by omega), Int.ediv_eq_zero_of_lt (by omega) (by omega)]
      omega
    omega
  refine ⟨x, x0, xL, e1, e2, ?_, ?_, hq⟩
  · rw [row]
    unfold rgC
    rw [size, List.getElem?_map, List.getElem?_range (by omega)]
    simp
  · rw [row]
    unfold rgC
    rw [size, List.length_map, List.length_range]
    omega
/-- the keys gone through -/
def KeysOf (r m N : Int) (j : Nat) (ks : List Int) : Prop := ks.Nodup ∧ ks.length ≤ j ∧ ∀ z, z ∈ ks ↔ ∃ k : Nat, k < j ∧ z = (r + m * (k : Int)) % N
theorem putK_old {kvs : List (Key × V)} {k : Key} {v : V} (h : k ∈ kvs.map (·.1)) : (putK kvs k v).map (·.1) = kvs.map (·.1) := by
  unfold putK
  have : kvs.any (fun kv => decide (kv.1 = k)) = true := by
    obtain ⟨kv, hkv, e⟩ := List.mem_map.mp h
    exact List.any_eq_true.mpr ⟨kv, hkv, decide_eq_true e⟩
  rw [if_pos this, List.map_map]
  refine List.map_congr_left fun kv _ => ?_
  show (if kv.1 = k then (kv.1, v) else kv).1 = kv.1
  split <;> rfl
theorem putK_fresh {kvs : List (Key × V)} {k : Key} {v : V} (h : k ∉ kvs.map (·.1)) : (putK kvs k v).map (·.1) = kvs.map (·.1) ++ [k] := by
  unfold putK
  have : kvs.any (fun kv => decide (kv.1 = k)) = false := by
    rw [List.any_eq_false]
    intro kv hkv
    rw [decide_eq_true_eq]
    intro e
    exact h (by rw [← e]; exact List.mem_map_of_mem hkv)
  rw [this, if_neg (by decide), List.map_append]
  rfl
theorem inl_mem {z : Int} {ks : List Int} : (Sum.inl z : Key) ∈ ks.map Sum.inl ↔ z ∈ ks := by
  constructor
  · intro h
    obtain ⟨y, hy, e⟩ := List.mem_map.mp h
    injection e with e
    rw [← e]
    exact hy
  · exact fun h => List.mem_map_of_mem h
theorem KeysOf.step {r m N : Int} {j : Nat} {ks : List Int} {kvs : List (Key × V)} {v : V} (h : KeysOf r m N j ks) (hk : kvs.map (·.1) = ks.map Sum.inl) :
    ∃ ks', KeysOf r m N (j + 1) ks' ∧ (putK kvs (Sum.inl ((r + m * (j : Int)) % N)) v).map (·.1) = ks'.map Sum.inl := by
  obtain ⟨nd, len, mem⟩ := h
  by_cases hz : (r + m * (j : Int)) % N ∈ ks
  · refine ⟨ks, ⟨nd, by omega, fun z => (mem z).trans ⟨fun ⟨k, a, b⟩ => ⟨k, by omega, b⟩, fun ⟨k, a, b⟩ => ?_⟩⟩, ?_⟩
    · by_cases e : k = j
      · rw [b, e]
        exact (mem _).mp hz
      · exact ⟨k, by omega, b⟩
    · rw [putK_old (by rw [hk]; exact inl_mem.mpr hz), hk]
  · refine ⟨ks ++ [(r + m * (j : Int)) % N], ⟨?_, by rw [List.length_append]; exact Nat.add_le_add_right len 1, fun z => ?_⟩, ?_⟩
    · rw [List.nodup_append]
      refine ⟨nd, List.nodup_cons.mpr ⟨(fun h => nomatch h), List.nodup_nil⟩, fun a ha b hb => ?_⟩
      rw [List.mem_singleton] at hb
      rw [hb]
      exact fun e => hz (e ▸ ha)
    · rw [List.mem_append, List.mem_singleton, mem]
      constructor
      · rintro (⟨k, a, b⟩ | e)
        · exact ⟨k, by omega, b⟩
        · exact ⟨j, by omega, e⟩
      · rintro ⟨k, a, b⟩
        by_cases e : k = j
        · exact .inr (by rw [b, e])
        · exact .inl ⟨k, by omega, b⟩
    · rw [putK_fresh (by rw [hk]; exact fun e => hz (inl_mem.mp e)), hk, List.map_append]
      rfl
theorem keys_row {r m : Int} {N : Nat} {ks ms : List Int} (h0 : 0 ≤ r) (h1 : r < m) (hN : 0 < N) (h : KeysOf r m N N ks) (hp : ms.Perm ks) (hs : ms.Pairwise (· ≤ ·)) : ms = rgC (r % (Int.gcd m N : Int)) N (Int.gcd m N : Int) := by
  have hm : 0 < m := by omega
  have hg := gcd_pos (n := (N : Int)) hm
  rw [by_row hg]
  obtain ⟨nd, len, mem⟩ := h
  have nd' : ms.Nodup := hp.nodup_iff.mpr nd
  refine lt_ext _ _ ?_ (byRow_lt ..) fun z => ?_
  · exact (hs.and nd').imp fun {a b} ⟨x, y⟩ => by omega
  · rw [hp.mem_iff, mem, byRow_mem]
    constructor
    · rintro ⟨k, a, rfl⟩
      refine ⟨Int.emod_nonneg _ (by omega), Int.emod_lt_of_pos _ (by omega), ?_⟩
      rw [Int.sub_emod, Int.emod_emod_of_dvd _ (Int.gcd_dvd_right ..), ← Int.sub_emod, show r + m * (k : Int) - r = m * k by omega, emod_iff]
      exact Int.dvd_mul_of_dvd_left (Int.gcd_dvd_left ..)
    · rintro ⟨a, b, c⟩
      obtain ⟨k, k0, k1, _, _, e⟩ := crt_some h0 h1 a b c
      have le : (N : Int) / (Int.gcd m N : Int) ≤ N := Int.ediv_le_self _ (by omega)
      exact ⟨k.toNat, by omega, by rw [Int.toNat_of_nonneg k0]; exact e.symm⟩
/-! ### promises -/
def spExact : Sp := fun vs H Q _ => ∃ x y : V, vs = [x, y] ∧
  ((x = .non ∧ y = .non) ∨ (∃ (a b : Addr) (i j : Int), x = .ref a ∧ y = .ref b ∧ H a = some (.tup [.int i, .int j]) ∧ H b = some (.tup [.int i, .int j])) ∨
    (∃ (a b : Addr) (ns : List Int), x = .ref a ∧ y = .ref b ∧ H a = some (.lst (ns.map V.int)) ∧ H b = some (.lst (ns.map V.int)))) ∧ ∀ H', Same H H' → Q (.bl true) H'
def spSizes : Sp := fun vs H Q _ => ∃ (S C : Addr), vs = [.ref S] ∧ StOk H S C ∧ ∀ H' t m n, Mod S C H H' → StOk H' S C → H' t = some (.tup [.int m, .int n]) → 1 ≤ m → m ≤ 30 → 1 ≤ n → n ≤ 30 → Q (.ref t) H'
def spDue : Sp := fun vs H Q _ => ∃ (t u : Addr) (r m s n : Int), vs = [.ref t, .ref u] ∧ RestAt H t r m ∧ RestAt H u s n ∧ m ≤ 30 ∧ n ≤ 30 ∧
  (¬ (s - r) % (Int.gcd m n : Int) = 0 → ∀ H', Same H H' → Q .non H') ∧
  ((s - r) % (Int.gcd m n : Int) = 0 → ∀ H' q x, Same H H' → H' q = some (.tup [.int x, .int (m * (n / (Int.gcd m n : Int)))]) → 0 ≤ x → x < m * (n / (Int.gcd m n : Int)) → x % m = r → x % n = s → Q (.ref q) H')
def spByRight2 : Sp := fun vs H Q _ => ∃ (t : Addr) (r m N : Int), vs = [.ref t, .int N] ∧ RestAt H t r m ∧ 1 ≤ N ∧ N ≤ 1000 ∧ ∀ H', Same H H' → Q (.bl true) H'
end GL
namespace GL
open PySem PySem.Spec PyProof.Rows L2
theorem cond_swap {r m s n : Int} : (r - s) % (Int.gcd n m : Int) = 0 ↔ (s - r) % (Int.gcd m n : Int) = 0 := by
  rw [Int.gcd_comm n m, emod_iff, emod_iff, show s - r = -(r - s) by omega, Int.dvd_neg]
theorem lcm_swap {m n : Int} : n * (m / (Int.gcd n m : Int)) = m * (n / (Int.gcd m n : Int)) := by
  rw [Int.gcd_comm n m, ← Int.mul_ediv_assoc _ (Int.gcd_dvd_left ..), ← Int.mul_ediv_assoc _ (Int.gcd_dvd_right ..), Int.mul_comm]
theorem self_m {m : Int} (hm : 0 < m) : m * (m / (Int.gcd m m : Int)) = m := by
  rw [Int.gcd_self, show ((m.natAbs : Nat) : Int) = m by omega, Int.ediv_self (by omega), Int.mul_one]
theorem one_m {m : Int} : m * (1 / (Int.gcd m 1 : Int)) = m := by
  rw [Int.gcd_one_right]
  show m * (1 / 1) = m
  rw [Int.ediv_one, Int.mul_one]
theorem both_same {m n x y r s : Int} (hm : 0 < m) (x0 : 0 ≤ x) (x1 : x < m * (n / (Int.gcd m n : Int))) (a : x % m = r) (b : x % n = s) (y0 : 0 ≤ y) (y1 : y < m * (n / (Int.gcd m n : Int))) (c : y % m = r) (d : y % n = s) : y = x :=
  crt_one hm y0 y1 x0 x1 (c.trans a.symm) (d.trans b.symm)
theorem great_bd {z f : Int} (z0 : 0 ≤ z) (h : z < 10 ^ f.toNat) (hf : f ≤ 60) : (1 + z).natAbs < 2 ^ 4000 := by
  obtain ⟨k, rfl⟩ : ∃ k : Nat, z = (k : Int) := ⟨z.toNat, by omega⟩
  have h1 : k < 10 ^ f.toNat := by
    have : ((10 ^ f.toNat : Nat) : Int) = 10 ^ f.toNat := by rw [Int.natCast_pow]; rfl
    omega
  have h2 : 10 ^ f.toNat ≤ 10 ^ 60 := Nat.pow_le_pow_right (by decide) (by omega)
  have h3 : (10 : Nat) ^ 60 < 2 ^ 200 := by decide
  have h4 : (2 : Nat) ^ 200 ≤ 2 ^ 4000 := Nat.pow_le_pow_right (by decide) (by decide)
  have h5 : (1 + (k : Int)).natAbs = 1 + k := by omega
  rw [h5]
  exact Nat.lt_of_lt_of_le (Nat.lt_of_le_of_lt (show 1 + k ≤ 10 ^ 60 by omega) h3) h4
end GL
/-! Rests of which each two agree have a number in common: the arithmetic. -/
namespace GL
theorem gcd_times {X a b c : Nat} (h1 : X ∣ a * b) (h2 : X ∣ a * c) (h3 : X ∣ c * b) (h4 : X ∣ c * c) : X ∣ Nat.gcd a c * Nat.gcd b c := by
  rw [← Nat.gcd_mul_right]
  refine Nat.dvd_gcd ?_ ?_
  · rw [← Nat.gcd_mul_left]
    exact Nat.dvd_gcd h1 h2
  · rw [← Nat.gcd_mul_left]
    exact Nat.dvd_gcd h3 h4
theorem gcd_lcm_dvd (a b c : Nat) : Nat.gcd (Nat.lcm a b) c * Nat.gcd (Nat.gcd a b) c ∣ Nat.gcd a c * Nat.gcd b c := by
  have l1 := Nat.gcd_dvd_left (Nat.lcm a b) c
  have l2 := Nat.gcd_dvd_right (Nat.lcm a b) c
  have g1 := Nat.gcd_dvd_left (Nat.gcd a b) c
  have g2 := Nat.gcd_dvd_right (Nat.gcd a b) c
  refine gcd_times ?_ ?_ ?_ (Nat.mul_dvd_mul l2 g2)
  · have := Nat.mul_dvd_mul l1 g1
    rwa [Nat.mul_comm (Nat.lcm a b), Nat.gcd_mul_lcm] at this
  · have := Nat.mul_dvd_mul l2 (Nat.dvd_trans g1 (Nat.gcd_dvd_left a b))
    rwa [Nat.mul_comm c a] at this
  · exact Nat.mul_dvd_mul l2 (Nat.dvd_trans g1 (Nat.gcd_dvd_right a b))
theorem join_dvd {a b c d : Nat} (hc : 0 < c) (h1 : Nat.gcd a c ∣ d) (h2 : Nat.gcd b c ∣ d) : Nat.gcd (Nat.lcm a b) c ∣ d := by
  have k := gcd_lcm_dvd a b c
  have e : Nat.gcd (Nat.gcd a c) (Nat.gcd b c) = Nat.gcd (Nat.gcd a b) c := by
    refine Nat.dvd_antisymm ?_ ?_
    · exact Nat.dvd_gcd (Nat.dvd_gcd (Nat.dvd_trans (Nat.gcd_dvd_left _ _) (Nat.gcd_dvd_left _ _)) (Nat.dvd_trans (Nat.gcd_dvd_right _ _) (Nat.gcd_dvd_left _ _))) (Nat.dvd_trans (Nat.gcd_dvd_left _ _) (Nat.gcd_dvd_right _ _))
    · exact Nat.dvd_gcd (Nat.dvd_gcd (Nat.dvd_trans (Nat.gcd_dvd_left _ _) (Nat.gcd_dvd_left _ _)) (Nat.gcd_dvd_right _ _)) (Nat.dvd_gcd (Nat.dvd_trans (Nat.gcd_dvd_left _ _) (Nat.gcd_dvd_right _ _)) (Nat.gcd_dvd_right _ _))
  have G0 : 0 < Nat.gcd (Nat.gcd a b) c := Nat.gcd_pos_of_pos_right _ hc
  have m := Nat.gcd_mul_lcm (Nat.gcd a c) (Nat.gcd b c)
  rw [e] at m
  rw [← m, Nat.mul_comm] at k
  exact Nat.dvd_trans (Nat.dvd_of_mul_dvd_mul_left G0 k) (Nat.lcm_dvd h1 h2)
end GL
namespace GL
/-- the exponents of both, one by one -/
def both2 (h : Nat → Nat → Nat) : List (Nat × Nat) → List (Nat × Nat) → List (Nat × Nat)
  | x :: ps, y :: qs => (x.1, h x.2 y.2) :: both2 h ps qs
  | _, _ => []
theorem gcd_pows (p : Nat) {a b : Nat} (h : a ≤ b) : Nat.gcd (p ^ a) (p ^ b) = p ^ a := Nat.gcd_eq_left (Nat.pow_dvd_pow p h)
theorem gcd_pow_min (p a b : Nat) : Nat.gcd (p ^ a) (p ^ b) = p ^ min a b := by
  rcases Nat.le_total a b with h | h
  · rw [gcd_pows p h, Nat.min_eq_left h]
  · rw [Nat.gcd_comm, gcd_pows p h, Nat.min_eq_right h]
theorem prod_min : ∀ (ps qs : List (Nat × Nat)), ps.map (·.1) = qs.map (·.1) → (ps.map (·.1)).Pairwise Nat.Coprime → prodP (both2 min ps qs) = Nat.gcd (prodP ps) (prodP qs)
  | [], [], _, _ => rfl
  | x :: ps, y :: qs, e, h => by
    rw [List.map_cons, List.map_cons] at e
    injection e with e1 e2
    rw [List.map_cons, List.pairwise_cons] at h
    have c1 : Nat.Coprime x.1 (prodP ps) := co_prod ps fun z hz => h.1 _ (List.mem_map_of_mem hz)
    have c2 : Nat.Coprime x.1 (prodP qs) := co_prod qs fun z hz => h.1 _ (by rw [e2]; exact List.mem_map_of_mem hz)
    have k1 : Nat.gcd (x.1 ^ x.2) (prodP qs) = 1 := Nat.Coprime.pow_left _ c2
    have k2 : Nat.gcd (prodP ps) (x.1 ^ y.2) = 1 := (Nat.Coprime.pow_left _ c1).symm
    show x.1 ^ min x.2 y.2 * prodP (both2 min ps qs) = Nat.gcd (x.1 ^ x.2 * prodP ps) (y.1 ^ y.2 * prodP qs)
    have s1 : Nat.gcd (x.1 ^ x.2 * prodP ps) (x.1 ^ y.2 * prodP qs) = Nat.gcd (x.1 ^ x.2 * prodP ps) (x.1 ^ y.2) * Nat.gcd (x.1 ^ x.2 * prodP ps) (prodP qs) := Nat.Coprime.gcd_mul _ (Nat.Coprime.pow_left _ c2)
    have s2 : ∀ n, Nat.gcd (x.1 ^ x.2 * prodP ps) n = Nat.gcd (x.1 ^ x.2) n * Nat.gcd (prodP ps) n := fun n => by
      rw [Nat.gcd_comm _ n, Nat.Coprime.gcd_mul n (Nat.Coprime.pow_left _ c1), Nat.gcd_comm n, Nat.gcd_comm n]
    rw [prod_min ps qs e2 h.2, ← e1, s1, s2, s2, k1, k2, gcd_pow_min, Nat.mul_one, Nat.one_mul]
  | [], _ :: _, e, _ => by simp at e
  | _ :: _, [], e, _ => by simp at e
theorem prod_both : ∀ (ps qs : List (Nat × Nat)), ps.map (·.1) = qs.map (·.1) → prodP (both2 max ps qs) * prodP (both2 min ps qs) = prodP ps * prodP qs
  | [], [], _ => rfl
  | x :: ps, y :: qs, e => by
    rw [List.map_cons, List.map_cons] at e
    injection e with e1 e2
    have ih := prod_both ps qs e2
    show x.1 ^ max x.2 y.2 * prodP (both2 max ps qs) * (x.1 ^ min x.2 y.2 * prodP (both2 min ps qs)) = x.1 ^ x.2 * prodP ps * (y.1 ^ y.2 * prodP qs)
    have k : x.1 ^ max x.2 y.2 * x.1 ^ min x.2 y.2 = x.1 ^ x.2 * x.1 ^ y.2 := by
      rw [← Nat.pow_add, ← Nat.pow_add]
      congr 1
      omega
    calc x.1 ^ max x.2 y.2 * prodP (both2 max ps qs) * (x.1 ^ min x.2 y.2 * prodP (both2 min ps qs)) = (x.1 ^ max x.2 y.2 * x.1 ^ min x.2 y.2) * (prodP (both2 max ps qs) * prodP (both2 min ps qs)) := by ac_rfl
      _ = (x.1 ^ x.2 * x.1 ^ y.2) * (prodP ps * prodP qs) := by rw [k, ih]
      _ = x.1 ^ x.2 * prodP ps * (y.1 ^ y.2 * prodP qs) := by rw [← e1]; ac_rfl
  | [], _ :: _, e => by simp at e
  | _ :: _, [], e => by simp at e
theorem prod_max {ps qs : List (Nat × Nat)} (e : ps.map (·.1) = qs.map (·.1)) (h : (ps.map (·.1)).Pairwise Nat.Coprime) (h0 : 0 < prodP ps) : prodP (both2 max ps qs) = Nat.lcm (prodP ps) (prodP qs) := by
  have a := prod_both ps qs e
  rw [prod_min ps qs e h] at a
  have b := Nat.gcd_mul_lcm (prodP ps) (prodP qs)
  have g : 0 < Nat.gcd (prodP ps) (prodP qs) := Nat.gcd_pos_of_pos_left _ h0
  rw [← a, Nat.mul_comm] at b
  exact (Nat.eq_of_mul_eq_mul_right g b).symm
end GL
namespace GL
def lcmL : List Nat → Nat
  | [] => 1
  | m :: r => Nat.lcm m (lcmL r)
theorem lcmL_pos : ∀ ms : List Nat, (∀ m ∈ ms, 0 < m) → 0 < lcmL ms
  | [], _ => Nat.zero_lt_one
  | m :: r, h => Nat.lcm_pos (h m List.mem_cons_self) (lcmL_pos r fun x hx => h x (List.mem_cons_of_mem _ hx))
theorem dvd_lcmL : ∀ {ms : List Nat} {m : Nat}, m ∈ ms → m ∣ lcmL ms
  | n :: r, m, h => by
    rcases List.mem_cons.mp h with rfl | h
    · exact Nat.dvd_lcm_left _ _
    · exact Nat.dvd_trans (dvd_lcmL h) (Nat.dvd_lcm_right _ _)
theorem lcmL_least : ∀ {ms : List Nat} {d : Nat}, (∀ m ∈ ms, m ∣ d) → lcmL ms ∣ d
  | [], d, _ => Nat.one_dvd d
  | m :: r, d, h => Nat.lcm_dvd (h m List.mem_cons_self) (lcmL_least fun x hx => h x (List.mem_cons_of_mem _ hx))
theorem lcmL_append (ms ns : List Nat) : lcmL (ms ++ ns) = Nat.lcm (lcmL ms) (lcmL ns) := by
  refine Nat.dvd_antisymm (lcmL_least fun m hm => ?_) (Nat.lcm_dvd (lcmL_least fun m hm => dvd_lcmL (List.mem_append_left _ hm)) (lcmL_least fun m hm => dvd_lcmL (List.mem_append_right _ hm)))
  rcases List.mem_append.mp hm with h | h
  · exact Nat.dvd_trans (dvd_lcmL h) (Nat.dvd_lcm_left _ _)
  · exact Nat.dvd_trans (dvd_lcmL h) (Nat.dvd_lcm_right _ _)
theorem lcmL_perm {ms ns : List Nat} (h : ms.Perm ns) : lcmL ms = lcmL ns :=
  Nat.dvd_antisymm (lcmL_least fun m hm => dvd_lcmL (h.mem_iff.mp hm)) (lcmL_least fun m hm => dvd_lcmL (h.mem_iff.mpr hm))
theorem lcmL_one {c d : Nat} (hc : 0 < c) : ∀ ms : List Nat, (∀ m ∈ ms, Nat.gcd m c ∣ d) → Nat.gcd (lcmL ms) c ∣ d
  | [], _ => by
    show Nat.gcd 1 c ∣ d
    rw [Nat.gcd_one_left]
    exact Nat.one_dvd d
  | m :: r, h => join_dvd hc (h m List.mem_cons_self) (lcmL_one hc r fun x hx => h x (List.mem_cons_of_mem _ hx))
theorem lcmL_cross {d : Nat} {ms ns : List Nat} (hm : ∀ m ∈ ms, 0 < m) (hn : ∀ n ∈ ns, 0 < n) (h : ∀ m ∈ ms, ∀ n ∈ ns, Nat.gcd m n ∣ d) : Nat.gcd (lcmL ms) (lcmL ns) ∣ d :=
  lcmL_one (lcmL_pos ns hn) ms fun m hmm => by
    rw [Nat.gcd_comm]
    refine lcmL_one (hm m hmm) ns fun n hnn => ?_
    rw [Nat.gcd_comm]
    exact h m hmm n hnn
/-- rests: (r, m), m told as a natural number -/
def Solves (x : Int) (rs : List (Int × Nat)) : Prop := ∀ p ∈ rs, x % (p.2 : Int) = p.1
def AgreeR (p q : Int × Nat) : Prop := (q.1 - p.1) % (Int.gcd (p.2 : Int) (q.2 : Int) : Int) = 0
theorem cross_agree {x y : Int} {ps qs : List (Int × Nat)} (hx : Solves x ps) (hy : Solves y qs) (hp : ∀ p ∈ ps, 0 < p.2) (hq : ∀ q ∈ qs, 0 < q.2) (h : ∀ p ∈ ps, ∀ q ∈ qs, AgreeR p q) :
    (y - x) % (Int.gcd (lcmL (ps.map (·.2)) : Int) (lcmL (qs.map (·.2)) : Int) : Int) = 0 := by
  rw [emod_iff]
  refine Int.ofNat_dvd_left.mpr ?_
  refine lcmL_cross (fun m hm => ?_) (fun n hn => ?_) (fun m hm n hn => ?_)
  · obtain ⟨p, h1, rfl⟩ := List.mem_map.mp hm
    exact hp p h1
  · obtain ⟨q, h1, rfl⟩ := List.mem_map.mp hn
    exact hq q h1
  · obtain ⟨p, h1, rfl⟩ := List.mem_map.mp hm
    obtain ⟨q, h2, rfl⟩ := List.mem_map.mp hn
    have a := emod_iff.mp (h p h1 q h2)
    have ex : (p.2 : Int) ∣ x - p.1 := by rw [← hx p h1]; exact Int.dvd_self_sub_emod
    have ey : (q.2 : Int) ∣ y - q.1 := by rw [← hy q h2]; exact Int.dvd_self_sub_emod
    have b := Int.dvd_trans (Int.gcd_dvd_left (a := (p.2 : Int)) (b := (q.2 : Int))) ex
    have c := Int.dvd_trans (Int.gcd_dvd_right (a := (p.2 : Int)) (b := (q.2 : Int))) ey
    have k := Int.dvd_sub (Int.dvd_add a c) b
    rw [show q.1 - p.1 + (y - q.1) - (x - p.1) = y - x by omega] at k
    exact Int.ofNat_dvd_left.mp k
/-- where some number has all of them, each two agree -/
theorem agree_of {x : Int} {rs : List (Int × Nat)} (h : Solves x rs) : ∀ p ∈ rs, ∀ q ∈ rs, AgreeR p q := fun p hp q hq => crt_none (h p hp) (h q hq)
theorem lcm_int {m n : Nat} (hm : 0 < m) : ((m : Int) * ((n : Int) / (Int.gcd (m : Int) (n : Int) : Int))) = ((Nat.lcm m n : Nat) : Int) := by
  have e : (Int.gcd (m : Int) (n : Int)) = Nat.gcd m n := rfl
  rw [e, ← Int.natCast_ediv, ← Int.natCast_mul]
  congr 1
  rw [Nat.lcm, Nat.mul_div_assoc _ (Nat.gcd_dvd_right m n)]
end GL
/-! Rests joined, one behind another or by halves: what comes out. -/
namespace GL
open PySem PySem.Spec PyProof.Rows L2
def Agree (rs : List (Int × Nat)) : Prop := ∀ p ∈ rs, ∀ q ∈ rs, AgreeR p q
abbrev AR := Addr × (Int × Nat)
def vR (L : List AR) : List V := L.map fun x => V.ref x.1
def rR (L : List AR) : List (Int × Nat) := L.map (·.2)
def AllR (H : Hp) (L : List AR) : Prop := ∀ x ∈ L, RestAt H x.1 x.2.1 (x.2.2 : Int)
theorem AllR.same {H H' : Hp} {L : List AR} (h : AllR H L) (s : Same H H') : AllR H' L := fun x hx => (h x hx).same s
theorem AllR.mod {H H' : Hp} {L : List AR} {S C : Addr} (h : AllR H L) (s : Mod S C H H') (st : StOk H S C) : AllR H' L := fun x hx => (h x hx).mod s st
def Below (D : Nat) (rs : List (Int × Nat)) : Prop := 0 < D ∧ D < 2 ^ 4000 ∧ ∀ p ∈ rs, p.2 ∣ D
def lcmR (rs : List (Int × Nat)) : Nat := lcmL (rs.map (·.2))
theorem Below.lt {D : Nat} {rs : List (Int × Nat)} (h : Below D rs) : lcmR rs < 2 ^ 4000 := by
  refine Nat.lt_of_le_of_lt (Nat.le_of_dvd h.1 (lcmL_least fun m hm => ?_)) h.2.1
  obtain ⟨p, hp, rfl⟩ := List.mem_map.mp hm
  exact h.2.2 p hp
def JoinV (H : Hp) (v : V) (rs : List (Int × Nat)) : Prop := (v = .non ∧ ¬ Agree rs) ∨ (∃ t x, v = .ref t ∧ RestAt H t x (lcmR rs : Nat) ∧ Solves x rs)
theorem JoinV.same {H H' : Hp} {v : V} {rs : List (Int × Nat)} (h : JoinV H v rs) (s : Same H H') : JoinV H' v rs := by
  rcases h with h | ⟨t, x, e, R, sv⟩
  · exact .inl h
  · exact .inr ⟨t, x, e, R.same s, sv⟩
theorem agree_left {ps qs : List (Int × Nat)} (h : Agree (ps ++ qs)) : Agree ps := fun p hp q hq => h p (List.mem_append_left _ hp) q (List.mem_append_left _ hq)
theorem agree_right {ps qs : List (Int × Nat)} (h : Agree (ps ++ qs)) : Agree qs := fun p hp q hq => h p (List.mem_append_right _ hp) q (List.mem_append_right _ hq)
theorem solves_step {x z : Int} {ps : List (Int × Nat)} (h : Solves x ps) (e : z % (lcmR ps : Nat) = x) : Solves z ps := fun p hp => by
  rw [← h p hp, ← e]
  exact (Int.emod_emod_of_dvd _ (Int.natCast_dvd_natCast.mpr (dvd_lcmL (List.mem_map_of_mem hp)))).symm
theorem lcmR_append (ps qs : List (Int × Nat)) : lcmR (ps ++ qs) = Nat.lcm (lcmR ps) (lcmR qs) := by
  unfold lcmR
  rw [List.map_append, lcmL_append]
theorem below_left {D : Nat} {ps qs : List (Int × Nat)} (h : Below D (ps ++ qs)) : Below D ps := ⟨h.1, h.2.1, fun p hp => h.2.2 p (List.mem_append_left _ hp)⟩
theorem below_right {D : Nat} {ps qs : List (Int × Nat)} (h : Below D (ps ++ qs)) : Below D qs := ⟨h.1, h.2.1, fun p hp => h.2.2 p (List.mem_append_right _ hp)⟩
theorem agree_one (p : Int × Nat) : Agree [p] := fun a ha b hb => by
  rw [List.mem_singleton.mp ha, List.mem_singleton.mp hb]
  unfold AgreeR
  rw [Int.sub_self, Int.zero_emod]
theorem join_one {H : Hp} {t : Addr} {p : Int × Nat} (h : RestAt H t p.1 (p.2 : Int)) : JoinV H (.ref t) [p] :=
  .inr ⟨t, p.1, rfl, by
    have e : lcmR [p] = p.2 := Nat.lcm_one_right _
    rw [e]; exact h, fun q hq => by rw [List.mem_singleton.mp hq]; exact Int.emod_eq_of_lt h.r0 h.rm⟩
/-- what both makes of two rests that were joined already -/
theorem join_both {H : Hp} {E : XK} {t u : Addr} {x y : Int} {ps qs : List (Int × Nat)} {D : Nat} {Q : VK} (R : RestAt H t x (lcmR ps : Nat)) (S : RestAt H u y (lcmR qs : Nat)) (sx : Solves x ps) (sy : Solves y qs) (hb : Below D (ps ++ qs)) (hp : ∀ p ∈ ps, 0 < p.2) (hq : ∀ q ∈ qs, 0 < q.2)
    (q : ∀ H' v, Same H H' → JoinV H' v (ps ++ qs) → Q v H') : spBoth [.ref t, .ref u] H Q E := by
  have hm : 0 < lcmR ps := by have := R.pos; omega
  have e := lcm_int (m := lcmR ps) (n := lcmR qs) hm
  rw [← lcmR_append] at e
  refine ⟨t, u, _, _, _, _, rfl, R, S, fun hno => ?_, fun hyes H' z w sm nz hz w0 w1 e1 e2 => ?_⟩
  · exact q H .non (fun _ _ h => h) (.inl ⟨rfl, fun ha => hno (cross_agree sx sy hp hq fun p h1 q h2 => ha p (List.mem_append_left _ h1) q (List.mem_append_right _ h2))⟩)
  · rw [e] at hz w1
    refine q H' (.ref z) sm (.inr ⟨z, w, rfl, ⟨hz, w0, w1, by have := hb.lt; omega⟩, fun p hp => ?_⟩)
    rcases List.mem_append.mp hp with h | h
    · exact solves_step sx e1 p h
    · exact solves_step sy e2 p h
theorem join_none {H : Hp} {ps qs : List (Int × Nat)} (h : ¬ Agree ps ∨ ¬ Agree qs) : JoinV H .non (ps ++ qs) := .inl ⟨rfl, fun a => h.elim (fun k => k (agree_left a)) (fun k => k (agree_right a))⟩
theorem agree_solved {x : Int} {rs : List (Int × Nat)} (h : Solves x rs) : Agree rs := agree_of h
/-! ### all the greatest powers -/
def jointP : List (Nat × Nat) → List (List (Nat × Nat)) → List (Nat × Nat)
  | ps, [] => ps
  | ps, qs :: r => jointP (both2 max ps qs) r
theorem both2_keys (h : Nat → Nat → Nat) : ∀ {ps qs : List (Nat × Nat)}, ps.map (·.1) = qs.map (·.1) → (both2 h ps qs).map (·.1) = ps.map (·.1)
  | [], [], _ => rfl
  | x :: ps, y :: qs, e => by
    rw [List.map_cons, List.map_cons] at e
    injection e with e1 e2
    show x.1 :: (both2 h ps qs).map (·.1) = _
    rw [both2_keys h e2, List.map_cons]
  | [], _ :: _, e => by simp at e
  | _ :: _, [], e => by simp at e
theorem both2_es {h : Nat → Nat → Nat} (hh : ∀ a b, a ≤ 20 → b ≤ 20 → h a b ≤ 20) : ∀ {ps qs : List (Nat × Nat)}, (∀ x ∈ ps, x.2 ≤ 20) → (∀ x ∈ qs, x.2 ≤ 20) → ∀ x ∈ both2 h ps qs, x.2 ≤ 20
  | [], _, _, _ => fun x hx => nomatch hx
  | _ :: _, [], _, _ => fun x hx => nomatch hx
  | p :: ps, q :: qs, a, b => fun x hx => by
    rcases List.mem_cons.mp hx with rfl | hx
    · exact hh _ _ (a p List.mem_cons_self) (b q List.mem_cons_self)
    · exact both2_es hh (fun z hz => a z (List.mem_cons_of_mem _ hz)) (fun z hz => b z (List.mem_cons_of_mem _ hz)) x hx
theorem PowOk.both {h : Nat → Nat → Nat} (hh : ∀ a b, a ≤ 20 → b ≤ 20 → h a b ≤ 20) {ps qs : List (Nat × Nat)} (a : PowOk ps) (b : PowOk qs) : PowOk (both2 h ps qs) :=
  ⟨(both2_keys h (a.ks.trans b.ks.symm)).trans a.ks, both2_es hh a.es b.es⟩
theorem min20 : ∀ a b : Nat, a ≤ 20 → b ≤ 20 → min a b ≤ 20 := fun a b _ _ => by omega
theorem max20 : ∀ a b : Nat, a ≤ 20 → b ≤ 20 → max a b ≤ 20 := fun a b _ _ => by omega
theorem PowOk.joint : ∀ {r : List (List (Nat × Nat))} {ps : List (Nat × Nat)}, PowOk ps → (∀ q ∈ r, PowOk q) → PowOk (jointP ps r)
  | [], _, a, _ => a
  | q :: r, _, a, b => PowOk.joint (r := r) (a.both max20 (b q List.mem_cons_self)) fun x hx => b x (List.mem_cons_of_mem _ hx)
theorem PowOk.co {ps : List (Nat × Nat)} (a : PowOk ps) : (ps.map (·.1)).Pairwise Nat.Coprime := by rw [a.ks]; exact primes_co
theorem prod_joint : ∀ {r : List (List (Nat × Nat))} {ps : List (Nat × Nat)}, PowOk ps → (∀ q ∈ r, PowOk q) → prodP (jointP ps r) = Nat.lcm (prodP ps) (lcmL (r.map prodP))
  | [], ps, _, _ => (Nat.lcm_one_right _).symm
  | q :: r, ps, a, b => by
    have hq := b q List.mem_cons_self
    have ih := prod_joint (r := r) (ps := both2 max ps q) (a.both max20 hq) fun x hx => b x (List.mem_cons_of_mem _ hx)
    show prodP (jointP (both2 max ps q) r) = _
    rw [ih, prod_max (a.ks.trans hq.ks.symm) a.co a.pos, Nat.lcm_assoc]
    rfl
theorem both2_at {h : Nat → Nat → Nat} : ∀ {ps qs : List (Nat × Nat)} {i : Nat} {x y : Nat × Nat}, ps.map (·.1) = qs.map (·.1) → ps[i]? = some x → qs[i]? = some y → (both2 h ps qs)[i]? = some (x.1, h x.2 y.2)
  | p :: ps, q :: qs, 0, x, y, _, a, b => by
    injection a with a; injection b with b
    subst a; subst b; rfl
  | p :: ps, q :: qs, i + 1, x, y, e, a, b => by
    rw [List.map_cons, List.map_cons] at e
    injection e with _ e2
    exact both2_at (i := i) e2 a b
  | [], _, _, _, _, _, a, _ => nomatch a
  | _ :: _, [], _, _, _, _, _, b => nomatch b
theorem both2_len {h : Nat → Nat → Nat} {ps qs : List (Nat × Nat)} (e : ps.map (·.1) = qs.map (·.1)) : (both2 h ps qs).length = ps.length := by
  have := congrArg List.length (both2_keys h e)
  rwa [List.length_map, List.length_map] at this
end GL
/-! Dicts of powers, and what the helpers promise. -/
namespace GL
open PySem PySem.Spec PyProof.Rows L2
abbrev AP := Addr × List (Nat × Nat)
def vP (D : List AP) : List V := D.map fun x => V.ref x.1
def AllP (H : Hp) (D : List AP) : Prop := ∀ x ∈ D, H x.1 = some (.dK (kvP x.2)) ∧ PowOk x.2
theorem AllP.same {H H' : Hp} {D : List AP} (h : AllP H D) (s : Same H H') : AllP H' D := fun x hx => ⟨s _ _ (h x hx).1, (h x hx).2⟩
theorem AllP.mod {H H' : Hp} {D : List AP} {S C : Addr} (h : AllP H D) (s : Mod S C H H') (st : StOk H S C) : AllP H' D := fun x hx => ⟨s.other st (h x hx).1 (fun _ z => nomatch z), (h x hx).2⟩
theorem rd_lock {H : Hp} {d e : Addr} {od : Obj} {ps qs : List (Nat × Nat)} (hd : H d = some (.dK (kvP ps))) (he : H e = some (.dK (kvP qs))) : Rd (upd H d (.frz od (.dK (kvP ps)))) e (.dK (kvP qs)) := by
  by_cases k : e = d
  · subst k
    rw [hd] at he
    injection he with he
    injection he with he
    rw [he]
    exact .inr ⟨od, upd_same⟩
  · exact .inl (by rw [upd_ne k]; exact he)
theorem rd_same {H3 H4 : Hp} {p : Addr} {u : HO} (sm : Same H3 H4) (h : Rd H3 p u) : Rd H4 p u := h.imp (sm _ _ ·) (fun ⟨o, e⟩ => ⟨o, sm _ _ e⟩)
theorem same_unlock' {H H' : Hp} {d : Addr} {od : Obj} {u : HO} (hd : H d = some u) (s : Same (upd H d (.frz od u)) H') : Same H (upd H' d u) := fun b o e => by
  by_cases hb : b = d
  · subst hb
    rw [upd_same, ← hd]
    exact e
  · rw [upd_ne hb]
    exact s _ _ (by rw [upd_ne hb]; exact e)
theorem PowOk.at {ps qs : List (Nat × Nat)} (a : PowOk ps) (b : PowOk qs) {i : Nat} {x : Nat × Nat} (h : ps[i]? = some x) : ∃ e, qs[i]? = some (x.1, e) := by
  have k : (ps.map (·.1))[i]? = (qs.map (·.1))[i]? := by rw [a.ks, b.ks]
  rw [List.getElem?_map, List.getElem?_map, h] at k
  cases e : qs[i]? with
  | none => rw [e] at k; cases k
  | some y =>
    rw [e] at k
    injection k with k
    exact ⟨y.2, by rw [show x.1 = y.1 from k]⟩
theorem PowOk.val {ps : List (Nat × Nat)} (a : PowOk ps) {i : Nat} {x : Nat × Nat} (h : ps[i]? = some x) : valV (kvP ps) (Sum.inl (x.1 : Int)) = some (.int (x.2 : Int)) := valV_kvP a.nd x (List.mem_of_getElem? h)
theorem kvP_at {ps : List (Nat × Nat)} {i : Nat} {x : Nat × Nat} (h : ps[i]? = some x) : (kvP ps)[i]? = some (Sum.inl (x.1 : Int), V.int (x.2 : Int)) := by
  unfold kvP
  rw [List.getElem?_map, h]
  rfl
theorem kvP_nd {ps : List (Nat × Nat)} (h : PowOk ps) : ((kvP ps).map (·.1)).Nodup := by
  unfold kvP
  rw [List.map_map]
  have := h.nd
  unfold List.Nodup at this ⊢
  rw [List.pairwise_map] at this ⊢
  exact this.imp fun n e => n (by injection e with e; exact Int.ofNat.inj e)
/-- the greatest of each place -/
theorem joint_at : ∀ {r : List (List (Nat × Nat))} {ps : List (Nat × Nat)} {i : Nat} {x : Nat × Nat}, PowOk ps → (∀ q ∈ r, PowOk q) → ps[i]? = some x → ∃ m, (jointP ps r)[i]? = some (x.1, m) ∧ (∃ q ∈ ps :: r, q[i]? = some (x.1, m)) ∧ ∀ q ∈ ps :: r, ∀ e, q[i]? = some (x.1, e) → e ≤ m
  | [], ps, i, x, _, _, h => ⟨x.2, h, ⟨ps, List.mem_cons_self, h⟩, fun q hq e he => by
      rw [List.mem_singleton.mp hq, h] at he
      injection he with he
      rw [he]
      exact Nat.le_refl _⟩
  | q :: r, ps, i, x, a, b, h => by
    have hq := b q List.mem_cons_self
    obtain ⟨e0, he0⟩ := a.at hq h
    have h2 := both2_at (h := max) (a.ks.trans hq.ks.symm) h he0
    obtain ⟨m, m1, ⟨z, hz, hz2⟩, m3⟩ := joint_at (r := r) (a.both max20 hq) (fun y hy => b y (List.mem_cons_of_mem _ hy)) h2
    refine ⟨m, m1, ?_, fun y hy e he => ?_⟩
    · rcases List.mem_cons.mp hz with rfl | hz
      · rw [h2] at hz2
        injection hz2 with hz2
        have : max x.2 e0 = m := congrArg Prod.snd hz2
        rcases Nat.le_total x.2 e0 with k | k
        · rw [Nat.max_eq_right k] at this
          exact ⟨q, List.mem_cons_of_mem _ List.mem_cons_self, by rw [he0, this]⟩
        · rw [Nat.max_eq_left k] at this
          exact ⟨ps, List.mem_cons_self, by rw [h, ← this]⟩
      · exact ⟨z, List.mem_cons_of_mem _ (List.mem_cons_of_mem _ hz), hz2⟩
    · have top := m3 _ List.mem_cons_self _ h2
      rcases List.mem_cons.mp hy with rfl | hy
      · rw [h] at he
        injection he with he
        rw [he] at top
        exact Nat.le_trans (Nat.le_max_left _ _) top
      · rcases List.mem_cons.mp hy with rfl | hy
        · rw [he0] at he
          injection he with he
          have : e0 = e := congrArg Prod.snd he
          omega
        · exact m3 y (List.mem_cons_of_mem _ hy) e he
theorem joint_len : ∀ {r : List (List (Nat × Nat))} {ps : List (Nat × Nat)}, PowOk ps → (∀ q ∈ r, PowOk q) → (jointP ps r).length = ps.length
  | [], _, _, _ => rfl
  | q :: r, ps, a, b => by
    have hq := b q List.mem_cons_self
    have e := joint_len (r := r) (a.both max20 hq) (fun y hy => b y (List.mem_cons_of_mem _ hy))
    exact e.trans (both2_len (a.ks.trans hq.ks.symm))
theorem putK_newP {kvs : List (Key × V)} {k : Key} (v : V) (h : k ∉ kvs.map (·.1)) : putK kvs k v = kvs ++ [(k, v)] := by
  unfold putK
  have : kvs.any (fun kv => decide (kv.1 = k)) = false := by
    rw [List.any_eq_false]
    intro kv hkv
    rw [decide_eq_true_eq]
    intro e
    exact h (by rw [← e]; exact List.mem_map_of_mem hkv)
  rw [this, if_neg (by decide)]
theorem merge_newP : ∀ (more kvs : List (Key × V)), ((kvs ++ more).map (·.1)).Nodup → mergeK kvs more = kvs ++ more
  | [], kvs, _ => by rw [List.append_nil]; rfl
  | (k, v) :: r, kvs, h => by
    show mergeK (putK kvs k v) r = _
    have hk : k ∉ kvs.map (·.1) := fun hm => by
      rw [List.map_append, List.nodup_append] at h
      exact h.2.2 k hm k (by rw [List.map_cons]; exact List.mem_cons_self) rfl
    have e1 : kvs ++ (k, v) :: r = (kvs ++ [(k, v)]) ++ r := by rw [List.append_assoc]; rfl
    rw [putK_newP v hk, e1]
    exact merge_newP r _ (by rw [← e1]; exact h)
theorem can_rests : ∀ L : List AR, PyData.canLayAll0 (L.map fun x => PyData.tuple [.int x.2.1, .int (x.2.2 : Int)]) = true
  | [] => rfl
  | x :: r => by
    rw [List.map_cons, PyData.canLayAll0, can_rests r]
    rfl
theorem depth_rests : ∀ L : List AR, PyData.depthAll (L.map fun x => PyData.tuple [.int x.2.1, .int (x.2.2 : Int)]) ≤ 1
  | [] => by decide
  | x :: r => by
    have ih := depth_rests r
    rw [List.map_cons, PyData.depthAll]
    have : PyData.depth (.tuple [.int x.2.1, .int (x.2.2 : Int)]) = 1 := rfl
    omega
theorem shaped_rests (L : List AR) : SeqAt.shaped (.list (L.map fun x => PyData.tuple [.int x.2.1, .int (x.2.2 : Int)])) = true := by
  unfold SeqAt.shaped
  rw [PyData.canLay0, can_rests L, PyData.depth]
  have := depth_rests L
  generalize PyData.depthAll (L.map fun x => PyData.tuple [.int x.2.1, .int (x.2.2 : Int)]) = n at this
  rcases (show n = 0 ∨ n = 1 by omega) with rfl | rfl
  · rfl
  · rfl
theorem eqv_nil (L : List AR) : PyData.eqv (.list (L.map fun x => PyData.tuple [.int x.2.1, .int (x.2.2 : Int)])) (.list []) = decide (L = []) := by
  cases L with
  | nil => rfl
  | cons x r => rfl
theorem dp_rests {K : PySem.W.Frag} {H : Hp} : ∀ {L : List AR}, AllR H L → DpAll K H (vR L) (L.map fun x => PyData.tuple [.int x.2.1, .int (x.2.2 : Int)])
  | [], _ => .nil
  | x :: r, h => .cons (.tup (SqT.of (h x List.mem_cons_self).at') (dpi_all [_, _])) (dp_rests fun y hy => h y (List.mem_cons_of_mem _ hy))
/-! ### promises -/
def spShared : Sp := fun vs H Q _ => ∃ (d e : Addr) (ps qs : List (Nat × Nat)), vs = [.ref d, .ref e] ∧ H d = some (.dK (kvP ps)) ∧ H e = some (.dK (kvP qs)) ∧ PowOk ps ∧ PowOk qs ∧ ∀ H' c, Same H H' → H c = none → H' c = some (.dK (kvP (both2 min ps qs))) → Q (.ref c) H'
def spJoint : Sp := fun vs H Q _ => ∃ (a : Addr) (x : AP) (D : List AP), vs = [.ref a] ∧ H a = some (.lst (vP (x :: D))) ∧ AllP H (x :: D) ∧ D.length ≤ 100 ∧ ∀ H' c, Same H H' → H c = none → H' c = some (.dK (kvP (jointP x.2 (D.map (·.2))))) → Q (.ref c) H'
def spShuf : Sp := fun vs H Q _ => ∃ (S C a : Addr) (L : List AR), vs = [.ref S, .ref a] ∧ StOk H S C ∧ AllR H L ∧ H a = some (.lst (vR L)) ∧ a ≠ S ∧ a ≠ C ∧ L.length ≤ 100 ∧ ∀ H' p M, Mod S C H H' → StOk H' S C → H p = none → H' p = some (.lst (vR M)) → M.Perm L → Q (.ref p) H'
def spFold : Sp := fun vs H Q _ => ∃ (a : Addr) (L : List AR) (D : Nat), vs = [.ref a] ∧ H a = some (.lst (vR L)) ∧ AllR H L ∧ Below D (rR L) ∧ ∀ H' v, Same H H' → JoinV H' v (rR L) → Q v H'
def spHalves (n : Nat) : Sp := fun vs H Q _ => ∃ (a : Addr) (L : List AR) (D : Nat), vs = [.ref a] ∧ H a = some (.lst (vR L)) ∧ 0 < L.length ∧ L.length ≤ n + 1 ∧ L.length ≤ 100 ∧ AllR H L ∧ Below D (rR L) ∧ ∀ H' v, Same H H' → JoinV H' v (rR L) → Q v H'
def spAgrees : Sp := fun vs H Q _ => ∃ (t a : Addr) (L : List AR) (x : Int) (m : Nat), vs = [.ref t, .ref a, .int (m : Int)] ∧ RestAt H t x (m : Int) ∧ H a = some (.lst (vR L)) ∧ AllR H L ∧ Solves x (rR L) ∧ ∀ H', Same H H' → Q (.bl true) H'
def spToldR : Sp := fun vs H Q _ => ∃ (a : Addr) (L : List AR) (D : Nat) (b : Bool), vs = [.ref a, .int (lcmR (rR L) : Nat), .bl b] ∧ H a = some (.lst (vR L)) ∧ 0 < L.length ∧ L.length ≤ 6 ∧ AllR H L ∧ Below D (rR L) ∧ (b = true ↔ Agree (rR L)) ∧ ∀ H', Same H H' → Q (.bl true) H'
/-! ### two by two -/
theorem agree_swap {p q : Int × Nat} (h : AgreeR p q) : AgreeR q p := cond_swap.mpr h
theorem agree_self (p : Int × Nat) : AgreeR p p := agree_one p p List.mem_cons_self p List.mem_cons_self
theorem agree_two {p q : Int × Nat} : Agree [p, q] ↔ AgreeR p q := by
  constructor
  · exact fun h => h p List.mem_cons_self q (List.mem_cons_of_mem _ List.mem_cons_self)
  · intro h a ha b hb
    rcases List.mem_cons.mp ha with rfl | ha
    · rcases List.mem_cons.mp hb with rfl | hb
      · exact agree_self _
      · rw [List.mem_singleton.mp hb]
        exact h
    · rw [List.mem_singleton.mp ha]
      rcases List.mem_cons.mp hb with rfl | hb
      · exact agree_swap h
      · rw [List.mem_singleton.mp hb]
        exact agree_self _
theorem lcm_two (p q : Int × Nat) : lcmR [p, q] = Nat.lcm p.2 q.2 := by
  show Nat.lcm p.2 (Nat.lcm q.2 1) = _
  rw [Nat.lcm_one_right]
def AG (L : List AR) (i j : Nat) : Prop := ∀ y z, L[i]? = some y → L[j]? = some z → AgreeR y.2 z.2
theorem ag_all {L : List AR} : (∀ i, i < L.length → ∀ j, AG L i j) ↔ Agree (rR L) := by
  constructor
  · intro h p hp q hq
    obtain ⟨y, hy, rfl⟩ := List.mem_map.mp hp
    obtain ⟨z, hz, rfl⟩ := List.mem_map.mp hq
    obtain ⟨i, hi, rfl⟩ := List.mem_iff_getElem.mp hy
    obtain ⟨j, hj, rfl⟩ := List.mem_iff_getElem.mp hz
    exact h i hi j _ _ (List.getElem?_eq_getElem hi) (List.getElem?_eq_getElem hj)
  · intro h i _ j y z hy hz
    exact h _ (List.mem_map_of_mem (f := (·.2)) (List.mem_of_getElem? hy)) _ (List.mem_map_of_mem (f := (·.2)) (List.mem_of_getElem? hz))
/-- the rests of the numbers N by the products of D -/
structure LinkOk (L : List AR) (D : List AP) (N : List Int) : Prop where
  l1 : L.length = D.length
  l2 : N.length = D.length
  at' : ∀ (i : Nat) (y : AR) (d : AP) (z : Int), L[i]? = some y → D[i]? = some d → N[i]? = some z → y.2 = (z % (prodP d.2 : Nat), prodP d.2)
theorem link_ag {z1 z2 : Int} {P Q : Nat} : AgreeR (z1 % (P : Int), P) (z2 % (Q : Int), Q) ↔ (z2 - z1) % (Nat.gcd P Q : Nat) = 0 := by
  unfold AgreeR
  show (z2 % (Q : Int) - z1 % (P : Int)) % (Int.gcd (P : Int) (Q : Int) : Int) = 0 ↔ _
  rw [cond_sec]
  rfl
theorem LinkOk.mul {L : List AR} {D : List AP} {N : List Int} (h : LinkOk L D N) {y : AR} (hy : y ∈ L) : ∃ d ∈ D, y.2.2 = prodP d.2 := by
  obtain ⟨i, hi, rfl⟩ := List.mem_iff_getElem.mp hy
  have hi2 : i < D.length := by have := h.l1; omega
  have hi3 : i < N.length := by have := h.l2; omega
  exact ⟨_, List.getElem_mem hi2, by rw [h.at' i _ _ _ (List.getElem?_eq_getElem hi) (List.getElem?_eq_getElem hi2) (List.getElem?_eq_getElem hi3)]⟩
def spPairs : Sp := fun vs H Q _ => ∃ (a p n : Addr) (L : List AR) (D : List AP) (N : List Int), vs = [.ref a, .ref p, .ref n] ∧ H a = some (.lst (vR L)) ∧ H p = some (.lst (vP D)) ∧ H n = some (.lst (N.map V.int)) ∧ AllR H L ∧ AllP H D ∧ LinkOk L D N ∧ L.length ≤ 6 ∧
  ∀ H' b, Same H H' → (b = true ↔ Agree (rR L)) → Q (.bl b) H'
end GL
namespace GL
open PySem PySem.Spec PyProof.Rows L2
theorem map_ext {α β γ : Type} {f : α → γ} {g : β → γ} {xs : List α} {ys : List β} (h : xs.length = ys.length) (k : ∀ (i : Nat) (x : α) (y : β), xs[i]? = some x → ys[i]? = some y → f x = g y) : xs.map f = ys.map g := by
  refine List.ext_getElem? fun i => ?_
  rw [List.getElem?_map, List.getElem?_map]
  by_cases hi : i < xs.length
  · have hj : i < ys.length := by omega
    rw [List.getElem?_eq_getElem hi, List.getElem?_eq_getElem hj]
    exact congrArg some (k i _ _ (List.getElem?_eq_getElem hi) (List.getElem?_eq_getElem hj))
  · rw [List.getElem?_eq_none (by omega), List.getElem?_eq_none (by omega)]
    rfl
theorem LinkOk.size {L : List AR} {d : AP} {r : List AP} {N : List Int} (h : LinkOk L (d :: r) N) (ok : ∀ x ∈ d :: r, PowOk x.2) : lcmR (rR L) = prodP (jointP d.2 (r.map (·.2))) := by
  have e : (rR L).map (·.2) = (d :: r).map fun x => prodP x.2 := by
    unfold rR
    rw [List.map_map]
    refine map_ext h.l1 fun i y x hy hx => ?_
    have hi : i < N.length := by have := (List.getElem?_eq_some_iff.mp hx).1; have := h.l2; omega
    show y.2.2 = prodP x.2
    rw [h.at' i y x _ hy hx (List.getElem?_eq_getElem hi)]
  rw [prod_joint (ok d List.mem_cons_self) (fun q hq => by
    obtain ⟨x, hx, rfl⟩ := List.mem_map.mp hq
    exact ok x (List.mem_cons_of_mem _ hx))]
  unfold lcmR
  rw [e, List.map_cons, List.map_map]
  rfl
theorem rR_perm {M L : List AR} (h : M.Perm L) : (rR M).Perm (rR L) := h.map _
theorem lcmR_perm {M L : List AR} (h : M.Perm L) : lcmR (rR M) = lcmR (rR L) := lcmL_perm ((rR_perm h).map _)
theorem agree_perm {M L : List AR} (h : M.Perm L) : Agree (rR M) ↔ Agree (rR L) :=
  ⟨fun a p hp q hq => a p ((rR_perm h).mem_iff.mpr hp) q ((rR_perm h).mem_iff.mpr hq), fun a p hp q hq => a p ((rR_perm h).mem_iff.mp hp) q ((rR_perm h).mem_iff.mp hq)⟩
theorem allR_perm {H : Hp} {M L : List AR} (h : M.Perm L) (a : AllR H L) : AllR H M := fun x hx => a x (h.mem_iff.mp hx)
theorem below_perm {Z : Nat} {M L : List AR} (h : M.Perm L) (a : Below Z (rR L)) : Below Z (rR M) := ⟨a.1, a.2.1, fun p hp => a.2.2 p ((rR_perm h).mem_iff.mp hp)⟩
theorem solves_same {x y : Int} {rs : List (Int × Nat)} (hx : Solves x rs) (hy : Solves y rs) : y % (lcmR rs : Nat) = x % (lcmR rs : Nat) := by
  refine Int.emod_eq_emod_iff_emod_sub_eq_zero.mpr (emod_iff.mpr ?_)
  refine Int.ofNat_dvd_left.mpr (lcmL_least fun m hm => ?_)
  obtain ⟨p, hp, rfl⟩ := List.mem_map.mp hm
  refine Int.ofNat_dvd_left.mp ?_
  have e : y % (p.2 : Int) = x % (p.2 : Int) := (hy p hp).trans (hx p hp).symm
  exact emod_iff.mp (Int.emod_eq_emod_iff_emod_sub_eq_zero.mp e)
/-- what stands at a turn -/
structure W3 (S C p n l : Addr) (D : List AP) (H : Hp) (L : List AR) (N : List Int) : Prop where
  st : StOk H S C
  hp : H p = some (.lst (vP D))
  hn : H n = some (.lst (N.map V.int))
  hl : H l = some (.lst (vR L))
  aD : AllP H D
  aL : AllR H L
  lk : LinkOk L D N
  off : p ≠ S ∧ p ≠ C ∧ n ≠ S ∧ n ≠ C ∧ l ≠ S ∧ l ≠ C ∧ p ≠ n ∧ p ≠ l ∧ n ≠ l
theorem W3.mod {S C p n l : Addr} {D : List AP} {H H' : Hp} {L : List AR} {N : List Int} (h : W3 S C p n l D H L N) (m : Mod S C H H') (st : StOk H' S C) : W3 S C p n l D H' L N :=
  let ⟨a, b, c, d, e, f, _, _, _⟩ := h.off
  ⟨st, m _ _ h.hp a b, m _ _ h.hn c d, m _ _ h.hl e f, h.aD.mod m h.st, h.aL.mod m h.st, h.lk, h.off⟩
theorem W3.same {S C p n l : Addr} {D : List AP} {H H' : Hp} {L : List AR} {N : List Int} (h : W3 S C p n l D H L N) (s : Same H H') : W3 S C p n l D H' L N := h.mod (Mod.of s) (h.st.same s)
theorem W3.put {S C p n l t : Addr} {D : List AP} {H H' : Hp} {L : List AR} {N : List Int} {j : Nat} {d : AP} {z : Int} (h : W3 S C p n l D H L N) (hd : D[j]? = some d)
    (nt : (upd H n (.lst ((N.set j z).map V.int))) t = none) (e : H' = upd (upd (upd H n (.lst ((N.set j z).map V.int))) t (.tup [.int (z % (prodP d.2 : Nat)), .int (prodP d.2 : Nat)])) l (.lst (vR (L.set j (t, (z % (prodP d.2 : Nat), prodP d.2)))))) :
    W3 S C p n l D H' (L.set j (t, (z % (prodP d.2 : Nat), prodP d.2))) (N.set j z) := by
  obtain ⟨pS, pC, nS, nC, lS, lC, pn, pl, nl⟩ := h.off
  have tn : t ≠ n := fun k => by rw [k, upd_same] at nt; cases nt
  have nt0 : H t = none := by rw [upd_ne tn] at nt; exact nt
  have keep : ∀ (b : Addr) (o : HO), H b = some o → b ≠ n → b ≠ l → H' b = some o := fun b o hb h1 h2 => by
    rw [e, upd_ne h2, upd_ne (ne_of_none hb nt0), upd_ne h1]
    exact hb
  have lt : t ≠ l := fun k => by rw [k, h.hl] at nt0; cases nt0
  have hpos : 0 < prodP d.2 := (h.aD d (List.mem_of_getElem? hd)).2.pos
  have big : prodP d.2 < 2 ^ 4000 := (h.aD d (List.mem_of_getElem? hd)).2.lt
  refine ⟨?_, keep _ _ h.hp pn pl, ?_, by rw [e, upd_same], fun x hx => ?_, fun x hx => ?_, ⟨?_, ?_, fun i y d' z' hy hd' hz' => ?_⟩, h.off⟩
  · rw [e]
    exact ((h.st.upd nS nC).upd (h.st.neS nt0) (h.st.neC nt0)).upd lS lC
  · rw [e, upd_ne nl, upd_ne tn.symm, upd_same]
  · have k := h.aD x hx
    exact ⟨keep _ _ k.1 (ne_of k.1 h.hn (fun z => nomatch z)) (ne_of k.1 h.hl (fun z => nomatch z)), k.2⟩
  · rcases List.mem_or_eq_of_mem_set hx with hx | rfl
    · have k := h.aL x hx
      exact ⟨keep _ _ k.at' (ne_of k.at' h.hn (fun z => nomatch z)) (ne_of k.at' h.hl (fun z => nomatch z)), k.r0, k.rm, k.big⟩
    · exact ⟨by rw [e, upd_ne lt, upd_same], Int.emod_nonneg _ (by omega), Int.emod_lt_of_pos _ (by omega), by rw [Int.natAbs_natCast]; exact big⟩
  · rw [List.length_set]
    exact h.lk.l1
  · rw [List.length_set]
    exact h.lk.l2
  · rw [List.getElem?_set] at hy hz'
    by_cases hij : j = i
    · subst hij
      rw [if_pos rfl] at hy hz'
      have jl : j < L.length := by have := (List.getElem?_eq_some_iff.mp hd).1; have := h.lk.l1; omega
      have jn : j < N.length := by have := (List.getElem?_eq_some_iff.mp hd).1; have := h.lk.l2; omega
      rw [if_pos jl] at hy
      rw [if_pos jn] at hz'
      injection hy with hy
      injection hz' with hz'
      rw [hd] at hd'
      injection hd' with hd'
      rw [← hy, ← hz', ← hd']
    · rw [if_neg hij] at hy hz'
      exact h.lk.at' i y d' z' hy hd' hz'
end GL
namespace K03
open PySem PySem.Spec PyProof.Rows L2
def topS (i : Nat) : Stmt := PySem.Challenge.pw_goersay_k03_whole_rests_two_by_two_and_a.main.body.getD i (.Pass ⟨0, 0, 0, 0⟩)
abbrev s_is_number : Stmt := topS 6
abbrev N_is_number : List Str := ["thing"]
abbrev P_is_number : List Str := ["thing"]
theorem sc_is_number : FnScope N_is_number P_is_number (defScope s_is_number) := ⟨rfl, rfl, rfl, by decide +kernel, rfl, by decide +kernel, by decide +kernel⟩
abbrev s_is_rest : Stmt := topS 7
abbrev N_is_rest : List Str := ["thing", "r", "m"]
abbrev P_is_rest : List Str := ["thing"]
theorem sc_is_rest : FnScope N_is_rest P_is_rest (defScope s_is_rest) := ⟨rfl, rfl, rfl, by decide +kernel, rfl, by decide +kernel, by decide +kernel⟩
abbrev s_has : Stmt := topS 8
abbrev N_has : List Str := ["rest", "number", "r", "m"]
abbrev P_has : List Str := ["rest", "number"]
theorem sc_has : FnScope N_has P_has (defScope s_has) := ⟨rfl, rfl, rfl, by decide +kernel, rfl, by decide +kernel, by decide +kernel⟩
abbrev s_both : Stmt := topS 9
abbrev N_both : List Str := ["one", "other", "r", "m", "s", "n", "shared", "period", "steps"]
abbrev P_both : List Str := ["one", "other"]
theorem sc_both : FnScope N_both P_both (defScope s_both) := ⟨rfl, rfl, rfl, by decide +kernel, rfl, by decide +kernel, by decide +kernel⟩
abbrev s_least : Stmt := topS 10
abbrev N_least : List Str := ["rest"]
abbrev P_least : List Str := ["rest"]
theorem sc_least : FnScope N_least P_least (defScope s_least) := ⟨rfl, rfl, rfl, by decide +kernel, rfl, by decide +kernel, by decide +kernel⟩
abbrev s_check_rest : Stmt := topS 12
abbrev N_check_rest : List Str := ["thing"]
abbrev P_check_rest : List Str := ["thing"]
theorem sc_check_rest : FnScope N_check_rest P_check_rest (defScope s_check_rest) := ⟨rfl, rfl, rfl, by decide +kernel, rfl, by decide +kernel, by decide +kernel⟩
abbrev s_check_number : Stmt := topS 11
abbrev N_check_number : List Str := ["thing"]
abbrev P_check_number : List Str := ["thing"]
theorem sc_check_number : FnScope N_check_number P_check_number (defScope s_check_number) := ⟨rfl, rfl, rfl, by decide +kernel, rfl, by decide +kernel, by decide +kernel⟩
abbrev s_inverse : Stmt := topS 13
abbrev N_inverse : List Str := ["number", "m", "high", "low", "turns", "others", "quotient"]
abbrev P_inverse : List Str := ["number", "m"]
theorem sc_inverse : FnScope N_inverse P_inverse (defScope s_inverse) := ⟨rfl, rfl, rfl, by decide +kernel, rfl, by decide +kernel, by decide +kernel⟩
abbrev s_l_state : Stmt := topS 15
abbrev N_l_state : List Str := ["_law_script", "_law_cell"]
abbrev P_l_state : List Str := ["_law_script"]
theorem sc_l_state : FnScope N_l_state P_l_state (defScope s_l_state) := ⟨rfl, rfl, rfl, by decide +kernel, rfl, by decide +kernel, by decide +kernel⟩
abbrev s_l_draw : Stmt := topS 16
abbrev N_l_draw : List Str := ["_law_state_here", "_law_many", "_law_cells", "_law_at", "_law_cell"]
abbrev P_l_draw : List Str := ["_law_state_here", "_law_many"]
theorem sc_l_draw : FnScope N_l_draw P_l_draw (defScope s_l_draw) := ⟨rfl, rfl, rfl, by decide +kernel, rfl, by decide +kernel, by decide +kernel⟩
abbrev s_l_great : Stmt := topS 17
abbrev N_l_great : List Str := ["_law_state_here", "_law_figures", "_law_found", "_law_turn"]
abbrev P_l_great : List Str := ["_law_state_here", "_law_figures"]
theorem sc_l_great : FnScope N_l_great P_l_great (defScope s_l_great) := ⟨rfl, rfl, rfl, by decide +kernel, rfl, by decide +kernel, by decide +kernel⟩
abbrev s_l_powers : Stmt := topS 18
abbrev N_l_powers : List Str := ["_law_state_here", "_law_found", "_law_prime", "_law_most", "_law_way"]
abbrev P_l_powers : List Str := ["_law_state_here"]
theorem sc_l_powers : FnScope N_l_powers P_l_powers (defScope s_l_powers) := ⟨rfl, rfl, rfl, by decide +kernel, rfl, by decide +kernel, by decide +kernel⟩
abbrev s_l_product : Stmt := topS 19
abbrev N_l_product : List Str := ["_law_powers_here", "_law_found", "_law_prime", "_law_turn"]
abbrev P_l_product : List Str := ["_law_powers_here"]
theorem sc_l_product : FnScope N_l_product P_l_product (defScope s_l_product) := ⟨rfl, rfl, rfl, by decide +kernel, rfl, by decide +kernel, by decide +kernel⟩
abbrev s_l_shared : Stmt := topS 20
abbrev N_l_shared : List Str := ["_law_one", "_law_other", "_law_prime"]
abbrev P_l_shared : List Str := ["_law_one", "_law_other"]
theorem sc_l_shared : FnScope N_l_shared P_l_shared (defScope s_l_shared) := ⟨rfl, rfl, rfl, by decide +kernel, rfl, by decide +kernel, by decide +kernel⟩
abbrev s_l_joint : Stmt := topS 21
abbrev N_l_joint : List Str := ["_law_some", "_law_prime", "_law_one"]
abbrev P_l_joint : List Str := ["_law_some"]
theorem sc_l_joint : FnScope N_l_joint P_l_joint (defScope s_l_joint) := ⟨rfl, rfl, rfl, by decide +kernel, rfl, by decide +kernel, by decide +kernel⟩
abbrev s_l_shuffled : Stmt := topS 22
abbrev N_l_shuffled : List Str := ["_law_state_here", "_law_some", "_law_left", "_law_found"]
abbrev P_l_shuffled : List Str := ["_law_state_here", "_law_some"]
theorem sc_l_shuffled : FnScope N_l_shuffled P_l_shuffled (defScope s_l_shuffled) := ⟨rfl, rfl, rfl, by decide +kernel, rfl, by decide +kernel, by decide +kernel⟩
abbrev s_l_folded : Stmt := topS 23
abbrev N_l_folded : List Str := ["_law_some", "_law_found", "_law_one"]
abbrev P_l_folded : List Str := ["_law_some"]
theorem sc_l_folded : FnScope N_l_folded P_l_folded (defScope s_l_folded) := ⟨rfl, rfl, rfl, by decide +kernel, rfl, by decide +kernel, by decide +kernel⟩
abbrev s_l_by_halves : Stmt := topS 24
abbrev N_l_by_halves : List Str := ["_law_some", "_law_at", "_law_one", "_law_other"]
abbrev P_l_by_halves : List Str := ["_law_some"]
theorem sc_l_by_halves : FnScope N_l_by_halves P_l_by_halves (defScope s_l_by_halves) := ⟨rfl, rfl, rfl, by decide +kernel, rfl, by decide +kernel, by decide +kernel⟩
abbrev s_l_agrees : Stmt := topS 25
abbrev N_l_agrees : List Str := ["_law_told", "_law_some", "_law_size", "_law_left", "_law_wide", "_law_one"]
abbrev P_l_agrees : List Str := ["_law_told", "_law_some", "_law_size"]
theorem sc_l_agrees : FnScope N_l_agrees P_l_agrees (defScope s_l_agrees) := ⟨rfl, rfl, rfl, by decide +kernel, rfl, by decide +kernel, by decide +kernel⟩
abbrev s_l_told_right : Stmt := topS 26
abbrev N_l_told_right : List Str := ["_law_some", "_law_size", "_law_meet", "_law_told"]
abbrev P_l_told_right : List Str := ["_law_some", "_law_size", "_law_meet"]
theorem sc_l_told_right : FnScope N_l_told_right P_l_told_right (defScope s_l_told_right) := ⟨rfl, rfl, rfl, by decide +kernel, rfl, by decide +kernel, by decide +kernel⟩
abbrev s_l_pairs : Stmt := topS 27
abbrev N_l_pairs : List Str := ["_law_some", "_law_powers_here", "_law_numbers", "_law_all_do", "_law_at", "_law_one", "_law_to", "_law_other", "_law_part", "_law_size", "_law_meet", "_law_told"]
abbrev P_l_pairs : List Str := ["_law_some", "_law_powers_here", "_law_numbers"]
theorem sc_l_pairs : FnScope N_l_pairs P_l_pairs (defScope s_l_pairs) := ⟨rfl, rfl, rfl, by decide +kernel, rfl, by decide +kernel, by decide +kernel⟩
abbrev s_law : Stmt := topS 28
abbrev N_law : List Str := ["_law_script", "_law_state_here", "_law_secret", "_law_powers_here", "_law_numbers", "_law_size", "_law_some", "_law_turn", "_law_at", "_law_meet", "_law_one"]
abbrev P_law : List Str := ["_law_script"]
theorem sc_law : FnScope N_law P_law (defScope s_law) := ⟨rfl, rfl, rfl, by decide +kernel, rfl, by decide +kernel, by decide +kernel⟩
/-- what the top has written -/
structure Tx (K : PySem.W.Frag) (mg : Str → Option Value) where
  a_is_number : Addr
  fd_is_number : FuncData
  F_is_number : Fun K "is_number" "is_number" s_is_number a_is_number fd_is_number
  b_is_number : Binds K fd_is_number P_is_number []
  g_is_number : mg "is_number" = some (.ref a_is_number)
  a_is_rest : Addr
  fd_is_rest : FuncData
  F_is_rest : Fun K "is_rest" "is_rest" s_is_rest a_is_rest fd_is_rest
  b_is_rest : Binds K fd_is_rest P_is_rest []
  g_is_rest : mg "is_rest" = some (.ref a_is_rest)
  a_has : Addr
  fd_has : FuncData
  F_has : Fun K "has" "has" s_has a_has fd_has
  b_has : Binds K fd_has P_has []
  g_has : mg "has" = some (.ref a_has)
  a_both : Addr
  fd_both : FuncData
  F_both : Fun K "both" "both" s_both a_both fd_both
  b_both : Binds K fd_both P_both []
  g_both : mg "both" = some (.ref a_both)
  a_least : Addr
  fd_least : FuncData
  F_least : Fun K "least" "least" s_least a_least fd_least
  b_least : Binds K fd_least P_least []
  g_least : mg "least" = some (.ref a_least)
  a_check_rest : Addr
  fd_check_rest : FuncData
  F_check_rest : Fun K "_check_rest" "_check_rest" s_check_rest a_check_rest fd_check_rest
  b_check_rest : Binds K fd_check_rest P_check_rest []
  g_check_rest : mg "_check_rest" = some (.ref a_check_rest)
  a_check_number : Addr
  fd_check_number : FuncData
  F_check_number : Fun K "check_number" "check_number" s_check_number a_check_number fd_check_number
  b_check_number : Binds K fd_check_number P_check_number []
  g_check_number : mg "check_number" = some (.ref a_check_number)
  a_inverse : Addr
  fd_inverse : FuncData
  F_inverse : Fun K "_inverse" "_inverse" s_inverse a_inverse fd_inverse
  b_inverse : Binds K fd_inverse P_inverse []
  g_inverse : mg "_inverse" = some (.ref a_inverse)
  a_l_state : Addr
  fd_l_state : FuncData
  F_l_state : Fun K "_law_state" "_law_state" s_l_state a_l_state fd_l_state
  b_l_state : Binds K fd_l_state P_l_state []
  g_l_state : mg "_law_state" = some (.ref a_l_state)
  a_l_draw : Addr
  fd_l_draw : FuncData
  F_l_draw : Fun K "_law_draw" "_law_draw" s_l_draw a_l_draw fd_l_draw
  b_l_draw : Binds K fd_l_draw P_l_draw []
  g_l_draw : mg "_law_draw" = some (.ref a_l_draw)
  a_l_great : Addr
  fd_l_great : FuncData
  F_l_great : Fun K "_law_great" "_law_great" s_l_great a_l_great fd_l_great
  b_l_great : Binds K fd_l_great P_l_great []
  g_l_great : mg "_law_great" = some (.ref a_l_great)
  a_l_powers : Addr
  fd_l_powers : FuncData
  F_l_powers : Fun K "_law_powers" "_law_powers" s_l_powers a_l_powers fd_l_powers
  b_l_powers : Binds K fd_l_powers P_l_powers []
  g_l_powers : mg "_law_powers" = some (.ref a_l_powers)
  a_l_product : Addr
  fd_l_product : FuncData
  F_l_product : Fun K "_law_product" "_law_product" s_l_product a_l_product fd_l_product
  b_l_product : Binds K fd_l_product P_l_product []
  g_l_product : mg "_law_product" = some (.ref a_l_product)
  a_l_shared : Addr
  fd_l_shared : FuncData
  F_l_shared : Fun K "_law_shared" "_law_shared" s_l_shared a_l_shared fd_l_shared
  b_l_shared : Binds K fd_l_shared P_l_shared []
  g_l_shared : mg "_law_shared" = some (.ref a_l_shared)
  a_l_joint : Addr
  fd_l_joint : FuncData
  F_l_joint : Fun K "_law_joint" "_law_joint" s_l_joint a_l_joint fd_l_joint
  b_l_joint : Binds K fd_l_joint P_l_joint []
  g_l_joint : mg "_law_joint" = some (.ref a_l_joint)
  a_l_shuffled : Addr
  fd_l_shuffled : FuncData
  F_l_shuffled : Fun K "_law_shuffled" "_law_shuffled" s_l_shuffled a_l_shuffled fd_l_shuffled
  b_l_shuffled : Binds K fd_l_shuffled P_l_shuffled []
  g_l_shuffled : mg "_law_shuffled" = some (.ref a_l_shuffled)
  a_l_folded : Addr
  fd_l_folded : FuncData
  F_l_folded : Fun K "_law_folded" "_law_folded" s_l_folded a_l_folded fd_l_folded
  b_l_folded : Binds K fd_l_folded P_l_folded []
  g_l_folded : mg "_law_folded" = some (.ref a_l_folded)
  a_l_by_halves : Addr
  fd_l_by_halves : FuncData
  F_l_by_halves : Fun K "_law_by_halves" "_law_by_halves" s_l_by_halves a_l_by_halves fd_l_by_halves
  b_l_by_halves : Binds K fd_l_by_halves P_l_by_halves []
  g_l_by_halves : mg "_law_by_halves" = some (.ref a_l_by_halves)
  a_l_agrees : Addr
  fd_l_agrees : FuncData
  F_l_agrees : Fun K "_law_agrees" "_law_agrees" s_l_agrees a_l_agrees fd_l_agrees
  b_l_agrees : Binds K fd_l_agrees P_l_agrees []
  g_l_agrees : mg "_law_agrees" = some (.ref a_l_agrees)
  a_l_told_right : Addr
  fd_l_told_right : FuncData
  F_l_told_right : Fun K "_law_told_right" "_law_told_right" s_l_told_right a_l_told_right fd_l_told_right
  b_l_told_right : Binds K fd_l_told_right P_l_told_right []
  g_l_told_right : mg "_law_told_right" = some (.ref a_l_told_right)
  a_l_pairs : Addr
  fd_l_pairs : FuncData
  F_l_pairs : Fun K "_law_pairs" "_law_pairs" s_l_pairs a_l_pairs fd_l_pairs
  b_l_pairs : Binds K fd_l_pairs P_l_pairs []
  g_l_pairs : mg "_law_pairs" = some (.ref a_l_pairs)
  a_law : Addr
  fd_law : FuncData
  F_law : Fun K "law" "law" s_law a_law fd_law
  b_law : Binds K fd_law P_law []
  g_law : mg "law" = some (.ref a_law)
  m_abs : mg "abs" = none
  m_bool : mg "bool" = none
  m_dict : mg "dict" = none
  m_enumerate : mg "enumerate" = none
  m_int : mg "int" = none
  m_isinstance : mg "isinstance" = none
  m_len : mg "len" = none
  m_list : mg "list" = none
  m_max : mg "max" = none
  m_min : mg "min" = none
  m_range : mg "range" = none
  m_tuple : mg "tuple" = none
  i_gcd : mg "gcd" = some (.builtin "math.gcd")
end K03
namespace K03
open PySem PySem.Spec PyProof.Rows L2 GL
section
variable {P : Program} {w : World} {K : PySem.W.Frag} {mg : Str → Option Value} {base : Heap}
theorem ok_is_number (T : Tx K mg) : FnOk P w K mg base CX0 1 T.a_is_number T.fd_is_number P_is_number spIsInt := by
  refine T.F_is_number.ok sc_is_number (fun vs H Q E h => ?_) (fun cdv A outer s H vs Q E hr h => ?_)
  · obtain ⟨z, rfl, _⟩ := h
    rfl
  · obtain ⟨z, rfl, q⟩ := h
    refine ⟨_, (pss_one (ps_ret (pe_and (pe_callB call_isi (by rfl) T.m_isinstance (by decide +kernel) (pa_cons (pv 0) (pa_cons (pe_bltn (v := .ty "int") (by rfl) T.m_int (by decide +kernel) rfl) pa_nil))) (pe_one (pe_not (pe_callB call_isi (by rfl) T.m_isinstance (by decide +kernel) (pa_cons (pv 0) (pa_cons (pe_bltn (v := .ty "bool") (by rfl) T.m_bool (by decide +kernel) rfl) pa_nil)))))))), ?_⟩
    refine ⟨_, rfl, _, _, _, _, true, rfl, .ty _, .base (.int z), kit_ty (by decide +kernel), true, rfl, ?_⟩
    exact ⟨_, rfl, _, _, _, _, false, rfl, .ty _, .base (.int z), kit_ty (by decide +kernel), false, rfl, q⟩
theorem ok_is_rest (T : Tx K mg) : FnOk P w K mg base CX0 2 T.a_is_rest T.fd_is_rest P_is_rest spIsRest := by
  refine T.F_is_rest.ok sc_is_rest (fun vs H Q E h => ?_) (fun cdv A outer s H vs Q E hr h => ?_)
  · obtain ⟨t, r, m, rfl, _⟩ := h
    rfl
  · obtain ⟨t, r, m, rfl, R, q⟩ := h
    refine ⟨_, (pss_cons (ps_if (PW.pt (pw_or (pt_not (pt_val (pe_callB call_isi (by rfl) T.m_isinstance (by decide +kernel) (pa_cons (pv 0) (pa_cons (pe_bltn (v := .ty "tuple") (by rfl) T.m_tuple (by decide +kernel) rfl) pa_nil))))) (pw_or1 (pt_cmpR op_ne (pe_callB call_len_seq (by rfl) T.m_len (by decide +kernel) (pa_cons (pv 0) pa_nil)) pe_int (nomark _)))))
       (pss_one (ps_ret pe_bl))
       pss_nil)
      (pss_cons (ps_asg (pv 0) (pg_tup (by rfl) (pgs_cons (pg_name (i := 1) sc_is_rest.nd rfl (.inl rfl)) (pgs_cons (pg_name (i := 2) sc_is_rest.nd rfl (.inl rfl)) pgs_nil))))
      (pss_one (ps_ret (pe_and (pe_call (ok_is_number T) (hr.mono (by decide)) (by rfl) T.g_is_number T.F_is_number.kp T.b_is_number .nil pass0 (pa_cons (pv 1) pa_nil)) (pe_and (pe_call (ok_is_number T) (hr.mono (by decide)) (by rfl) T.g_is_number T.F_is_number.kp T.b_is_number .nil pass0 (pa_cons (pv 2) pa_nil)) (pe_one (pe_chain op_le op_lt pe_int (pv 1) (pv 2))))))))), ?_⟩
    refine ⟨_, rfl, _, _, _, _, true, rfl, .ty _, .base (.tup R.at'), kit_ty (by decide +kernel), true, rfl, ?_⟩
    refine ⟨_, rfl, t, _, rfl, .inr (SqT.of R.at'), rfl, _, rfl, ?_⟩
    refine ⟨_, rfl, t, _, rfl, SqT.of R.at', rfl, _, _, rfl, _, _, rfl, rfl, ?_⟩
    refine ⟨_, rfl, r, rfl, true, rfl, ?_⟩
    refine ⟨_, rfl, m, rfl, true, rfl, ?_⟩
    refine ⟨_, rfl, _, _, rfl, rfl, _, rfl, ?_⟩
    rw [decide_eq_true R.r0]
    refine ⟨_, rfl, _, _, rfl, rfl, ?_⟩
    show Q (.bl (decide (r < m))) H
    rw [decide_eq_true R.rm]
    exact q
theorem ok_check_rest (T : Tx K mg) : FnOk P w K mg base CX0 3 T.a_check_rest T.fd_check_rest P_check_rest spChRest := by
  refine T.F_check_rest.ok sc_check_rest (fun vs H Q E h => ?_) (fun cdv A outer s H vs Q E hr h => ?_)
  · obtain ⟨t, r, m, rfl, _⟩ := h
    rfl
  · obtain ⟨t, r, m, rfl, R, q⟩ := h
    refine ⟨_, (pss_one (ps_if (pt_not (pt_val (pe_call (ok_is_rest T) (hr.mono (by decide)) (by rfl) T.g_is_rest T.F_is_rest.kp T.b_is_rest .nil pass0 (pa_cons (pv 0) pa_nil))))
       (pss_one ps_never)
       pss_nil)), ?_⟩
    exact ⟨_, rfl, t, r, m, rfl, R, true, rfl, q⟩
theorem ok_check_number (T : Tx K mg) : FnOk P w K mg base CX0 2 T.a_check_number T.fd_check_number P_check_number spChNum := by
  refine T.F_check_number.ok sc_check_number (fun vs H Q E h => ?_) (fun cdv A outer s H vs Q E hr h => ?_)
  · obtain ⟨z, rfl, _⟩ := h
    rfl
  · obtain ⟨z, rfl, q⟩ := h
    refine ⟨_, (pss_one (ps_if (pt_not (pt_val (pe_call (ok_is_number T) (hr.mono (by decide)) (by rfl) T.g_is_number T.F_is_number.kp T.b_is_number .nil pass0 (pa_cons (pv 0) pa_nil))))
       (pss_one ps_never)
       pss_nil)), ?_⟩
    exact ⟨_, rfl, z, rfl, true, rfl, q⟩
def WInv (a p : Int) (m : Nat) (σ : L2.St) : Prop := ∃ (h l t o : Int) (u : Option V), m = l.toNat ∧ σ = [some (.int a), some (.int p), some (.int h), some (.int l), some (.int t), some (.int o), u] ∧ InvW a p h l t o ∧ h.natAbs < 2 ^ 4000 ∧ l.natAbs < 2 ^ 4000
theorem ok_inverse (T : Tx K mg) : FnOk P w K mg base CX0 1 T.a_inverse T.fd_inverse P_inverse spInv := by
  refine T.F_inverse.ok sc_inverse (fun vs H Q E h => ?_) (fun cdv A outer s H vs Q E hr h => ?_)
  · obtain ⟨a, p, rfl, _⟩ := h
    rfl
  · obtain ⟨a, p, rfl, ha, hp, ba, bp, hc, q⟩ := h
    refine ⟨_, (pss_cons (ps_par (i := 2) (j := 3) (by rfl) sc_inverse.nd rfl rfl (by decide) rfl rfl (pa_cons (pv 0) (pa_cons (pv 1) pa_nil)) (by rfl))
      (pss_cons (ps_asg (pe_tup (pa_cons pe_int (pa_cons pe_int pa_nil))) (pg_tup (by rfl) (pgs_cons (pg_name (i := 4) sc_inverse.nd rfl (.inl rfl)) (pgs_cons (pg_name (i := 5) sc_inverse.nd rfl (.inl rfl)) pgs_nil))))
      (pss_cons (ps_while PassesOwn.never (pt_cmpR op_ne (pv 3) pe_int (nomark _))
       (pss_cons (ps_set (i := 6) sc_inverse.nd rfl (.inl rfl) (pe_op op_fdivW (pv 2) (pv 3)))
        (pss_cons (ps_par (i := 2) (j := 3) (by rfl) sc_inverse.nd rfl rfl (by decide) rfl rfl (pa_cons (pv 3) (pa_cons (pe_op op_sub (pv 2) (pe_op op_mulW (pv 6) (pv 3))) pa_nil)) (by rfl))
        (pss_one (ps_par (i := 4) (j := 5) (by rfl) sc_inverse.nd rfl rfl (by decide) rfl rfl (pa_cons (pv 5) (pa_cons (pe_op op_sub (pv 4) (pe_op op_mulW (pv 6) (pv 5))) pa_nil)) (by rfl))))))
      (pss_one (ps_ret (pv 4)))))), ?_⟩
    refine ⟨_, rfl, _, rfl, _, _, rfl, (by show 2 ≤ sizeLine; decide), fun tt ntt => ?_⟩
    refine ⟨tt, _, rfl, SqT.of upd_same, rfl, _, _, rfl, _, _, rfl, rfl, ?_⟩
    refine ⟨fun m σ H1 => WInv a p m σ ∧ Same H H1, ⟨p.toNat, ⟨a, p, 1, 0, none, rfl, rfl, InvW.start ha hp hc, ba, bp⟩, same_new ntt⟩, fun m σ H1 hW => ?_⟩
    obtain ⟨⟨h, l, t, o, u, rfl, rfl, W, bh, bl⟩, sm⟩ := hW
    refine ⟨_, rfl, rfl, _, rfl, ?_⟩
    by_cases hl : l = 0
    · subst hl
      rw [decide_eq_true rfl]
      obtain ⟨f1, f2⟩ := W.fin
      exact iteF ⟨_, rfl, q _ _ sm f1 f2⟩
    · rw [decide_eq_false (fun e => hl (V.int.inj e))]
      have l0 := W.l0
      have lp : 0 < l := by omega
      have W2 := W.step lp
      have q0 : 0 ≤ h / l := Int.ediv_nonneg (by have := W.hp; omega) l0
      have q1 : h / l ≤ h := Int.ediv_le_self _ (by have := W.hp; omega)
      have bq : (h / l).natAbs < 2 ^ 4000 := by omega
      have bo := W.bound.1
      refine iteT ⟨fun σ' H' => ∃ m', m' < l.toNat ∧ WInv a p m' σ' ∧ Same H H', fun _ _ h => h, ?_⟩
      refine ⟨_, rfl, _, rfl, _, _, rfl, rfl, wide_div lp bl (by decide) (by decide), ?_⟩
      refine ⟨_, rfl, _, rfl, _, rfl, _, rfl, _, _, rfl, rfl, wide_mul bq bl (by decide) (by decide) (by decide), _, _, rfl, rfl, _, _, rfl, ?_⟩
      refine ⟨_, rfl, _, rfl, _, rfl, _, rfl, _, _, rfl, rfl, wide_mul bq (Nat.lt_of_le_of_lt bo bp) (by decide) (by decide) (by decide), _, _, rfl, rfl, _, _, rfl, ?_⟩
      have hm : h - h / l * l = h % l := by
        have := Int.emod_add_mul_ediv h l
        rw [Int.mul_comm l] at this
        omega
      have m1 : h % l < l := Int.emod_lt_of_pos _ lp
      have m0 : 0 ≤ h % l := Int.emod_nonneg _ (by omega)
      exact ⟨(h - h / l * l).toNat, by omega, ⟨l, h - h / l * l, o, t - h / l * o, _, rfl, rfl, W2, bl, by omega⟩, sm⟩
theorem ok_both (T : Tx K mg) : FnOk P w K mg base CX0 4 T.a_both T.fd_both P_both spBoth := by
  refine T.F_both.ok sc_both (fun vs H Q E h => ?_) (fun cdv A outer s H vs Q E hr h => ?_)
  · obtain ⟨t, u, r, m, s, n, rfl, _⟩ := h
    rfl
  · obtain ⟨t, u, r, m, sv, n, rfl, R, S, kn, ks⟩ := h
    refine ⟨_, (pss_cons (ps_expr (pe_call (ok_check_rest T) (hr.mono (by decide)) (by rfl) T.g_check_rest T.F_check_rest.kp T.b_check_rest .nil pass0 (pa_cons (pv 0) pa_nil)))
      (pss_cons (ps_expr (pe_call (ok_check_rest T) (hr.mono (by decide)) (by rfl) T.g_check_rest T.F_check_rest.kp T.b_check_rest .nil pass0 (pa_cons (pv 1) pa_nil)))
      (pss_cons (ps_asg (pv 0) (pg_tup (by rfl) (pgs_cons (pg_name (i := 2) sc_both.nd rfl (.inl rfl)) (pgs_cons (pg_name (i := 3) sc_both.nd rfl (.inl rfl)) pgs_nil))))
      (pss_cons (ps_asg (pv 1) (pg_tup (by rfl) (pgs_cons (pg_name (i := 4) sc_both.nd rfl (.inl rfl)) (pgs_cons (pg_name (i := 5) sc_both.nd rfl (.inl rfl)) pgs_nil))))
      (pss_cons (ps_set (i := 6) sc_both.nd rfl (.inl rfl) (pe_callBfun cr_gcd rfl T.i_gcd (pa_cons (pv 3) (pa_cons (pv 5) pa_nil))))
      (pss_cons (ps_if (pt_cmpR op_ne (pe_op op_mod (pe_op op_sub (pv 4) (pv 2)) (pv 6)) pe_int (nomark _))
       (pss_one (ps_ret pe_non))
       pss_nil)
      (pss_cons (ps_set (i := 7) sc_both.nd rfl (.inl rfl) (pe_op op_fdivW (pv 5) (pv 6)))
      (pss_cons (ps_set (i := 8) sc_both.nd rfl (.inl rfl) (pe_op op_mod (pe_op op_mulW (pe_op op_fdivW (pe_op op_sub (pv 4) (pv 2)) (pv 6)) (pe_call (ok_inverse T) (hr.mono (by decide)) (by rfl) T.g_inverse T.F_inverse.kp T.b_inverse .nil pass0 (pa_cons (pe_op op_fdivW (pv 3) (pv 6)) (pa_cons (pv 7) pa_nil)))) (pv 7)))
      (pss_one (ps_ret (pe_tup (pa_cons (pe_op op_add (pv 2) (pe_op op_mulW (pv 3) (pv 8))) (pa_cons (pe_op op_mulW (pv 3) (pv 7)) pa_nil))))))))))))), ?_⟩
    have hm := R.pos
    have hn := S.pos
    have hg := gcd_pos (n := n) hm
    have gm : (Int.gcd m n : Int) ≤ m := Int.le_of_dvd hm (Int.gcd_dvd_left ..)
    have gn : (Int.gcd m n : Int) ≤ n := Int.le_of_dvd hn (Int.gcd_dvd_right ..)
    have bm := R.big
    have bn := S.big
    have r0 := R.r0
    have r1 := R.rm
    have s0 := S.r0
    have s1 := S.rm
    refine ⟨_, rfl, t, r, m, rfl, R, ?_⟩
    refine ⟨_, rfl, u, sv, n, rfl, S, ?_⟩
    refine ⟨_, rfl, t, _, rfl, SqT.of R.at', rfl, _, _, rfl, _, _, rfl, rfl, ?_⟩
    refine ⟨_, rfl, u, _, rfl, SqT.of S.at', rfl, _, _, rfl, _, _, rfl, rfl, ?_⟩
    refine ⟨_, rfl, _, rfl, m, n, rfl, ?_⟩
    rw [show (Nat.gcd m.natAbs n.natAbs : Nat) = Int.gcd m n from rfl]
    refine ⟨_, rfl, _, rfl, _, _, rfl, rfl, _, rfl, _, _, rfl, rfl, hg, rfl, _, rfl, ?_⟩
    by_cases hd : (sv - r) % (Int.gcd m n : Int) = 0
    · rw [decide_eq_true (congrArg V.int hd)]
      refine iteF ?_
      have bg : (Int.gcd m n : Int).natAbs < 2 ^ 4000 := by omega
      have hcp := coprime_parts (n := n) hm
      have p0 : 0 < n / (Int.gcd m n : Int) := Int.ediv_pos_of_pos_of_dvd hn (by omega) (Int.gcd_dvd_right ..)
      have a0 : 0 < m / (Int.gcd m n : Int) := Int.ediv_pos_of_pos_of_dvd hm (by omega) (Int.gcd_dvd_left ..)
      have p1 : n / (Int.gcd m n : Int) ≤ n := Int.ediv_le_self _ (by omega)
      have a1 : m / (Int.gcd m n : Int) ≤ m := Int.ediv_le_self _ (by omega)
      have bp : (n / (Int.gcd m n : Int)).natAbs < 2 ^ 4000 := by omega
      have ba : (m / (Int.gcd m n : Int)).natAbs < 2 ^ 4000 := by omega
      have bk : ((sv - r) / (Int.gcd m n : Int)).natAbs < 2 ^ 4001 := by
        have h1 : ((sv - r) / (Int.gcd m n : Int)).natAbs ≤ (sv - r).natAbs := Int.natAbs_ediv_le_natAbs _ _
        have h2 : (sv - r).natAbs < 2 ^ 4000 + 2 ^ 4000 := by omega
        have h3 : 2 ^ 4001 = 2 ^ 4000 + 2 ^ 4000 := by rw [Nat.pow_succ]; omega
        omega
      refine ⟨_, rfl, _, rfl, _, _, rfl, rfl, wide_div hg bg (by decide) (by decide), ?_⟩
      refine ⟨_, rfl, _, rfl, _, _, rfl, rfl, _, rfl, _, _, rfl, rfl, wide_div hg bg (by decide) (by decide), ?_⟩
      refine ⟨_, rfl, _, rfl, _, _, rfl, rfl, wide_div hg bg (by decide) (by decide), _, rfl, _, _, rfl, a0, p0, ba, bp, hcp, fun H2 iv sm2 hiv biv => ?_⟩
      refine ⟨_, _, rfl, rfl, wide_mul bk (Nat.lt_of_le_of_lt biv bp) (by decide) (by decide) (by decide), _, rfl, _, _, rfl, rfl, p0, ?_⟩
      obtain ⟨c1, c2, c3, c4, c5⟩ := crt_step (inv := iv) hm hn r0 r1 s0 s1 hd hiv
      have st0 := Int.emod_nonneg ((sv - r) / (Int.gcd m n : Int) * iv) (show n / (Int.gcd m n : Int) ≠ 0 by omega)
      have st1 := Int.emod_lt_of_pos ((sv - r) / (Int.gcd m n : Int) * iv) p0
      refine ⟨_, rfl, _, rfl, _, rfl, _, _, rfl, rfl, wide_mul bm (show (((sv - r) / (Int.gcd m n : Int) * iv) % (n / (Int.gcd m n : Int))).natAbs < 2 ^ 4000 by omega) (by decide) (by decide) (by decide), _, _, rfl, rfl, _, rfl, _, rfl, _, _, rfl, rfl, wide_mul bm bp (by decide) (by decide) (by decide), (by show 2 ≤ sizeLine; decide), fun q nq => ?_⟩
      exact ks hd _ q _ (sm2.trans (same_new nq)) (sm2.free nq) upd_same c2 c3 c4 c5
    · rw [decide_eq_false (fun e => hd (V.int.inj e))]
      exact iteT (kn hd)
theorem ok_least (T : Tx K mg) : FnOk P w K mg base CX0 4 T.a_least T.fd_least P_least spLeast := by
  refine T.F_least.ok sc_least (fun vs H Q E h => ?_) (fun cdv A outer s H vs Q E hr h => ?_)
  · obtain ⟨t, r, m, rfl, _⟩ := h
    rfl
  · obtain ⟨t, r, m, rfl, R, q⟩ := h
    refine ⟨_, (pss_cons (ps_expr (pe_call (ok_check_rest T) (hr.mono (by decide)) (by rfl) T.g_check_rest T.F_check_rest.kp T.b_check_rest .nil pass0 (pa_cons (pv 0) pa_nil)))
      (pss_one (ps_ret (pe_ix ix_tup (pv 0) pe_int (fun _ _ => rfl))))), ?_⟩
    refine ⟨_, rfl, t, r, m, rfl, R, ?_⟩
    exact ⟨_, rfl, t, _, 0, .int r, rfl, rfl, SqT.of R.at', atI_nat (j := 0) rfl, q⟩
end
end K03
namespace K03
open PySem PySem.Spec PyProof.Rows L2 GL
section
variable {P : Program} {w : World} {K : PySem.W.Frag} {mg : Str → Option Value} {base : Heap}
theorem ok_l_draw (T : Tx K mg) : FnOk P w K mg base CX0 1 T.a_l_draw T.fd_l_draw P_l_draw spDraw := by
  refine T.F_l_draw.ok sc_l_draw (fun vs H Q E h => ?_) (fun cdv A outer s H vs Q E hr h => ?_)
  · obtain ⟨S, C, n, rfl, _⟩ := h
    rfl
  · obtain ⟨S, C, n, rfl, hn, hn2, hst, q⟩ := h
    have hSC := hst.ne
    obtain ⟨cells, k, m, hS, hC, hc0, hc63, hpos, hk, hm, hm2⟩ := hst
    have hz : (0 : Int) < ((cells.map V.int).length : Int) := by rw [List.length_map]; omega
    have b1 := Int.emod_nonneg k (Int.ne_of_gt hz)
    have b2 := Int.emod_lt_of_pos k hz
    obtain ⟨j, c, ej, hj, _, hcj, hcm⟩ := cell_at (xs := cells) b1 (by rw [List.length_map] at b2 ⊢; exact b2)
    have c0 := hpos c hcm
    refine ⟨_, (pss_cons (ps_set (i := 2) sc_l_draw.nd rfl (.inl rfl) (pe_ix ix_list (pv 0) pe_int (fun _ _ => rfl)))
      (pss_cons (ps_set (i := 3) sc_l_draw.nd rfl (.inl rfl) (pe_op op_mod (pe_ix ix_list (pv 0) pe_int (fun _ _ => rfl)) (pe_callB call_len_seq (by rfl) T.m_len (by decide +kernel) (pa_cons (pv 2) pa_nil))))
      (pss_cons (ps_set (i := 4) sc_l_draw.nd rfl (.inl rfl) (pe_ix ix_list (pv 2) (pv 3) (fun _ _ => rfl)))
      (pss_cons (ps_if (pt_cmpR op_ge (pv 4) pe_int (nomark _))
       (pss_cons (ps_asg (pe_op op_fdivW (pv 4) (pv 1)) (pg_sub (pv 2) (pv 3) set_list))
        (pss_one (ps_ret (pe_op op_mod (pv 4) (pv 1)))))
       pss_nil)
      (pss_cons (ps_asg (pe_op op_add (pe_ix ix_list (pv 0) pe_int (fun _ _ => rfl)) pe_int) (pg_sub (pv 0) pe_int set_list))
      (pss_cons (ps_asg (pe_op op_mod (pe_op op_add (pe_op op_add (pe_op op_add (pe_op op_mul (pe_ix ix_list (pv 0) pe_int (fun _ _ => rfl)) pe_int) (pv 4)) (pe_op op_mul pe_int (pe_ix ix_list (pv 0) pe_int (fun _ _ => rfl)))) pe_int) pe_int) (pg_sub (pv 0) pe_int set_list))
      (pss_one (ps_ret (pe_op op_mod (pe_op op_fdiv (pe_op op_mod (pe_op op_mul (pe_ix ix_list (pv 0) pe_int (fun _ _ => rfl)) (pe_ix ix_list (pv 0) pe_int (fun _ _ => rfl))) pe_int) pe_int) (pv 1)))))))))), ?_⟩
    refine ⟨_, rfl, _, _, _, _, rfl, rfl, SqL.of hS, rfl, ?_⟩
    refine ⟨_, rfl, _, _, _, _, rfl, rfl, SqL.of hS, rfl, _, rfl, C, _, rfl, .inl (SqL.of hC), _, _, rfl, rfl, hz, ?_⟩
    refine ⟨_, rfl, _, rfl, _, _, _, _, rfl, rfl, SqL.of hC, at_of ej hcj, ?_⟩
    refine ⟨_, rfl, _, _, rfl, rfl, _, rfl, ite2 (fun hbig => ?_) (fun hsmall => ?_)⟩
    · refine ⟨_, rfl, _, rfl, _, _, rfl, rfl, wide_div hn hn2 (by decide) (by decide), _, rfl, _, rfl, C, _, _, j, rfl, rfl, hC, ixN_of ej (by rw [List.length_map]; exact hj), ?_⟩
      refine ⟨_, rfl, _, rfl, _, _, rfl, rfl, hn, ?_⟩
      refine q _ _ (fun b o e n1 n2 => by rw [upd_ne n2]; exact e) ⟨cells.set j (c / n), k, m, by rw [upd_ne hSC]; exact hS, by rw [upd_same, List.map_set], by rw [List.length_set]; exact hc0, by rw [List.length_set]; exact hc63, fun x hx => ?_, hk, hm, hm2⟩ (Int.emod_nonneg _ (Int.ne_of_gt hn)) (Int.emod_lt_of_pos _ hn)
      rcases List.mem_or_eq_of_mem_set hx with hx | rfl
      · exact hpos x hx
      · exact Int.ediv_nonneg c0 (Int.le_of_lt hn)
    · refine ⟨_, rfl, _, _, _, _, rfl, rfl, SqL.of hS, rfl, _, _, rfl, rfl, _, rfl, S, _, _, 1, rfl, rfl, hS, rfl, ?_⟩
      rw [lst3_set1]
      refine ⟨_, rfl, _, _, _, _, rfl, rfl, SqL.of upd_same, rfl, _, _, rfl, rfl, .inl (by omega), _, rfl, _, _, rfl, rfl, _, rfl, _, _, _, _, rfl, rfl, SqL.of upd_same, rfl, _, _, rfl, rfl, .inl ⟨by decide, by decide⟩, _, _, rfl, rfl, _, _, rfl, rfl, _, _, rfl, rfl, (by show (0 : Int) < 2147483647; decide), _, rfl, S, _, _, 2, rfl, rfl, upd_same, rfl, ?_⟩
      have n1 := Int.emod_nonneg (m * 48271 + c + 7919 * (k + 1) + 12345) (show (2147483647 : Int) ≠ 0 by decide)
      have n2 := Int.emod_lt_of_pos (m * 48271 + c + 7919 * (k + 1) + 12345) (show (0 : Int) < 2147483647 by decide)
      refine ⟨_, rfl, _, _, _, _, rfl, rfl, SqL.of upd_same, rfl, _, rfl, _, _, _, _, rfl, rfl, SqL.of upd_same, rfl, _, _, rfl, rfl, .inl (by omega), _, _, rfl, rfl, (by show (0 : Int) < 2147483629; decide), _, _, rfl, rfl, ⟨by decide, by decide⟩, _, rfl, _, _, rfl, rfl, hn, ?_⟩
      refine q _ _ (fun b o e n1 n2 => by rw [upd_ne n1, upd_ne n1]; exact e) ⟨cells, k + 1, _, upd_same, by rw [upd_ne hSC.symm, upd_ne hSC.symm]; exact hC, hc0, hc63, hpos, by omega, n1, n2⟩ (Int.emod_nonneg _ (Int.ne_of_gt hn)) (Int.emod_lt_of_pos _ hn)
theorem ok_l_great (T : Tx K mg) : FnOk P w K mg base CX0 2 T.a_l_great T.fd_l_great P_l_great spGreat := by
  refine T.F_l_great.ok sc_l_great (fun vs H Q E h => ?_) (fun cdv A outer s H vs Q E hr h => ?_)
  · obtain ⟨S, C, n, rfl, _⟩ := h
    rfl
  · obtain ⟨S, C, f, rfl, f0, f1, hst, q⟩ := h
    refine ⟨_, (pss_cons (ps_set (i := 2) sc_l_great.nd rfl (.inl rfl) pe_int)
      (pss_cons (ps_for PassesOwn.never rfl (pi_range1 (by rfl) T.m_range (pa_cons (pv 1) pa_nil)) (pg_name (i := 3) sc_l_great.nd rfl (.inl rfl))
       (pss_one (ps_set (i := 2) sc_l_great.nd rfl (.inl rfl) (pe_op op_add (pe_op op_mul (pv 2) pe_int) (pe_call (ok_l_draw T) (hr.mono (by decide)) (by rfl) T.g_l_draw T.F_l_draw.kp T.b_l_draw .nil pass0 (pa_cons (pv 0) (pa_cons pe_int pa_nil)))))))
      (pss_one (ps_ret (pv 2))))), ?_⟩
    refine ⟨_, rfl, f, rfl, by omega, by omega, ?_⟩
    refine for_range (lo := 0) (n := f.toNat) (fun i σ H1 => Mod S C H H1 ∧ StOk H1 S C ∧ ∃ (z : Int) (u : Option V), σ = [some (.ref S), some (.int f), some (.int z), u] ∧ 0 ≤ z ∧ z < 10 ^ i)
      ⟨Mod.refl S C H, hst, 0, none, rfl, by decide, by decide⟩ (fun i σ H1 hi hP => ?_) (fun σ H1 hP => ?_)
    · obtain ⟨m1, st1, z, u, rfl, z0, z1⟩ := hP
      refine ⟨_, rfl, _, _, rfl, rfl, .inr ⟨by decide, by decide⟩, _, rfl, S, C, _, rfl, by decide, by decide, st1, fun H2 d m2 st2 d0 d1 => ?_⟩
      refine ⟨_, _, rfl, rfl, m1.trans m2, st2, z * 10 + d, _, rfl, by omega, ?_⟩
      rw [Int.pow_succ]
      omega
    · obtain ⟨m1, st1, z, u, rfl, z0, z1⟩ := hP
      exact ⟨_, rfl, q _ _ m1 st1 z0 z1⟩
theorem ok_l_state (T : Tx K mg) : FnOk P w K mg base CX0 1 T.a_l_state T.fd_l_state P_l_state (spState K) := by
  refine T.F_l_state.ok sc_l_state (fun vs H Q E h => ?_) (fun cdv A outer s H vs Q E hr h => ?_)
  · obtain ⟨a, ns, rfl, _⟩ := h
    rfl
  · obtain ⟨a, ns, rfl, ha, hl, q⟩ := h
    refine ⟨_, (pss_one (ps_ret (pe_lst (pa_cons (pe_orT (pe_lc (own := [("_law_cell", 1)]) (g := gName 1) (tt := tYes) rfl sc_l_state.nd (pi_list (pe_slice sl_list (pv 0) po_none (po_some pe_int))) (blkOk_by (N := N_l_state) (sc := defScope s_l_state) (by decide +kernel)) (fun _ _ _ _ _ => pg_name (i := 1) sc_l_state.nd rfl (Or.inl rfl)) (fun _ _ _ _ _ => pts_nil) (fun _ _ _ _ _ => (pe_callB call_abs (by rfl) T.m_abs (by decide +kernel) (pa_cons (pv 1) pa_nil)))) (pe_one (pe_lst (pa_cons pe_int pa_nil)))) (pa_cons pe_int (pa_cons pe_int pa_nil)))))), ?_⟩
    refine ⟨_, rfl, 63, rfl, a, _, rfl, ha, fun c nc => ?_⟩
    rw [show cutV (ns.map V.int) none (some 63) = ns.map V.int from (cut_take _ 63).trans (List.take_of_length_le (by rw [List.length_map]; exact hl))]
    have Dn : ∀ D, (upd H c (.lst (ns.map V.int))) D = none → D ≠ c ∧ H D = none := fun D nD => by
      have k : D ≠ c := fun e => by rw [e, upd_same] at nD; cases nD
      exact ⟨k, by rw [upd_ne k] at nD; exact nD⟩
    refine ⟨c, rfl, ⟨_, SqL.of upd_same⟩, fun D nD => ?_⟩
    obtain ⟨nDc, nD0⟩ := Dn D nD
    refine lc_list (K := K) (a := c) (xs := ns.map V.int) (fun i H' => Same H H' ∧ H' c = some (.lst (ns.map V.int)) ∧ H' D = some (.lst (((ns.take i).map fun n => if n < 0 then -n else n).map V.int))) ⟨(same_new nc).own nD0, by rw [upd_ne nDc.symm, upd_same], upd_same⟩ (fun i H' _ p => SqL.of p.2.1) (fun i x H' hx p => ?_) (fun H' p => ?_)
    · obtain ⟨sm, hc, hD⟩ := p
      obtain ⟨z, hz, rfl⟩ := of_ints_at hx
      have hlt := (List.getElem?_eq_some_iff.mp hz).1
      refine ⟨rfl, ?_⟩
      refine ⟨_, rfl, z, rfl, _, hD, by rw [List.length_map, List.length_map, List.length_take]; exact small_lt (by omega), ?_⟩
      refine ⟨L2.Same.own sm nD0, by rw [upd_ne nDc.symm]; exact hc, ?_⟩
      rw [upd_same, take_snoc hz, List.map_append, List.map_append]
      rfl
    · obtain ⟨sm, hc, hD⟩ := p
      rw [List.length_map, List.take_length] at hD
      generalize hcs : (ns.map fun n => if n < 0 then -n else n) = cs at hD
      have hpos : ∀ z ∈ cs, 0 ≤ z := fun z hz => by
        rw [← hcs] at hz
        obtain ⟨n, _, rfl⟩ := List.mem_map.mp hz
        split <;> omega
      have hcl : cs.length ≤ 63 := by rw [← hcs, List.length_map]; exact hl
      refine ⟨!cs.isEmpty, .inl ⟨_, SqL.of hD, by cases cs <;> rfl⟩, ?_⟩
      cases cs with
      | nil =>
        refine ⟨(by show 1 ≤ sizeLine; decide), fun p np => ?_⟩
        refine ⟨(by show 3 ≤ sizeLine; decide), fun S nS => ?_⟩
        have nSp : S ≠ p := fun z => by rw [z, upd_same] at nS; cases nS
        have nS0 : H S = none := sm.free (by rw [upd_ne nSp] at nS; exact nS)
        exact q _ S p ((sm.trans (same_new np)).trans (same_new nS)) nS0 (sm.free np) ⟨[7], 0, 1, upd_same, by rw [upd_ne nSp.symm, upd_same]; rfl, by decide, by decide, by decide, by decide, by decide, by decide⟩
      | cons c0 cr =>
        refine ⟨(by show 3 ≤ sizeLine; decide), fun S nS => ?_⟩
        have nS0 : H S = none := sm.free nS
        have hSD : S ≠ D := fun z => by rw [z, hD] at nS; cases nS
        exact q _ S D (sm.trans (same_new nS)) nS0 nD0 ⟨c0 :: cr, 0, 1, upd_same, by rw [upd_ne hSD.symm]; exact hD, Nat.succ_pos _, hcl, hpos, by decide, by decide, by decide⟩
end
end K03
namespace K03
open PySem PySem.Spec PyProof.Rows L2 GL
section
variable {P : Program} {w : World} {K : PySem.W.Frag} {mg : Str → Option Value} {base : Heap}
theorem ok_l_product (T : Tx K mg) : FnOk P w K mg base CX0 1 T.a_l_product T.fd_l_product P_l_product spProduct := by
  refine T.F_l_product.ok sc_l_product (fun vs H Q E h => ?_) (fun cdv A outer s H vs Q E hr h => ?_)
  · obtain ⟨d, ps, rfl, _⟩ := h
    rfl
  · obtain ⟨d, ps, rfl, hd, ok, q⟩ := h
    have hu := hu_of hr
    refine ⟨_, (pss_cons (ps_set (i := 1) sc_l_product.nd rfl (.inl rfl) pe_int)
      (pss_cons (ps_lock (ps_for PassesOwn.never rfl (pi_keys (pv 0)) (pg_name (i := 2) sc_l_product.nd rfl (.inl rfl))
       (pss_one (ps_for PassesOwn.never rfl (pi_range1 (by rfl) T.m_range (pa_cons (pe_dget hu (pv 0) (pv 2) (fun _ _ => rfl)) pa_nil)) (pg_name (i := 3) sc_l_product.nd rfl (.inl rfl))
         (pss_one (ps_set (i := 1) sc_l_product.nd rfl (.inl rfl) (pe_op op_mul (pv 1) (pv 2))))))))
      (pss_one (ps_ret (pv 1))))), ?_⟩
    refine ⟨d, _, hd, trivial, fun od => ?_⟩
    refine ⟨_, rfl, d, od, rfl, .inl ⟨_, upd_same, ?_⟩⟩
    refine for_it walk_keys (fun i σ H1 => H1 = upd H d (.frz od (.dK (kvP ps))) ∧ ∃ u2 u3, σ = [some (.ref d), some (.int (prodP (ps.take i) : Nat)), u2, u3]) ⟨rfl, none, none, rfl⟩ (fun i σ H1 _ hP => ?_) (fun i x σ H1 H2 hi hP hY => ?_) (fun σ H1 hP => ?_)
    · rw [hP.1]
      exact upd_same
    · obtain ⟨rfl, u2, u3, rfl⟩ := hP
      obtain ⟨rfl, k, v, hk, rfl⟩ := hY
      obtain ⟨x, hx, rfl, rfl⟩ := kvP_get hk
      have hm := List.mem_of_getElem? hx
      have hple := primes_le _ (ok.mem hm)
      have hel := ok.es _ hm
      refine ⟨_, rfl, _, rfl, d, _, rfl, .inl ⟨kvP ps, Sum.inl (x.1 : Int), .inr ⟨od, upd_same⟩, rfl, (valV_kvP ok.nd x hm).symm⟩, (x.2 : Int), rfl, by omega, by omega, ?_⟩
      refine for_range (lo := 0) (n := (x.2 : Int).toNat) (fun j σ H1 => H1 = upd H d (.frz od (.dK (kvP ps))) ∧ ∃ u3, σ = [some (.ref d), some (.int ((prodP (ps.take i) * x.1 ^ j : Nat) : Int)), some (.int (x.1 : Int)), u3]) ⟨rfl, u3, by rw [Nat.pow_zero, Nat.mul_one]; rfl⟩ (fun j σ H1 hj hP => ?_) (fun σ H1 hP => ?_)
      · obtain ⟨rfl, u3, rfl⟩ := hP
        refine ⟨_, rfl, _, rfl, _, _, rfl, rfl, .inr ⟨by omega, by omega⟩, rfl, some (.int (0 + (j : Nat))), ?_⟩
        dsimp only
        rw [show ((prodP (ps.take i) * x.1 ^ j : Nat) : Int) * (x.1 : Int) = ((prodP (ps.take i) * x.1 ^ (j + 1) : Nat) : Int) by rw [Nat.pow_succ, ← Nat.mul_assoc]; rfl]
        rfl
      · obtain ⟨rfl, u3, rfl⟩ := hP
        refine ⟨rfl, some (.int (x.1 : Int)), u3, ?_⟩
        rw [take_snoc hx, prodP_snoc, Int.toNat_natCast]
    · obtain ⟨rfl, u2, u3, rfl⟩ := hP
      have hl : (kvP ps).length = ps.length := List.length_map _
      dsimp only
      rw [hl, List.take_length, upd_back hd]
      exact ⟨upd_same, _, rfl, q⟩
theorem ok_l_powers (T : Tx K mg) : FnOk P w K mg base CX0 2 T.a_l_powers T.fd_l_powers P_l_powers spPowers := by
  refine T.F_l_powers.ok sc_l_powers (fun vs H Q E h => ?_) (fun cdv A outer s H vs Q E hr h => ?_)
  · obtain ⟨S, C, rfl, _⟩ := h
    rfl
  · obtain ⟨S, C, rfl, hst, q⟩ := h
    have hu := hu_of hr
    refine ⟨_, (pss_cons (ps_set (i := 1) sc_l_powers.nd rfl (.inl rfl) pe_dnewK)
      (pss_cons (ps_for PassesOwn.never rfl (pi_list (pe_lst (pa_cons (pe_tup (pa_cons pe_int (pa_cons pe_int pa_nil))) (pa_cons (pe_tup (pa_cons pe_int (pa_cons pe_int pa_nil))) (pa_cons (pe_tup (pa_cons pe_int (pa_cons pe_int pa_nil))) (pa_cons (pe_tup (pa_cons pe_int (pa_cons pe_int pa_nil))) (pa_cons (pe_tup (pa_cons pe_int (pa_cons pe_int pa_nil))) (pa_cons (pe_tup (pa_cons pe_int (pa_cons pe_int pa_nil))) (pa_cons (pe_tup (pa_cons pe_int (pa_cons pe_int pa_nil))) pa_nil))))))))) (pg_tup (by rfl) (pgs_cons (pg_name (i := 2) sc_l_powers.nd rfl (.inl rfl)) (pgs_cons (pg_name (i := 3) sc_l_powers.nd rfl (.inl rfl)) pgs_nil)))
       (pss_cons (ps_set (i := 4) sc_l_powers.nd rfl (.inl rfl) (pe_call (ok_l_draw T) (hr.mono (by decide)) (by rfl) T.g_l_draw T.F_l_draw.kp T.b_l_draw .nil pass0 (pa_cons (pv 0) (pa_cons pe_int pa_nil))))
        (pss_one (ps_dput hu (pv 1) (pv 2) (pe_ifExp (pt_cmpR op_eq (pv 4) pe_int (nomark _)) pe_int (pe_call (ok_l_draw T) (hr.mono (by decide)) (by rfl) T.g_l_draw T.F_l_draw.kp T.b_l_draw .nil pass0 (pa_cons (pv 0) (pa_cons (pe_ix ix_list (pe_lst (pa_cons pe_int (pa_cons (pe_op op_add (pv 3) pe_int) pa_nil))) (pe_op op_sub (pv 4) pe_int) (fun _ _ => rfl)) pa_nil)))) rfl))))
      (pss_one (ps_ret (pv 1))))), ?_⟩
    refine fun d nd => ?_
    have s0 := same_new (o := .dK []) nd
    have hd0 : upd H d (.dK []) d = some (.dK []) := upd_same
    refine ⟨(by show 2 ≤ sizeLine; decide), fun t1 n1 => ?_⟩
    have s1 := same_new (o := .tup [.int 2, .int 20]) n1
    refine ⟨(by show 2 ≤ sizeLine; decide), fun t2 n2 => ?_⟩
    have s2 := same_new (o := .tup [.int 3, .int 12]) n2
    refine ⟨(by show 2 ≤ sizeLine; decide), fun t3 n3 => ?_⟩
    have s3 := same_new (o := .tup [.int 5, .int 8]) n3
    refine ⟨(by show 2 ≤ sizeLine; decide), fun t4 n4 => ?_⟩
    have s4 := same_new (o := .tup [.int 7, .int 6]) n4
    refine ⟨(by show 2 ≤ sizeLine; decide), fun t5 n5 => ?_⟩
    have s5 := same_new (o := .tup [.int 11, .int 4]) n5
    refine ⟨(by show 2 ≤ sizeLine; decide), fun t6 n6 => ?_⟩
    have s6 := same_new (o := .tup [.int 13, .int 4]) n6
    refine ⟨(by show 2 ≤ sizeLine; decide), fun t7 n7 => ?_⟩
    have s7 := same_new (o := .tup [.int 1000003, .int 2]) n7
    refine ⟨(by show 7 ≤ sizeLine; decide), fun p np => ?_⟩
    have s8 := same_new (o := .lst [.ref t1, .ref t2, .ref t3, .ref t4, .ref t5, .ref t6, .ref t7]) np
    have h1 := s8 _ _ (s7 _ _ (s6 _ _ (s5 _ _ (s4 _ _ (s3 _ _ (s2 t1 _ upd_same))))))
    have h2 := s8 _ _ (s7 _ _ (s6 _ _ (s5 _ _ (s4 _ _ (s3 t2 _ upd_same)))))
    have h3 := s8 _ _ (s7 _ _ (s6 _ _ (s5 _ _ (s4 t3 _ upd_same))))
    have h4 := s8 _ _ (s7 _ _ (s6 _ _ (s5 t4 _ upd_same)))
    have h5 := s8 _ _ (s7 _ _ (s6 t5 _ upd_same))
    have h6 := s8 _ _ (s7 t6 _ upd_same)
    have h7 := s8 t7 _ upd_same
    have smA := ((((((s1.trans s2).trans s3).trans s4).trans s5).trans s6).trans s7).trans s8
    have hdA := smA _ _ hd0
    have smB := s0.trans smA
    have hpp := upd_of (o := .lst ([t1, t2, t3, t4, t5, t6, t7].map V.ref)) np
    have smP := s0.trans ((((((s1.trans s2).trans s3).trans s4).trans s5).trans s6).trans s7)
    have hp0 := smP.free np
    have hpS := hst.neS hp0
    have hpC := hst.neC hp0
    have hdS := hst.neS nd
    have hdC := hst.neC nd
    have hT := tups_at h1 h2 h3 h4 h5 h6 h7
    clear h1 h2 h3 h4 h5 h6 h7
    have stL := hst.same smB
    refine ⟨p, rfl, ⟨_, SqL.of hpp⟩, ?_⟩
    have hts : ∃ ts : List Addr, ts = [t1, t2, t3, t4, t5, t6, t7] := ⟨_, rfl⟩
    obtain ⟨ts, ets⟩ := hts
    have hpp := hpp.trans (congrArg (fun z : List Addr => some (HO.lst (z.map V.ref))) ets.symm)
    rw [← ets] at hT
    clear s1 s2 s3 s4 s5 s6 s7 s8 smA smP
    refine for_list (K := K) (a := p) (xs := ts.map V.ref) (fun i σ H1 => (∃ u2 u3 u4, σ = [some (.ref S), some (.ref d), u2, u3, u4]) ∧ Mod S C H H1 ∧ StOk H1 S C ∧ H1 p = some (.lst (ts.map V.ref)) ∧ TupsAt H1 ts ∧
      ∃ ps : List (Nat × Nat), H1 d = some (.dK (kvP ps)) ∧ ps.map (·.1) = PRIMES.take i ∧ ∀ x ∈ ps, x.2 ≤ 20) ⟨⟨none, none, none, rfl⟩, Mod.of smB, stL, hpp, hT, [], hdA, rfl, fun _ h => nomatch h⟩ (fun i σ H1 _ hP => SqL.of hP.2.2.2.1) (fun i x σ H1 hx hP => ?_) (fun σ H1 hP => ?_)
    · obtain ⟨⟨u2, u3, u4, rfl⟩, m1, st1, hp1, hT1, ps, hd1, hk, he⟩ := hP
      rw [List.getElem?_map] at hx
      obtain ⟨t, ht, rfl⟩ := Option.map_eq_some_iff.mp hx
      have hi7 : i < 7 := by have := (List.getElem?_eq_some_iff.mp ht).1; rw [hT1.1] at this; exact this
      obtain ⟨⟨pr, mo⟩, hpm⟩ : ∃ x, PL[i]? = some x := ⟨_, List.getElem?_eq_getElem (by rw [PL_len]; exact hi7)⟩
      have htt := hT1.2 i t _ ht hpm
      have hmo := PL_le _ (List.mem_of_getElem? hpm)
      have hpr : PRIMES[i]? = some pr := by rw [← PL_fst, List.getElem?_map, hpm]; rfl
      have hnot : pr ∉ ps.map (·.1) := by rw [hk]; exact take_notin (by decide) hpr
      have hk' : ∀ e : Nat, (ps ++ [(pr, e)]).map (·.1) = PRIMES.take (i + 1) := fun e => by rw [List.map_append, hk, take_snoc hpr]; rfl
      have hlen : (kvP ps).length < sizeLine := by
        have := congrArg List.length hk
        rw [List.length_map, List.length_take] at this
        rw [show (kvP ps).length = ps.length from List.length_map _]
        exact small_lt (by omega)
      have fin : ∀ (H2 : Hp) (z : Int) (v4 : Option V), Mod S C H1 H2 → StOk H2 S C → 0 ≤ z → z ≤ 20 → ∃ a H4, V.ref d = V.ref a ∧ DPut H2 a (.int (pr : Int)) (.int z) H4 ∧ ((∃ u2 u3 u4, [some (.ref S), some (.ref d), some (.int (pr : Int)), some (.int (mo : Int)), v4] = [some (.ref S), some (.ref d), u2, u3, u4]) ∧ Mod S C H H4 ∧ StOk H4 S C ∧ H4 p = some (.lst (ts.map V.ref)) ∧ TupsAt H4 ts ∧
          ∃ ps : List (Nat × Nat), H4 d = some (.dK (kvP ps)) ∧ ps.map (·.1) = PRIMES.take (i + 1) ∧ ∀ x ∈ ps, x.2 ≤ 20) := fun H2 z v4 m2 st2 z0 z1 => by
        obtain ⟨e, rfl⟩ : ∃ e : Nat, z = (e : Int) := ⟨z.toNat, by omega⟩
        have hd2 := m2 _ _ hd1 hdS hdC
        have hp2 := m2 _ _ hp1 hpS hpC
        refine ⟨d, _, rfl, .inl ⟨_, Sum.inl (pr : Int), hd2, rfl, hlen, rfl⟩, ⟨_, _, _, rfl⟩, (m1.trans m2).own nd, st2.upd hdS hdC, ?_, ?_, ps ++ [(pr, e)], ?_, hk' e, ?_⟩
        · rw [upd_ne (ne_of hp2 hd2 (fun z => nomatch z))]
          exact hp2
        · refine (hT1.keep fun t o h => m2.other st1 h (fun _ z => nomatch z)).keep fun t o h => ?_
          rw [upd_ne (ne_of h hd2 (fun z => nomatch z))]
          exact h
        · rw [upd_same, putK_new hnot]
        · intro x hx
          rcases List.mem_append.mp hx with hx | hx
          · exact he x hx
          · rw [List.mem_singleton] at hx
            rw [hx]
            show e ≤ 20
            omega
      refine ⟨t, _, rfl, SqT.of htt, rfl, _, _, rfl, _, _, rfl, rfl, ?_⟩
      refine ⟨_, rfl, S, C, _, rfl, by decide, by decide, st1, fun H2 wy m2 st2 w0 w1 => ?_⟩
      refine ⟨_, rfl, rfl, _, rfl, ?_⟩
      show if decide (V.int wy = V.int 0) = true then _ else _
      by_cases hw : wy = 0
      · rw [hw, decide_eq_true rfl]
        exact iteT ⟨_, rfl, _, rfl, fin H2 0 _ m2 st2 (by decide) (by decide)⟩
      · rw [decide_eq_false (fun e => hw (by injection e))]
        refine iteF ⟨_, rfl, _, rfl, _, _, rfl, rfl, (by show 2 ≤ sizeLine; decide), fun l nl => ?_⟩
        have sl := same_new (o := .lst [.int 2, .int ((mo : Int) + 1)]) nl
        have st3 := st2.same sl
        have hsm : ∃ n : Int, atI [V.int 2, V.int ((mo : Int) + 1)] (wy - 1) = some (.int n) ∧ 0 < n ∧ n ≤ 21 := by
          rcases (show wy = 1 ∨ wy = 2 by omega) with rfl | rfl
          · exact ⟨2, rfl, by decide, by decide⟩
          · exact ⟨(mo : Int) + 1, rfl, by omega, by omega⟩
        obtain ⟨n, hn, n0, n1⟩ := hsm
        refine ⟨_, rfl, _, _, rfl, rfl, l, _, _, _, rfl, rfl, SqL.of upd_same, hn, S, C, n, rfl, n0, Nat.lt_of_le_of_lt (show n.natAbs ≤ 21 by omega) (by decide), st3, fun H3 z m3 st4 z0 z1 => ?_⟩
        exact ⟨_, rfl, _, rfl, fin H3 z _ ((m2.trans (Mod.of sl)).trans m3) st4 z0 (by omega)⟩
    · obtain ⟨⟨u2, u3, u4, rfl⟩, m1, st1, hp1, hT1, ps, hd1, hk, he⟩ := hP
      have hl7 : (ts.map V.ref).length = 7 := by rw [List.length_map]; exact hT1.1
      rw [hl7] at hk
      exact ⟨_, rfl, q _ d ps m1 st1 nd hd1 ⟨hk, he⟩⟩
end
end K03
namespace K03
open PySem PySem.Spec PyProof.Rows L2 GL
section
variable {P : Program} {w : World} {K : PySem.W.Frag} {mg : Str → Option Value} {base : Heap}
theorem ok_l_shared (T : Tx K mg) : FnOk P w K mg base CX0 1 T.a_l_shared T.fd_l_shared P_l_shared spShared := by
  refine T.F_l_shared.ok sc_l_shared (fun vs H Q E h => ?_) (fun cdv A outer s H vs Q E hr h => ?_)
  · obtain ⟨d, e, ps, qs, rfl, _⟩ := h
    rfl
  · obtain ⟨d, e, ps, qs, rfl, hd, he, ok1, ok2, q⟩ := h
    have hu := hu_of hr
    refine ⟨_, (pss_one (ps_ret (pe_callTy (call_dictP rfl) (by rfl) T.m_dict (by decide +kernel) (pa_cons (pe_lock (pe_lc (own := [("_law_prime", 2)]) (g := gName 2) (tt := tYes) rfl sc_l_shared.nd (pi_keys (pv 0)) (blkOk_by (N := N_l_shared) (sc := defScope s_l_shared) (by decide +kernel)) (fun _ _ _ _ _ => pg_name (i := 2) sc_l_shared.nd rfl (Or.inl rfl)) (fun _ _ _ _ _ => pts_nil) (fun _ _ _ _ _ => (pe_tup (pa_cons (pv 2) (pa_cons (pe_callB (call_min2 rfl) (by rfl) T.m_min (by decide +kernel) (pa_cons (pe_dget hu (pv 0) (pv 2) (fun _ _ => rfl)) (pa_cons (pe_dget hu (pv 1) (pv 2) (fun _ _ => rfl)) pa_nil))) pa_nil)))))) pa_nil)))), ?_⟩
    refine ⟨d, _, hd, trivial, fun od => ?_⟩
    refine ⟨_, rfl, d, od, rfl, .inl ⟨_, upd_same, fun D nD => ?_⟩⟩
    have rd1 := rd_lock (od := od) hd hd
    have rd2 := rd_lock (od := od) hd he
    have hcf : (upd H d (.frz od (.dK (kvP ps)))) d = some (.frz od (.dK (kvP ps))) := upd_same
    have okb := ok1.both (h := min) min20 ok2
    have keys := ok1.ks.trans ok2.ks.symm
    have hun : ∀ {H' : Hp}, Same (upd H d (.frz od (.dK (kvP ps)))) H' → Same H (upd H' d (.dK (kvP ps))) := fun sm => same_unlock' hd sm
    generalize upd H d (.frz od (.dK (kvP ps))) = Hc at *
    have hDc : D ≠ d := fun e => by rw [e, hcf] at nD; cases nD
    refine lc_it walk_keys (fun j H3 => Same Hc H3 ∧ ∃ (rs : List Addr), H3 D = some (.lst (rs.map V.ref)) ∧ Paired (fun p (kv : Key × V) => H3 p = some (.tup [kV kv.1, kv.2])) rs ((kvP (both2 min ps qs)).take j) ∧ rs.length = j)
        ⟨same_new nD, [], upd_same, .nil, rfl⟩ (fun j H3 _ hP => hP.1 _ _ hcf) (fun j x H3 H4 hj hP hY => ?_) (fun H3 hP => ?_)
    · obtain ⟨sm3, rs, hD, hps, hpl⟩ := hP
      obtain ⟨rfl, k2, v2, hkv2, rfl⟩ := hY
      obtain ⟨x, hx, rfl, rfl⟩ := kvP_get hkv2
      obtain ⟨e2, he2⟩ := ok1.at ok2 hx
      have hj7 : j < 7 := by
        have := (List.getElem?_eq_some_iff.mp hx).1
        rw [ok1.len] at this
        exact this
      have hat := kvP_at (both2_at (h := min) keys hx he2)
      refine ⟨rfl, _, rfl, _, rfl, _, rfl, d, .int (x.2 : Int), rfl, .inl ⟨_, Sum.inl (x.1 : Int), rd_same sm3 rd1, rfl, (ok1.val hx).symm⟩, _, rfl, _, rfl, e, .int (e2 : Int), rfl, .inl ⟨_, Sum.inl (x.1 : Int), rd_same sm3 rd2, rfl, (ok2.val he2).symm⟩, _, _, rfl, (by show 2 ≤ sizeLine; decide), fun t3 nt3 => ?_⟩
      have hcv : V.int (if (e2 : Int) < (x.2 : Int) then (e2 : Int) else (x.2 : Int)) = V.int ((min x.2 e2 : Nat) : Int) := by
        congr 1
        split <;> omega
      dsimp only
      rw [hcv]
      have ntD : D ≠ t3 := ne_of_none hD nt3
      refine ⟨_, by rw [upd_ne ntD]; exact hD, by rw [List.length_map]; exact small_lt (by omega), (sm3.trans (same_new nt3)).own nD, rs ++ [t3], ?_, ?_, ?_⟩
      · rw [upd_same, List.map_append]
        rfl
      · rw [take_snoc hat]
        refine psnoc ?_ (pmapF (fun p kv e => ?_) hps)
        · rw [upd_ne ntD.symm, upd_same]
        · rw [upd_ne (ne_of e hD (fun z => nomatch z)), upd_ne (ne_of_none e nt3)]
          exact e
      · rw [List.length_append, hpl]
        rfl
    · obtain ⟨sm3, rs, hD, hps, hpl⟩ := hP
      rw [show (kvP ps).length = (kvP (both2 min ps qs)).length by unfold kvP; rw [List.length_map, List.length_map, both2_len keys], List.take_length] at hps
      have hc3 := sm3 _ _ hcf
      refine ⟨hc3, ?_⟩
      have smU := hun sm3
      have hDU : (upd H3 d (.dK (kvP ps))) D = some (.lst (rs.map V.ref)) := by rw [upd_ne hDc]; exact hD
      have hpU : Paired (fun p (kv : Key × V) => (upd H3 d (.dK (kvP ps))) p = some (.tup [kV kv.1, kv.2])) rs (kvP (both2 min ps qs)) := pmapF (fun p kv e => by rw [upd_ne (ne_of e hc3 (fun z => nomatch z))]; exact e) hps
      generalize upd H3 d (.dK (kvP ps)) = H5 at smU hDU hpU ⊢
      refine ⟨D, rs, _, rfl, SqL.of hDU, pmapF (fun p kv e => SqT.of e) hpU, fun sd nsd => ?_⟩
      rw [merge_newP (kvP (both2 min ps qs)) [] (kvP_nd okb), List.nil_append]
      exact q _ sd (smU.trans (same_new nsd)) (smU.free nsd) upd_same
theorem ok_l_joint (T : Tx K mg) : FnOk P w K mg base CX0 1 T.a_l_joint T.fd_l_joint P_l_joint spJoint := by
  refine T.F_l_joint.ok sc_l_joint (fun vs H Q E h => ?_) (fun cdv A outer s H vs Q E hr h => ?_)
  · obtain ⟨a, x, D, rfl, _⟩ := h
    rfl
  · obtain ⟨a, ⟨d, ps⟩, DL, rfl, ha, hA, hl, q⟩ := h
    have hu := hu_of hr
    refine ⟨_, (pss_one (ps_ret (pe_callTy (call_dictP rfl) (by rfl) T.m_dict (by decide +kernel) (pa_cons (pe_lock (pe_lc (own := [("_law_prime", 1)]) (g := gName 1) (tt := tYes) rfl sc_l_joint.nd (pi_keys (pe_ix ix_list (pv 0) pe_int (fun _ _ => rfl))) (blkOk_by (N := N_l_joint) (sc := defScope s_l_joint) (by decide +kernel)) (fun _ _ _ _ _ => pg_name (i := 1) sc_l_joint.nd rfl (Or.inr rfl)) (fun _ _ _ _ _ => pts_nil) (fun _ _ _ _ _ => (pe_tup (pa_cons (pv 1) (pa_cons (pe_callB (show CallR _ (.builtin "max") (rMax K) from cr_max rfl) (by rfl) T.m_max (by decide +kernel) (pa_cons (pe_lc (own := [("_law_one", 2)]) (g := gName 2) (tt := tYes) rfl sc_l_joint.nd (show PI _ _ _ (iList K (tVar 0)) from (pi_list (pv 0))) (blkOk_by (by rfl)) (fun _ _ _ _ _ => pg_name (i := 2) sc_l_joint.nd rfl (Or.inl rfl)) (fun _ _ _ _ _ => pts_nil) (fun _ _ _ _ _ => (pe_dget hu (pv 2) (pv 1) (fun _ _ => rfl)))) pa_nil)) pa_nil)))))) pa_nil)))), ?_⟩
    obtain ⟨hd, ok1⟩ : H d = some (.dK (kvP ps)) ∧ PowOk ps := hA _ List.mem_cons_self
    have okr : ∀ z ∈ DL.map (·.2), PowOk z := fun z hz => by
      obtain ⟨y, hy, rfl⟩ := List.mem_map.mp hz
      exact (hA y (List.mem_cons_of_mem _ hy)).2
    have okb := ok1.joint okr
    refine ⟨d, _, hd, trivial, fun od => ?_⟩
    have haf : (upd H d (.frz od (.dK (kvP ps)))) a = some (.lst (vP ((d, ps) :: DL))) := by
      rw [upd_ne (ne_of ha hd (fun z => nomatch z))]
      exact ha
    refine ⟨_, rfl, a, _, 0, .ref d, rfl, rfl, SqL.of haf, atI_nat (j := 0) rfl, d, od, rfl, .inl ⟨_, upd_same, fun D nD => ?_⟩⟩
    have rd1 : ∀ y ∈ (d, ps) :: DL, Rd (upd H d (.frz od (.dK (kvP ps)))) y.1 (.dK (kvP y.2)) := fun y hy => rd_lock (od := od) hd (hA y hy).1
    have hcf : (upd H d (.frz od (.dK (kvP ps)))) d = some (.frz od (.dK (kvP ps))) := upd_same
    have hun : ∀ {H' : Hp}, Same (upd H d (.frz od (.dK (kvP ps)))) H' → Same H (upd H' d (.dK (kvP ps))) := fun sm => same_unlock' hd sm
    generalize upd H d (.frz od (.dK (kvP ps))) = Hc at *
    have hDc : D ≠ d := fun e => by rw [e, hcf] at nD; cases nD
    refine lc_it walk_keys (fun j H3 => Same Hc H3 ∧ ∃ (rs : List Addr), H3 D = some (.lst (rs.map V.ref)) ∧ Paired (fun p (kv : Key × V) => H3 p = some (.tup [kV kv.1, kv.2])) rs ((kvP (jointP ps (DL.map (·.2)))).take j) ∧ rs.length = j)
        ⟨same_new nD, [], upd_same, .nil, rfl⟩ (fun j H3 _ hP => hP.1 _ _ hcf) (fun j x H3 H4 hj hP hY => ?_) (fun H3 hP => ?_)
    · obtain ⟨sm3, rs, hD, hps, hpl⟩ := hP
      obtain ⟨rfl, k2, v2, hkv2, rfl⟩ := hY
      obtain ⟨x, hx, rfl, rfl⟩ := kvP_get hkv2
      have hj7 : j < 7 := by
        have := (List.getElem?_eq_some_iff.mp hx).1
        rw [ok1.len] at this
        exact this
      obtain ⟨m, hm1, hm2, hm3⟩ := joint_at ok1 okr hx
      have hat := kvP_at hm1
      refine ⟨rfl, _, rfl, _, rfl, a, rfl, ⟨_, SqL.of (sm3 _ _ haf)⟩, fun D2 nD2 => ?_⟩
      have nDD : D ≠ D2 := ne_of_none hD nD2
      refine lc_list (K := K) (a := a) (xs := vP ((d, ps) :: DL)) (fun i H5 => Same H4 H5 ∧ ∃ ns : List Int, H5 D2 = some (.lst (ns.map V.int)) ∧ ns.length = i ∧ (∀ n ∈ ns, ∃ z ∈ ps :: DL.map (·.2), ∃ e : Nat, z[j]? = some (x.1, e) ∧ n = (e : Int)) ∧ ∀ (k : Nat) (y : AP), k < i → ((d, ps) :: DL)[k]? = some y → ∀ e : Nat, y.2[j]? = some (x.1, e) → (e : Int) ∈ ns)
        ⟨same_new nD2, [], upd_same, rfl, (fun _ h => nomatch h), fun k y hk _ _ _ => absurd hk (Nat.not_lt_zero _)⟩ (fun i H5 _ p => SqL.of (p.1 _ _ (sm3 _ _ haf))) (fun i v H5 hv p => ?_) (fun H5 p => ?_)
      · obtain ⟨sm5, ns, h2, hnl, hin, hev⟩ := p
        unfold vP at hv
        rw [List.getElem?_map] at hv
        obtain ⟨y, hy, rfl⟩ := Option.map_eq_some_iff.mp hv
        have hym := List.mem_of_getElem? hy
        have oky : PowOk y.2 := (hA y hym).2
        have hil := (List.getElem?_eq_some_iff.mp hy).1
        rw [List.length_cons] at hil
        obtain ⟨e, he⟩ := ok1.at oky hx
        refine ⟨rfl, _, rfl, _, rfl, y.1, .int (e : Int), rfl, .inl ⟨_, Sum.inl (x.1 : Int), rd_same (sm3.trans sm5) (rd1 y hym), rfl, (oky.val he).symm⟩, ?_⟩
        refine ⟨_, h2, by rw [List.length_map]; exact small_lt (by omega), sm5.own nD2, ns ++ [(e : Int)], ?_, ?_, fun n hn => ?_, fun k y' hk hy' e' he' => ?_⟩
        · rw [upd_same, List.map_append]
          rfl
        · rw [List.length_append, hnl]
          rfl
        · rcases List.mem_append.mp hn with hn | hn
          · exact hin n hn
          · rw [List.mem_singleton] at hn
            have : y.2 ∈ ps :: DL.map (·.2) := List.mem_map_of_mem (f := (·.2)) hym
            exact ⟨_, this, e, he, hn⟩
        · by_cases hki : k < i
          · exact List.mem_append_left _ (hev k y' hki hy' e' he')
          · obtain rfl : k = i := by omega
            rw [hy] at hy'
            injection hy' with hy'
            subst hy'
            rw [he] at he'
            injection he' with he'
            have : e = e' := congrArg Prod.snd he'
            rw [this]
            exact List.mem_append_right _ List.mem_cons_self
      · obtain ⟨sm5, ns, h2, hnl, hin, hev⟩ := p
        have hlen : (vP ((d, ps) :: DL)).length = DL.length + 1 := by unfold vP; rw [List.length_map, List.length_cons]
        rw [hlen] at hnl hev
        have hup : ∀ y ∈ ns, y ≤ (m : Int) := fun y hy => by
          obtain ⟨z, hz, e, he, rfl⟩ := hin y hy
          have := hm3 z hz e he
          omega
        have hmem : (m : Int) ∈ ns := by
          obtain ⟨z, hz, hz2⟩ := hm2
          have hz' : z ∈ ((d, ps) :: DL).map (·.2) := hz
          obtain ⟨y, hy, rfl⟩ := List.mem_map.mp hz'
          obtain ⟨k, hk, rfl⟩ := List.mem_iff_getElem.mp hy
          exact hev k _ (by rw [List.length_cons] at hk; exact hk) (List.getElem?_eq_getElem hk) m hz2
        refine ⟨D2, ns, rfl, SqL.of h2, by omega, fun mm hmm hmx => ?_⟩
        obtain rfl : mm = (m : Int) := Int.le_antisymm (hup mm hmm) (hmx _ hmem)
        have hD5 := sm5 _ _ hD
        have sm35 := sm3.trans sm5
        refine ⟨(by show 2 ≤ sizeLine; decide), fun t3 nt3 => ?_⟩
        have ntD : D ≠ t3 := ne_of_none hD5 nt3
        refine ⟨_, by rw [upd_ne ntD]; exact hD5, by rw [List.length_map]; exact small_lt (by omega), (sm35.trans (same_new nt3)).own nD, rs ++ [t3], ?_, ?_, ?_⟩
        · rw [upd_same, List.map_append]
          rfl
        · rw [take_snoc hat]
          refine psnoc ?_ (pmapF (fun p kv e => ?_) hps)
          · rw [upd_ne ntD.symm, upd_same]
          · have e5 := sm5 _ _ e
            rw [upd_ne (ne_of e5 hD5 (fun z => nomatch z)), upd_ne (ne_of_none e5 nt3)]
            exact e5
        · rw [List.length_append, hpl]
          rfl
    · obtain ⟨sm3, rs, hD, hps, hpl⟩ := hP
      rw [show (kvP ps).length = (kvP (jointP ps (DL.map (·.2)))).length by unfold kvP; rw [List.length_map, List.length_map, joint_len ok1 okr], List.take_length] at hps
      have hc3 := sm3 _ _ hcf
      refine ⟨hc3, ?_⟩
      have smU := hun sm3
      have hDU : (upd H3 d (.dK (kvP ps))) D = some (.lst (rs.map V.ref)) := by rw [upd_ne hDc]; exact hD
      have hpU : Paired (fun p (kv : Key × V) => (upd H3 d (.dK (kvP ps))) p = some (.tup [kV kv.1, kv.2])) rs (kvP (jointP ps (DL.map (·.2)))) := pmapF (fun p kv e => by rw [upd_ne (ne_of e hc3 (fun z => nomatch z))]; exact e) hps
      generalize upd H3 d (.dK (kvP ps)) = H5 at smU hDU hpU ⊢
      refine ⟨D, rs, _, rfl, SqL.of hDU, pmapF (fun p kv e => SqT.of e) hpU, fun sd nsd => ?_⟩
      rw [merge_newP (kvP (jointP ps (DL.map (·.2)))) [] (kvP_nd okb), List.nil_append]
      exact q _ sd (smU.trans (same_new nsd)) (smU.free nsd) upd_same
def WShuf (S C a l f : Addr) (L : List AR) (H : Hp) (m : Nat) (σ : L2.St) (H1 : Hp) : Prop := ∃ ls fs : List AR, m = ls.length ∧ σ = [some (.ref S), some (.ref a), some (.ref l), some (.ref f)] ∧ Mod S C H H1 ∧ StOk H1 S C ∧
  H1 l = some (.lst (vR ls)) ∧ H1 f = some (.lst (vR fs)) ∧ (fs ++ ls).Perm L
theorem vR_len (L : List AR) : (vR L).length = L.length := List.length_map _
theorem vR_at {L : List AR} {i : Nat} {x : AR} (h : L[i]? = some x) : (vR L)[i]? = some (.ref x.1) := by
  unfold vR
  rw [List.getElem?_map, h]
  rfl
theorem ok_l_shuffled (T : Tx K mg) : FnOk P w K mg base CX0 2 T.a_l_shuffled T.fd_l_shuffled P_l_shuffled spShuf := by
  refine T.F_l_shuffled.ok sc_l_shuffled (fun vs H Q E h => ?_) (fun cdv A outer s H vs Q E hr h => ?_)
  · obtain ⟨S, C, a, n, rfl, _⟩ := h
    rfl
  · obtain ⟨S, C, a, L, rfl, hst, hA, ha, aS, aC, hl, q⟩ := h
    refine ⟨_, (pss_cons (ps_par (i := 2) (j := 3) (by rfl) sc_l_shuffled.nd rfl rfl (by decide) rfl rfl (pa_cons (pe_callTy call_list_of (by rfl) T.m_list (by decide +kernel) (pa_cons (pv 1) pa_nil)) (pa_cons (pe_lst pa_nil) pa_nil)) (by rfl))
      (pss_cons (ps_while PassesOwn.never (pt_cmpR (op_neD hr.units) (pv 2) (pe_lst pa_nil) (nomark _))
       (pss_one (ps_expr (pe_bm PySem.F.plainAttrs_list PySem.F.slot_list_append PySem.F.type_list_append mt_append (pv 3) (pa_cons (pe_bm PySem.F.plainAttrs_list PySem.F.slot_list_pop PySem.F.type_list_pop mt_popAt (pv 2) (pa_cons (pe_call (ok_l_draw T) (hr.mono (by decide)) (by rfl) T.g_l_draw T.F_l_draw.kp T.b_l_draw .nil pass0 (pa_cons (pv 0) (pa_cons (pe_callB call_len_seq (by rfl) T.m_len (by decide +kernel) (pa_cons (pv 2) pa_nil)) pa_nil))) pa_nil)) pa_nil)))))
      (pss_one (ps_ret (pv 3))))), ?_⟩
    refine ⟨_, rfl, a, _, rfl, .inl (SqL.of ha), fun l nl => ?_⟩
    refine ⟨Nat.zero_le _, fun f nf => ?_⟩
    have nfl : f ≠ l := fun e => by rw [e, upd_same] at nf; cases nf
    have nf0 : H f = none := by rw [upd_ne nfl] at nf; exact nf
    have lS := hst.neS nl
    have lC := hst.neC nl
    have fS := hst.neS nf0
    have fC := hst.neC nf0
    refine ⟨_, _, rfl, WShuf S C a l f L H, ⟨L.length, L, [], rfl, rfl, (Mod.of (same_new nl)).own nf0, (hst.same (same_new nl)).same (same_new nf), by rw [upd_ne nfl.symm, upd_same], upd_same, .refl _⟩, fun m σ H1 hW => ?_⟩
    obtain ⟨ls, fs, rfl, rfl, m1, st1, hl1, hf1, pm⟩ := hW
    have hlen : fs.length + ls.length = L.length := by rw [← List.length_append]; exact pm.length_eq
    have okl : AllR H1 ls := fun y hy => (hA.mod m1 hst) y (pm.mem_iff.mp (List.mem_append_right _ hy))
    refine ⟨_, rfl, Nat.zero_le _, fun e ne => ?_⟩
    have hl2 : (upd H1 e (.lst [])) l = some (.lst (vR ls)) := same_new ne _ _ hl1
    have hf2 : (upd H1 e (.lst [])) f = some (.lst (vR fs)) := same_new ne _ _ hf1
    have m2 : Mod S C H (upd H1 e (.lst [])) := m1.trans (Mod.of (same_new ne))
    have st2 : StOk (upd H1 e (.lst [])) S C := st1.same (same_new ne)
    refine ⟨_, .list [], .lst (SqL.of hl2) (dp_rests (okl.same (same_new ne))), .lst (SqL.of upd_same) .nil, shaped_rests ls, shaped_rests [], _, rfl, ?_⟩
    rw [eqv_nil]
    by_cases hne : ls = []
    · rw [decide_eq_true hne]
      refine iteF ?_
      subst hne
      rw [List.append_nil] at pm
      exact ⟨_, rfl, q _ f fs m2 st2 nf0 hf2 pm⟩
    · rw [decide_eq_false hne]
      have hp : 0 < ls.length := List.length_pos_iff.mpr hne
      refine iteT ⟨fun σ' H' => ∃ m', m' < ls.length ∧ WShuf S C a l f L H m' σ' H', fun _ _ h => h, ?_⟩
      refine ⟨_, rfl, .inl ⟨rfl, _, SqL.of hf2⟩, _, rfl, .inl ⟨rfl, _, SqL.of hl2⟩, _, rfl, _, rfl, l, _, rfl, .inl (SqL.of hl2), S, C, _, rfl, by rw [vR_len]; omega, by rw [vR_len]; exact small_nat (by omega), st2, fun H3 d m3 st3 d0 d1 => ?_⟩
      rw [vR_len] at d1
      obtain ⟨j, v, ej, hj, hv⟩ := at_some d0 d1
      have hl3 := m3 _ _ hl2 lS lC
      have hf3 := m3 _ _ hf2 fS fC
      have hlf : l ≠ f := nfl.symm
      have hjl := (List.getElem?_eq_some_iff.mp hj).1
      refine ⟨l, _, d, j, .ref v.1, rfl, rfl, hl3, by omega, by omega, ?_, vR_at hj, ?_⟩
      · subst ej
        rw [vR_len, seqIndex_of d0 d1]
        rfl
      · refine ⟨f, _, .ref v.1, rfl, rfl, by rw [upd_ne nfl]; exact hf3, by rw [vR_len]; exact small_lt (by omega), ?_⟩
        refine ⟨(ls.eraseIdx j).length, by rw [List.length_eraseIdx, if_pos hjl]; omega, ls.eraseIdx j, fs ++ [v], rfl, rfl, ((m2.trans m3).own nl).own nf0, (st3.upd lS lC).upd fS fC, ?_, ?_, ?_⟩
        · rw [upd_ne hlf, upd_same]
          unfold vR
          rw [erase_map]
        · rw [upd_same]
          unfold vR
          rw [List.map_append]
          rfl
        · rw [List.append_assoc]
          exact ((List.Perm.refl fs).append (erase_perm hj)).trans pm
end
end K03
namespace K03
open PySem PySem.Spec PyProof.Rows L2 GL
section
variable {P : Program} {w : World} {K : PySem.W.Frag} {mg : Str → Option Value} {base : Heap}
theorem ok_l_folded (T : Tx K mg) : FnOk P w K mg base CX0 5 T.a_l_folded T.fd_l_folded P_l_folded spFold := by
  refine T.F_l_folded.ok sc_l_folded (fun vs H Q E h => ?_) (fun cdv A outer s H vs Q E hr h => ?_)
  · obtain ⟨a, L, D, rfl, _⟩ := h
    rfl
  · obtain ⟨a, L, D, rfl, ha, hA, hB, q⟩ := h
    refine ⟨_, (pss_cons (ps_set (i := 1) sc_l_folded.nd rfl (.inl rfl) (pe_tup (pa_cons pe_int (pa_cons pe_int pa_nil))))
      (pss_cons (ps_for PassesOwn.never rfl (pi_list (pv 0)) (pg_name (i := 2) sc_l_folded.nd rfl (.inl rfl))
       (pss_one (ps_set (i := 1) sc_l_folded.nd rfl (.inl rfl) (pe_ifExp (pt_cmpR op_isN (pv 1) pe_non (nomark _)) pe_non (pe_call (ok_both T) (hr.mono (by decide)) (by rfl) T.g_both T.F_both.kp T.b_both .nil pass0 (pa_cons (pv 1) (pa_cons (pv 2) pa_nil)))))))
      (pss_one (ps_ret (pv 1))))), ?_⟩
    refine ⟨(by show 2 ≤ sizeLine; decide), fun t0 nt0 => ?_⟩
    have st0 := same_new (o := .tup [.int 0, .int 1]) nt0
    refine ⟨_, rfl, a, rfl, ⟨_, SqL.of (st0 _ _ ha)⟩, for_list (K := K) (a := a) (xs := vR L) (fun i σ H1 => ∃ v u2, σ = [some (.ref a), some v, u2] ∧ Same H H1 ∧ JoinV H1 v (rR (L.take i)))
      ⟨_, none, rfl, st0, .inr ⟨t0, 0, rfl, ⟨upd_same, by decide, (by show (0 : Int) < 1; decide), (by show (1 : Nat) < 2 ^ 4000; exact Nat.one_lt_two_pow (by decide))⟩, fun _ h => nomatch h⟩⟩ (fun i σ H1 _ hP => let ⟨_, _, _, sm, _⟩ := hP; SqL.of (sm _ _ ha)) (fun i x σ H1 hx hP => ?_) (fun σ H1 hP => ?_)⟩
    · obtain ⟨v, u2, rfl, sm, hJ⟩ := hP
      unfold vR at hx
      rw [List.getElem?_map] at hx
      obtain ⟨y, hy, rfl⟩ := Option.map_eq_some_iff.mp hx
      have hym := List.mem_of_getElem? hy
      have hry := (hA y hym).same sm
      have ht : rR (L.take (i + 1)) = rR (L.take i) ++ [y.2] := by
        rw [take_snoc hy]
        unfold rR
        rw [List.map_append]
        rfl
      have hpos : ∀ (M : List AR), (∀ z ∈ M, z ∈ L) → ∀ p ∈ rR M, 0 < p.2 := fun M hM p hp => by
        obtain ⟨z, hz, rfl⟩ := List.mem_map.mp hp
        have := (hA z (hM z hz)).pos
        omega
      have hb2 : Below D (rR (L.take i) ++ [y.2]) := by
        rw [← ht]
        exact ⟨hB.1, hB.2.1, fun p hp => hB.2.2 p (by obtain ⟨z, hz, rfl⟩ := List.mem_map.mp hp; exact List.mem_map_of_mem (List.mem_of_mem_take hz))⟩
      rw [ht]
      have hp1 := hpos (L.take i) fun z hz => List.mem_of_mem_take hz
      rcases hJ with ⟨rfl, hn⟩ | ⟨t, x, rfl, R, sv⟩
      · refine ⟨_, rfl, rfl, _, rfl, ?_⟩
        exact iteT ⟨_, _, rfl, sm, join_none (.inl hn)⟩
      · refine ⟨_, rfl, rfl, _, rfl, ?_⟩
        refine iteF ⟨_, rfl, _, rfl, ?_⟩
        have hj := join_one hry
        obtain ⟨_, h⟩ | ⟨u, z, e, S, sz⟩ := hj
        · exact absurd (agree_one _) h
        · have e2 := V.ref.inj e
          subst e2
          dsimp only [tNil, List.nil_append, List.cons_append]
          refine join_both R S sv sz hb2 hp1 (fun p hp => ?_) fun H' v s2 hJ => ⟨_, _, rfl, sm.trans s2, hJ⟩
          rw [List.mem_singleton.mp hp]
          have := hry.pos
          omega
    · obtain ⟨v, u2, rfl, sm, hJ⟩ := hP
      rw [vR_len, List.take_length] at hJ
      exact ⟨_, rfl, q _ _ sm hJ⟩
theorem rr_pos {H : Hp} {L : List AR} (h : AllR H L) : ∀ p ∈ rR L, 0 < p.2 := fun p hp => by
  obtain ⟨z, hz, rfl⟩ := List.mem_map.mp hp
  have := (h z hz).pos
  omega
theorem ok_l_by_halvesN (T : Tx K mg) : ∀ n : Nat, FnOk P w K mg base CX0 (n + 5) T.a_l_by_halves T.fd_l_by_halves P_l_by_halves (spHalves n)
  | 0 => by
    refine T.F_l_by_halves.ok sc_l_by_halves (fun vs H Q E h => ?_) (fun cdv A outer s H vs Q E hr h => ?_)
    · obtain ⟨a, L, D, rfl, _⟩ := h
      rfl
    · obtain ⟨a, L, D, rfl, ha, l0, l1, l100, hA, hB, q⟩ := h
      have ih : FnOk P w K mg base CX0 4 T.a_l_by_halves T.fd_l_by_halves P_l_by_halves (fun vs _ _ _ => vs.length = P_l_by_halves.length ∧ False) := ⟨fun _ _ _ _ h => h.1, fun _ _ _ _ _ _ _ _ _ _ _ _ _ h => h.2.elim⟩
      refine ⟨_, (pss_cons (ps_if (pt_cmpR op_eq (pe_callB call_len_seq (by rfl) T.m_len (by decide +kernel) (pa_cons (pv 0) pa_nil)) pe_int (nomark _))
       (pss_one (ps_ret (pe_ix ix_list (pv 0) pe_int (fun _ _ => rfl))))
       pss_nil)
      (pss_cons (ps_set (i := 1) sc_l_by_halves.nd rfl (.inl rfl) (pe_op op_fdiv (pe_callB call_len_seq (by rfl) T.m_len (by decide +kernel) (pa_cons (pv 0) pa_nil)) pe_int))
      (pss_cons (ps_par (i := 2) (j := 3) (by rfl) sc_l_by_halves.nd rfl rfl (by decide) rfl rfl (pa_cons (pe_call ih (hr.mono (by omega)) (by rfl) T.g_l_by_halves T.F_l_by_halves.kp T.b_l_by_halves .nil pass0 (pa_cons (pe_slice sl_list (pv 0) po_none (po_some (pv 1))) pa_nil)) (pa_cons (pe_call ih (hr.mono (by omega)) (by rfl) T.g_l_by_halves T.F_l_by_halves.kp T.b_l_by_halves .nil pass0 (pa_cons (pe_slice sl_list (pv 0) (po_some (pv 1)) po_none) pa_nil)) pa_nil)) (by rfl))
      (pss_one (ps_ret (pe_ifExp (PW.pt (pw_or (pt_cmpR op_isN (pv 2) pe_non (nomark _)) (pw_or1 (pt_cmpR op_isN (pv 3) pe_non (nomark _))))) pe_non (pe_call (ok_both T) (hr.mono (by omega)) (by rfl) T.g_both T.F_both.kp T.b_both .nil pass0 (pa_cons (pv 2) (pa_cons (pv 3) pa_nil))))))))), ?_⟩
      obtain ⟨y, rfl⟩ : ∃ y, L = [y] := by
        match L, l0, l1 with
        | [y], _, _ => exact ⟨y, rfl⟩
      have hone : ∀ (z : Int), V.int z = V.int 1 ↔ z = 1 := fun z => ⟨fun e => by injection e, fun e => by rw [e]⟩
      refine ⟨_, rfl, a, _, rfl, .inl (SqL.of ha), rfl, _, rfl, ?_⟩
      show if decide (V.int 1 = V.int 1) = true then _ else _
      rw [decide_eq_true rfl]
      refine iteT ⟨_, rfl, a, _, 0, .ref y.1, rfl, rfl, SqL.of ha, atI_nat (j := 0) rfl, ?_⟩
      exact q H _ (fun _ _ h => h) (join_one (hA y List.mem_cons_self))
  | n + 1 => by
    have ih := ok_l_by_halvesN T n
    refine T.F_l_by_halves.ok sc_l_by_halves (fun vs H Q E h => ?_) (fun cdv A outer s H vs Q E hr h => ?_)
    · obtain ⟨a, L, D, rfl, _⟩ := h
      rfl
    · obtain ⟨a, L, D, rfl, ha, l0, l1, l100, hA, hB, q⟩ := h
      refine ⟨_, (pss_cons (ps_if (pt_cmpR op_eq (pe_callB call_len_seq (by rfl) T.m_len (by decide +kernel) (pa_cons (pv 0) pa_nil)) pe_int (nomark _))
       (pss_one (ps_ret (pe_ix ix_list (pv 0) pe_int (fun _ _ => rfl))))
       pss_nil)
      (pss_cons (ps_set (i := 1) sc_l_by_halves.nd rfl (.inl rfl) (pe_op op_fdiv (pe_callB call_len_seq (by rfl) T.m_len (by decide +kernel) (pa_cons (pv 0) pa_nil)) pe_int))
      (pss_cons (ps_par (i := 2) (j := 3) (by rfl) sc_l_by_halves.nd rfl rfl (by decide) rfl rfl (pa_cons (pe_call ih (hr.mono (by omega)) (by rfl) T.g_l_by_halves T.F_l_by_halves.kp T.b_l_by_halves .nil pass0 (pa_cons (pe_slice sl_list (pv 0) po_none (po_some (pv 1))) pa_nil)) (pa_cons (pe_call ih (hr.mono (by omega)) (by rfl) T.g_l_by_halves T.F_l_by_halves.kp T.b_l_by_halves .nil pass0 (pa_cons (pe_slice sl_list (pv 0) (po_some (pv 1)) po_none) pa_nil)) pa_nil)) (by rfl))
      (pss_one (ps_ret (pe_ifExp (PW.pt (pw_or (pt_cmpR op_isN (pv 2) pe_non (nomark _)) (pw_or1 (pt_cmpR op_isN (pv 3) pe_non (nomark _))))) pe_non (pe_call (ok_both T) (hr.mono (by omega)) (by rfl) T.g_both T.F_both.kp T.b_both .nil pass0 (pa_cons (pv 2) (pa_cons (pv 3) pa_nil))))))))), ?_⟩
      by_cases h1 : L.length = 1
      · obtain ⟨y, rfl⟩ : ∃ y, L = [y] := List.length_eq_one_iff.mp h1
        have hone : ∀ (z : Int), V.int z = V.int 1 ↔ z = 1 := fun z => ⟨fun e => by injection e, fun e => by rw [e]⟩
        refine ⟨_, rfl, a, _, rfl, .inl (SqL.of ha), rfl, _, rfl, ?_⟩
        show if decide (V.int 1 = V.int 1) = true then _ else _
        rw [decide_eq_true rfl]
        refine iteT ⟨_, rfl, a, _, 0, .ref y.1, rfl, rfl, SqL.of ha, atI_nat (j := 0) rfl, ?_⟩
        exact q H _ (fun _ _ h => h) (join_one (hA y List.mem_cons_self))
      · refine ⟨_, rfl, a, _, rfl, .inl (SqL.of ha), rfl, _, rfl, ?_⟩
        rw [decide_eq_false (fun e => h1 (by rw [vR_len] at e; injection e with e; omega))]
        refine iteF ?_
        refine ⟨_, rfl, a, _, rfl, .inl (SqL.of ha), _, _, rfl, rfl, ⟨by decide, by decide⟩, ?_⟩
        obtain ⟨k, hk, k0, k1⟩ : ∃ k : Nat, ((vR L).length : Int) / 2 = (k : Int) ∧ 0 < k ∧ k < L.length := ⟨L.length / 2, by rw [vR_len]; omega, by omega, by omega⟩
        dsimp only
        rw [hk]
        have hRL : rR L = rR (L.take k) ++ rR (L.drop k) := by
          unfold rR
          rw [← List.map_append, List.take_append_drop]
        rw [hRL] at hB q
        have lt1 : (L.take k).length = k := by rw [List.length_take]; omega
        have lt2 : (L.drop k).length = L.length - k := List.length_drop
        have hA1 : AllR H (L.take k) := fun z hz => hA z (List.mem_of_mem_take hz)
        have hA2 : AllR H (L.drop k) := fun z hz => hA z (List.mem_of_mem_drop hz)
        refine ⟨_, rfl, _, rfl, _, rfl, a, _, rfl, SqL.of ha, fun p1 n1 => ?_⟩
        rw [cut_take]
        rw [show (vR L).take k = vR (L.take k) from List.map_take.symm]
        have s1 := same_new (o := .lst (vR (L.take k))) n1
        refine ⟨p1, L.take k, D, rfl, upd_same, by omega, by omega, by omega, hA1.same s1, below_left hB, fun H2 v1 s2 J1 => ?_⟩
        have s12 := s1.trans s2
        refine ⟨_, rfl, _, rfl, _, rfl, a, _, rfl, SqL.of (s12 _ _ ha), fun p2 n2 => ?_⟩
        rw [cut_drop]
        rw [show (vR L).drop k = vR (L.drop k) from List.map_drop.symm]
        have s3 := same_new (o := .lst (vR (L.drop k))) n2
        refine ⟨p2, L.drop k, D, rfl, upd_same, by omega, by omega, by omega, hA2.same (s12.trans s3), below_right hB, fun H4 v2 s4 J2 => ?_⟩
        have s34 := s3.trans s4
        have sm := s12.trans s34
        have J1 := J1.same s34
        have hp1 := rr_pos hA1
        have hp2 := rr_pos hA2
        refine ⟨_, _, rfl, ?_⟩
        rcases J1 with ⟨rfl, hn⟩ | ⟨t, x, rfl, R, sx⟩
        · refine ⟨_, rfl, rfl, _, rfl, ?_⟩
          exact iteT (iteT (q H4 _ sm (join_none (.inl hn))))
        · refine ⟨_, rfl, rfl, _, rfl, ?_⟩
          refine iteF ?_
          rcases J2 with ⟨rfl, hn⟩ | ⟨u, y, rfl, S, sy⟩
          · refine ⟨_, rfl, rfl, _, rfl, ?_⟩
            exact iteT (q H4 _ sm (join_none (.inr hn)))
          · refine ⟨_, rfl, rfl, _, rfl, ?_⟩
            refine iteF ⟨_, rfl, _, rfl, ?_⟩
            dsimp only [tNil, List.nil_append, List.cons_append]
            exact join_both R S sx sy hB hp1 hp2 fun H' v s5 hJ => q H' v (sm.trans s5) hJ
theorem ok_l_by_halves (T : Tx K mg) : FnOk P w K mg base CX0 10 T.a_l_by_halves T.fd_l_by_halves P_l_by_halves (spHalves 5) := ok_l_by_halvesN T 5
end
end K03
namespace K03
open PySem PySem.Spec PyProof.Rows L2 GL
section
variable {P : Program} {w : World} {K : PySem.W.Frag} {mg : Str → Option Value} {base : Heap}
theorem ok_l_agrees (T : Tx K mg) : FnOk P w K mg base CX0 5 T.a_l_agrees T.fd_l_agrees P_l_agrees spAgrees := by
  refine T.F_l_agrees.ok sc_l_agrees (fun vs H Q E h => ?_) (fun cdv A outer s H vs Q E hr h => ?_)
  · obtain ⟨t, a, L, x, m, rfl, _⟩ := h
    rfl
  · obtain ⟨t, a, L, x, m, rfl, R, ha, hA, sv, q⟩ := h
    refine ⟨_, (pss_cons (ps_if (PW.pt (pw_or (pt_not (pt_val (pe_callB call_isi (by rfl) T.m_isinstance (by decide +kernel) (pa_cons (pv 0) (pa_cons (pe_bltn (v := .ty "tuple") (by rfl) T.m_tuple (by decide +kernel) rfl) pa_nil))))) (pw_or1 (pt_cmpR op_ne (pe_callB call_len_seq (by rfl) T.m_len (by decide +kernel) (pa_cons (pv 0) pa_nil)) pe_int (nomark _)))))
       (pss_one (ps_ret pe_bl))
       pss_nil)
      (pss_cons (ps_asg (pv 0) (pg_tup (by rfl) (pgs_cons (pg_name (i := 3) sc_l_agrees.nd rfl (.inr rfl)) (pgs_cons (pg_name (i := 4) sc_l_agrees.nd rfl (.inl rfl)) pgs_nil))))
      (pss_cons (ps_if (PW.pt (pw_or (pt_cmpR op_ne (pv 4) (pv 2) (nomark _)) (pw_or (pt_not (pt_chain op_le op_lt pe_int (pv 3) (pv 2))) (pw_or1 (pt_cmpR op_ne (pe_call (ok_least T) (hr.mono (by decide)) (by rfl) T.g_least T.F_least.kp T.b_least .nil pass0 (pa_cons (pv 0) pa_nil)) (pv 3) (nomark _))))))
       (pss_one (ps_ret pe_bl))
       pss_nil)
      (pss_one (ps_ret (pe_cmpR (op_eqD hr.units) (pe_lc (own := [("_law_one", 5)]) (g := gName 5)  rfl sc_l_agrees.nd (pi_list (pv 1)) (blkOk_by (N := N_l_agrees) (sc := defScope s_l_agrees) (by decide +kernel)) (fun _ _ _ _ _ => pg_name (i := 5) sc_l_agrees.nd rfl (Or.inl rfl)) (fun _ _ _ _ _ => pts_one (pt_cmpR op_ne (pe_op op_mod (pv 3) (pe_ix (show IxR _ (rIxT K) from ix_tup) (pv 5) pe_int (fun _ _ => rfl))) (pe_ix (show IxR _ (rIxT K) from ix_tup) (pv 5) pe_int (fun _ _ => rfl)) (nomark _))) (fun _ _ _ _ _ => (pv 5))) (pe_lst pa_nil) (nomark _))))))), ?_⟩
    refine ⟨_, rfl, _, _, _, _, true, rfl, .ty _, .base (.tup R.at'), kit_ty (by decide +kernel), true, rfl, ?_⟩
    refine iteF ⟨_, rfl, t, _, rfl, .inr (SqT.of R.at'), rfl, _, rfl, ?_⟩
    refine iteF ?_
    refine ⟨_, rfl, t, _, rfl, SqT.of R.at', rfl, _, _, rfl, _, _, rfl, rfl, ?_⟩
    refine ⟨_, rfl, _, rfl, rfl, _, rfl, ?_⟩
    rw [decide_eq_true rfl]
    refine iteF ?_
    have x0 := R.r0
    have x1 := R.rm
    refine ⟨_, rfl, _, _, rfl, rfl, _, rfl, ?_⟩
    rw [decide_eq_true x0]
    refine iteT ⟨_, rfl, _, _, rfl, rfl, _, rfl, ?_⟩
    rw [decide_eq_true x1]
    refine iteF ?_
    refine ⟨_, rfl, t, x, _, rfl, R, _, rfl, rfl, _, rfl, ?_⟩
    rw [decide_eq_true rfl]
    refine iteF ?_
    refine ⟨_, rfl, a, rfl, ⟨_, SqL.of ha⟩, fun D nD => ?_⟩
    refine lc_list (K := K) (a := a) (xs := vR L) (fun i H1 => Same H H1 ∧ H1 D = some (.lst [])) ⟨same_new nD, upd_same⟩ (fun i H1 _ p => SqL.of (p.1 _ _ ha)) (fun k v H1 hv p => ?_) (fun H1 p => ?_)
    · unfold vR at hv
      rw [List.getElem?_map] at hv
      obtain ⟨y, hy, rfl⟩ := Option.map_eq_some_iff.mp hv
      have hym := List.mem_of_getElem? hy
      have Ry := (hA y hym).same p.1
      have hs := sv y.2 (List.mem_map_of_mem hym)
      refine ⟨rfl, _, rfl, _, rfl, y.1, _, 1, .int (y.2.2 : Int), rfl, rfl, SqT.of Ry.at', atI_nat (j := 1) rfl, _, _, rfl, rfl, Ry.pos, _, rfl, y.1, _, 0, .int y.2.1, rfl, rfl, SqT.of Ry.at', atI_nat (j := 0) rfl, rfl, _, rfl, ?_⟩
      rw [decide_eq_true (congrArg V.int hs)]
      exact iteF p
    · obtain ⟨sm, hD⟩ := p
      refine ⟨Nat.zero_le _, fun l nl => ?_⟩
      have sl := same_new (o := .lst []) nl
      refine ⟨_, _, .lst (SqL.of (sl _ _ hD)) .nil, .lst (SqL.of upd_same) .nil, shapedi_list [], shapedi_list [], ?_⟩
      rw [show PyData.eqv (.list []) (.list []) = true from (eqvi_lists [] []).trans (decide_eq_true rfl)]
      exact q _ (sm.trans sl)
theorem solve_join {H : Hp} {v : V} {L : List AR} (h : JoinV H v (rR L)) : (v = .non ∧ ¬ Agree (rR L)) ∨ (Agree (rR L) ∧ ∃ t x, v = .ref t ∧ RestAt H t x (lcmR (rR L) : Nat) ∧ Solves x (rR L)) := by
  rcases h with h | ⟨t, x, e, R, sx⟩
  · exact .inl h
  · exact .inr ⟨agree_of sx, t, x, e, R, sx⟩
theorem ok_l_told_right (T : Tx K mg) : FnOk P w K mg base CX0 12 T.a_l_told_right T.fd_l_told_right P_l_told_right spToldR := by
  refine T.F_l_told_right.ok sc_l_told_right (fun vs H Q E h => ?_) (fun cdv A outer s H vs Q E hr h => ?_)
  · obtain ⟨a, L, D, b, rfl, _⟩ := h
    rfl
  · obtain ⟨a, L, D, b, rfl, ha, l0, l6, hA, hB, hag, q⟩ := h
    refine ⟨_, (pss_cons (ps_for PassesOwn.never rfl (pi_list (pe_lst (pa_cons (pe_call (ok_l_folded T) (hr.mono (by decide)) (by rfl) T.g_l_folded T.F_l_folded.kp T.b_l_folded .nil pass0 (pa_cons (pv 0) pa_nil)) (pa_cons (pe_call (ok_l_by_halves T) (hr.mono (by decide)) (by rfl) T.g_l_by_halves T.F_l_by_halves.kp T.b_l_by_halves .nil pass0 (pa_cons (pv 0) pa_nil)) pa_nil)))) (pg_name (i := 3) sc_l_told_right.nd rfl (.inl rfl))
       (pss_one (ps_if (PW.pt (pw_or (pt_cmpR op_ne (pe_cmpR op_notN (pv 3) pe_non (nomark _)) (pv 2) (nomark _)) (pw_or1 (PW.pt (pw_and (pt_val (pv 2)) (pw_and1 (pt_not (pt_val (pe_call (ok_l_agrees T) (hr.mono (by decide)) (by rfl) T.g_l_agrees T.F_l_agrees.kp T.b_l_agrees .nil pass0 (pa_cons (pv 3) (pa_cons (pv 0) (pa_cons (pv 1) pa_nil))))))))))))
         (pss_one (ps_ret pe_bl))
         pss_nil)))
      (pss_one (ps_ret pe_bl))), ?_⟩
    refine ⟨_, rfl, a, L, D, rfl, ha, hA, hB, fun H1 v1 s1 J1 => ?_⟩
    refine ⟨_, rfl, a, L, D, rfl, s1 _ _ ha, l0, by omega, by omega, hA.same s1, hB, fun H2 v2 s2 J2 => ?_⟩
    have J1 := J1.same s2
    have s12 := s1.trans s2
    refine ⟨(by show 2 ≤ sizeLine; decide), fun p np => ?_⟩
    have s3 := same_new (o := .lst [v1, v2]) np
    have hp := upd_of (o := .lst [v1, v2]) np
    refine ⟨p, rfl, ⟨_, SqL.of hp⟩, for_list (K := K) (a := p) (xs := [v1, v2]) (fun i σ H3 => ∃ u, σ = [some (.ref a), some (.int (lcmR (rR L) : Nat)), some (.bl b), u] ∧ Same (upd H2 p (.lst [v1, v2])) H3)
      ⟨none, rfl, fun _ _ h => h⟩ (fun i σ H3 _ hP => let ⟨_, _, sm⟩ := hP; SqL.of (sm _ _ hp)) (fun i v σ H3 hv hP => ?_) (fun σ H3 hP => ?_)⟩
    · obtain ⟨u, rfl, sm⟩ := hP
      have J : JoinV H3 v (rR L) := by
        rcases i with _ | _ | i
        · injection hv with hv
          rw [← hv]
          exact J1.same (s3.trans sm)
        · injection hv with hv
          rw [← hv]
          exact J2.same (s3.trans sm)
        · cases hv
      have sall := (s12.trans s3).trans sm
      have hv1 := hv
      clear hv J1 J2
      rcases solve_join J with ⟨rfl, hn⟩ | ⟨hy, t, x, rfl, R, sx⟩
      · have hb : b = false := by
          cases b with
          | true => exact absurd (hag.mp rfl) hn
          | false => rfl
        subst hb
        refine ⟨_, rfl, rfl, _, rfl, rfl, _, rfl, ?_⟩
        refine iteF ?_
        refine ⟨_, rfl, _, rfl, ?_⟩
        refine iteF ?_
        exact iteF ⟨_, rfl, sm⟩
      · have hb : b = true := hag.mpr hy
        subst hb
        refine ⟨_, rfl, rfl, _, rfl, rfl, _, rfl, ?_⟩
        refine iteF ?_
        refine ⟨_, rfl, _, rfl, ?_⟩
        refine iteT ?_
        refine ⟨_, rfl, _, rfl, _, rfl, t, a, L, x, _, rfl, R, sall _ _ ha, hA.same sall, sx, fun H4 s4 => ?_⟩
        refine ⟨_, rfl, ?_⟩
        exact iteF ⟨_, rfl, sm.trans s4⟩
    · obtain ⟨u, rfl, sm⟩ := hP
      exact q _ ((s12.trans s3).trans sm)
end
end K03
namespace K03
open PySem PySem.Spec PyProof.Rows L2 GL
section
variable {P : Program} {w : World} {K : PySem.W.Frag} {mg : Str → Option Value} {base : Heap}
theorem vP_at {L : List AP} {i : Nat} {x : AP} (h : L[i]? = some x) : (vP L)[i]? = some (.ref x.1) := by
  unfold vP
  rw [List.getElem?_map, h]
  rfl
theorem ints_at {L : List Int} {i : Nat} {x : Int} (h : L[i]? = some x) : (L.map V.int)[i]? = some (.int x) := by
  rw [List.getElem?_map, h]
  rfl
theorem ok_l_pairs (T : Tx K mg) : FnOk P w K mg base CX0 8 T.a_l_pairs T.fd_l_pairs P_l_pairs spPairs := by
  refine T.F_l_pairs.ok sc_l_pairs (fun vs H Q E h => ?_) (fun cdv A outer s H vs Q E hr h => ?_)
  · obtain ⟨a, p, n, L, D, N, rfl, _⟩ := h
    rfl
  · obtain ⟨a, p, n, L, D, N, rfl, ha, hp, hn, hA, hD, lk, l6, q⟩ := h
    refine ⟨_, (pss_cons (ps_set (i := 3) sc_l_pairs.nd rfl (.inl rfl) pe_bl)
      (pss_cons (ps_for PassesOwn.never rfl (pi_enum (by rfl) T.m_enumerate (pa_cons (pv 0) pa_nil)) (pg_tup (by rfl) (pgs_cons (pg_name (i := 4) sc_l_pairs.nd rfl (.inl rfl)) (pgs_cons (pg_name (i := 5) sc_l_pairs.nd rfl (.inl rfl)) pgs_nil)))
       (pss_one (ps_for PassesOwn.never rfl (pi_enum (by rfl) T.m_enumerate (pa_cons (pv 0) pa_nil)) (pg_tup (by rfl) (pgs_cons (pg_name (i := 6) sc_l_pairs.nd rfl (.inl rfl)) (pgs_cons (pg_name (i := 7) sc_l_pairs.nd rfl (.inl rfl)) pgs_nil)))
         (pss_cons (ps_set (i := 8) sc_l_pairs.nd rfl (.inl rfl) (pe_call (ok_l_product T) (hr.mono (by decide)) (by rfl) T.g_l_product T.F_l_product.kp T.b_l_product .nil pass0 (pa_cons (pe_call (ok_l_shared T) (hr.mono (by decide)) (by rfl) T.g_l_shared T.F_l_shared.kp T.b_l_shared .nil pass0 (pa_cons (pe_ix ix_list (pv 1) (pv 4) (fun _ _ => rfl)) (pa_cons (pe_ix ix_list (pv 1) (pv 6) (fun _ _ => rfl)) pa_nil))) pa_nil)))
          (pss_cons (ps_set (i := 9) sc_l_pairs.nd rfl (.inl rfl) (pe_call (ok_l_product T) (hr.mono (by decide)) (by rfl) T.g_l_product T.F_l_product.kp T.b_l_product .nil pass0 (pa_cons (pe_call (ok_l_joint T) (hr.mono (by decide)) (by rfl) T.g_l_joint T.F_l_joint.kp T.b_l_joint .nil pass0 (pa_cons (pe_lst (pa_cons (pe_ix ix_list (pv 1) (pv 4) (fun _ _ => rfl)) (pa_cons (pe_ix ix_list (pv 1) (pv 6) (fun _ _ => rfl)) pa_nil))) pa_nil)) pa_nil)))
          (pss_cons (ps_par (i := 10) (j := 11) (by rfl) sc_l_pairs.nd rfl rfl (by decide) rfl rfl (pa_cons (pe_cmpR op_eq (pe_op op_mod (pe_op op_sub (pe_ix ix_list (pv 2) (pv 6) (fun _ _ => rfl)) (pe_ix ix_list (pv 2) (pv 4) (fun _ _ => rfl))) (pv 8)) pe_int (nomark _)) (pa_cons (pe_call (ok_both T) (hr.mono (by decide)) (by rfl) T.g_both T.F_both.kp T.b_both .nil pass0 (pa_cons (pv 5) (pa_cons (pv 7) pa_nil))) pa_nil)) (by rfl))
          (pss_cons (ps_if (PW.pt (pw_or (pt_cmpR op_ne (pe_cmpR op_notN (pv 11) pe_non (nomark _)) (pv 10) (nomark _)) (pw_or1 (PW.pt (pw_and (pt_val (pv 10)) (pw_and1 (pt_not (pt_val (pe_call (ok_l_agrees T) (hr.mono (by decide)) (by rfl) T.g_l_agrees T.F_l_agrees.kp T.b_l_agrees .nil pass0 (pa_cons (pv 11) (pa_cons (pe_lst (pa_cons (pv 5) (pa_cons (pv 7) pa_nil))) (pa_cons (pv 9) pa_nil))))))))))))
           (pss_one (ps_ret pe_non))
           pss_nil)
          (pss_one (ps_set (i := 3) sc_l_pairs.nd rfl (.inl rfl) (pe_and (pv 3) (pe_one (pv 10))))))))))))
      (pss_one (ps_ret (pv 3))))), ?_⟩
    refine ⟨_, rfl, a, _, rfl, SqL.of ha, ?_⟩
    refine for_it (walk_enum (K := K) (a := a) (xs := vR L)) (fun i σ H1 => (∃ b u4 u5 u6 u7 u8 u9 u10 u11, σ = [some (.ref a), some (.ref p), some (.ref n), some (.bl b), u4, u5, u6, u7, u8, u9, u10, u11] ∧ (b = true ↔ ∀ i', i' < i → ∀ j', AG L i' j')) ∧ Same H H1)
      ⟨⟨true, none, none, none, none, none, none, none, none, rfl, ⟨fun _ i' h => absurd h (Nat.not_lt_zero _), fun _ => rfl⟩⟩, fun _ _ h => h⟩ (fun i σ H1 _ hP => SqL.of (hP.2 _ _ ha)) (fun i x σ H1 H2 hi hP hY => ?_) (fun σ H1 hP => ?_)
    · obtain ⟨⟨b, u4, u5, u6, u7, u8, u9, u10, u11, rfl, hb⟩, sm1⟩ := hP
      obtain ⟨T2, x1, x2, rfl, nT, rfl, h1, h2⟩ := hY
      obtain rfl : V.int (i : Nat) = x1 := Option.some.inj h1
      rw [vR_len] at hi
      obtain ⟨y, hy⟩ : ∃ y, L[i]? = some y := ⟨_, List.getElem?_eq_getElem hi⟩
      obtain ⟨d1, hd1⟩ : ∃ y, D[i]? = some y := ⟨_, List.getElem?_eq_getElem (by have := lk.l1; omega)⟩
      obtain ⟨z1, hz1⟩ : ∃ y, N[i]? = some y := ⟨_, List.getElem?_eq_getElem (by have := lk.l1; have := lk.l2; omega)⟩
      have hv1 := lk.at' i y d1 z1 hy hd1 hz1
      obtain rfl : V.ref y.1 = x2 := by
        have h3 : (vR L)[i]? = some x2 := h2
        rw [vR_at hy] at h3
        exact Option.some.inj h3
      have smT := sm1.trans (same_new (o := .tup [.int (i : Nat), .ref y.1]) nT)
      refine ⟨T2, _, rfl, SqT.of upd_same, rfl, _, _, rfl, _, _, rfl, rfl, ?_⟩
      generalize upd H1 T2 (.tup [.int (i : Nat), .ref y.1]) = H2 at smT ⊢
      refine ⟨_, rfl, a, _, rfl, SqL.of (smT _ _ ha), ?_⟩
      refine for_it (walk_enum (K := K) (a := a) (xs := vR L)) (fun j σ H3 => (∃ b u6 u7 u8 u9 u10 u11, σ = [some (.ref a), some (.ref p), some (.ref n), some (.bl b), some (.int (i : Nat)), some (.ref y.1), u6, u7, u8, u9, u10, u11] ∧ (b = true ↔ (∀ i', i' < i → ∀ j', AG L i' j') ∧ ∀ j', j' < j → AG L i j')) ∧ Same H H3)
        ⟨⟨b, u6, u7, u8, u9, u10, u11, rfl, hb.trans ⟨fun h => ⟨h, fun j' h => absurd h (Nat.not_lt_zero _)⟩, fun h => h.1⟩⟩, smT⟩ (fun j σ H3 _ hP => SqL.of (hP.2 _ _ ha)) (fun j x σ H3 H4 hj hP hY => ?_) (fun σ H3 hP => ?_)
      · obtain ⟨⟨b, u6, u7, u8, u9, u10, u11, rfl, hb⟩, sm3⟩ := hP
        obtain ⟨T3, x1, x2, rfl, nT3, rfl, h1, h2⟩ := hY
        obtain rfl : V.int (j : Nat) = x1 := Option.some.inj h1
        rw [vR_len] at hj
        obtain ⟨z, hz⟩ : ∃ y, L[j]? = some y := ⟨_, List.getElem?_eq_getElem hj⟩
        obtain ⟨d2, hd2⟩ : ∃ y, D[j]? = some y := ⟨_, List.getElem?_eq_getElem (by have := lk.l1; omega)⟩
        obtain ⟨z2, hz2⟩ : ∃ y, N[j]? = some y := ⟨_, List.getElem?_eq_getElem (by have := lk.l1; have := lk.l2; omega)⟩
        have hv2 := lk.at' j z d2 z2 hz hd2 hz2
        obtain rfl : V.ref z.1 = x2 := by
          have h3 : (vR L)[j]? = some x2 := h2
          rw [vR_at hz] at h3
          exact Option.some.inj h3
        have sm4 := sm3.trans (same_new (o := .tup [.int (j : Nat), .ref z.1]) nT3)
        refine ⟨T3, _, rfl, SqT.of upd_same, rfl, _, _, rfl, _, _, rfl, rfl, ?_⟩
        generalize upd H3 T3 (.tup [.int (j : Nat), .ref z.1]) = H4 at sm4 ⊢
        have m1 := List.mem_of_getElem? hd1
        have m2 := List.mem_of_getElem? hd2
        obtain ⟨e1, ok1⟩ := (hD.same sm4) d1 m1
        obtain ⟨e2, ok2⟩ := (hD.same sm4) d2 m2
        have okm := ok1.both min20 ok2
        have keys := ok1.ks.trans ok2.ks.symm
        refine ⟨_, rfl, _, rfl, p, _, (i : Nat), .ref d1.1, rfl, rfl, SqL.of (sm4 _ _ hp), atI_nat (vP_at hd1), _, rfl, _, rfl, p, _, (j : Nat), .ref d2.1, rfl, rfl, SqL.of (sm4 _ _ hp), atI_nat (vP_at hd2), d1.1, d2.1, d1.2, d2.2, rfl, e1, e2, ok1, ok2, fun H5 c s5 nc hc => ?_⟩
        refine ⟨c, _, rfl, hc, okm, ?_⟩
        have sm5 := sm4.trans s5
        refine ⟨_, rfl, _, rfl, p, _, (i : Nat), .ref d1.1, rfl, rfl, SqL.of (sm5 _ _ hp), atI_nat (vP_at hd1), _, rfl, _, rfl, p, _, (j : Nat), .ref d2.1, rfl, rfl, SqL.of (sm5 _ _ hp), atI_nat (vP_at hd2), (by show 2 ≤ sizeLine; decide), fun l nl => ?_⟩
        have sm6 := sm5.trans (same_new (o := .lst [.ref d1.1, .ref d2.1]) nl)
        refine ⟨l, d1, [d2], rfl, upd_same, fun x hx => ?_, (by show 1 ≤ 100; decide), fun H7 c2 s7 nc2 hc2 => ?_⟩
        · rcases List.mem_cons.mp hx with rfl | hx
          · exact (hD.same sm6) _ m1
          · rw [List.mem_singleton.mp hx]
            exact (hD.same sm6) _ m2
        have okj : PowOk (jointP d1.2 ([d2].map (·.2))) := ok1.both max20 ok2
        refine ⟨c2, _, rfl, hc2, okj, ?_⟩
        have sm7 := sm6.trans s7
        have hpj : prodP (jointP d1.2 ([d2].map (·.2))) = lcmR [y.2, z.2] := by
          rw [lcm_two, hv1, hv2]
          exact prod_max keys ok1.co ok1.pos
        have hlt : lcmR [y.2, z.2] < 2 ^ 4000 := by rw [← hpj]; exact okj.lt
        have hgm : prodP (both2 min d1.2 d2.2) = Nat.gcd (prodP d1.2) (prodP d2.2) := prod_min _ _ keys ok1.co
        rw [hpj, hgm]
        have hR1 := (hA.same sm7) y (List.mem_of_getElem? hy)
        have hR2 := (hA.same sm7) z (List.mem_of_getElem? hz)
        have hg : (0 : Int) < (Nat.gcd (prodP d1.2) (prodP d2.2) : Nat) := by
          have := Nat.gcd_pos_of_pos_left (prodP d2.2) ok1.pos
          omega
        have hmeet : AgreeR y.2 z.2 ↔ (z2 - z1) % (Nat.gcd (prodP d1.2) (prodP d2.2) : Nat) = 0 := by
          rw [hv1, hv2]
          exact link_ag
        refine ⟨_, rfl, _, rfl, n, _, (j : Nat), .int z2, rfl, rfl, SqL.of (sm7 _ _ hn), atI_nat (ints_at hz2), _, rfl, _, rfl, n, _, (i : Nat), .int z1, rfl, rfl, SqL.of (sm7 _ _ hn), atI_nat (ints_at hz1), _, _, rfl, rfl, _, rfl, _, _, rfl, rfl, hg, rfl, _, rfl, _, rfl, ?_⟩
        have r1 : RestAt H7 y.1 y.2.1 (lcmR [y.2] : Nat) := by rw [show lcmR [y.2] = y.2.2 from Nat.lcm_one_right _]; exact hR1
        have r2 : RestAt H7 z.1 z.2.1 (lcmR [z.2] : Nat) := by rw [show lcmR [z.2] = z.2.2 from Nat.lcm_one_right _]; exact hR2
        have sv1 : Solves y.2.1 [y.2] := fun q hq => by rw [List.mem_singleton.mp hq]; exact Int.emod_eq_of_lt hR1.r0 hR1.rm
        have sv2 : Solves z.2.1 [z.2] := fun q hq => by rw [List.mem_singleton.mp hq]; exact Int.emod_eq_of_lt hR2.r0 hR2.rm
        have bel : Below (lcmR [y.2, z.2]) ([y.2] ++ [z.2]) := ⟨by rw [← hpj]; exact okj.pos, hlt, fun p hp => dvd_lcmL (List.mem_map_of_mem (f := (·.2)) hp)⟩
        have po1 : ∀ p ∈ [y.2], 0 < p.2 := fun p hp => by rw [List.mem_singleton.mp hp]; have := hR1.pos; omega
        have po2 : ∀ p ∈ [z.2], 0 < p.2 := fun p hp => by rw [List.mem_singleton.mp hp]; have := hR2.pos; omega
        obtain ⟨mt, hmt, hmb⟩ : ∃ mt, decide (V.int ((z2 - z1) % (Nat.gcd (prodP d1.2) (prodP d2.2) : Nat)) = V.int 0) = mt ∧ (mt = true ↔ AgreeR y.2 z.2) := ⟨_, rfl, by
          rw [decide_eq_true_iff, hmeet]
          exact ⟨fun e => by injection e, fun e => by rw [e]⟩⟩
        rw [hmt]
        dsimp only [tNil, List.nil_append, List.cons_append]
        refine join_both r1 r2 sv1 sv2 bel po1 po2 fun H8 v s8 J => ?_
        have J : JoinV H8 v (rR [y, z]) := J
        have sm8 := sm7.trans s8
        refine ⟨_, _, rfl, ?_⟩
        have hstep : ∀ b2 : Bool, (b2 = true ↔ (b = true ∧ AgreeR y.2 z.2)) → (b2 = true ↔ (∀ i', i' < i → ∀ j', AG L i' j') ∧ ∀ j', j' < j + 1 → AG L i j') := fun b2 h2 => by
          rw [h2, hb]
          constructor
          · rintro ⟨⟨h3, h4⟩, h5⟩
            refine ⟨h3, fun j' hj' => ?_⟩
            by_cases k : j' < j
            · exact h4 j' k
            · obtain rfl : j' = j := by omega
              intro y' z' hy' hz'
              rw [hy] at hy'; rw [hz] at hz'
              injection hy' with hy'; injection hz' with hz'
              rw [← hy', ← hz']
              exact h5
          · rintro ⟨h3, h4⟩
            exact ⟨⟨h3, fun j' h => h4 j' (by omega)⟩, h4 j (by omega) _ _ hy hz⟩
        rcases solve_join J with ⟨rfl, hn⟩ | ⟨hyes, t, x, rfl, R, sx⟩
        · obtain rfl : mt = false := by
            cases mt with
            | true => exact absurd (agree_two.mpr (hmb.mp rfl)) hn
            | false => rfl
          refine ⟨_, rfl, rfl, _, rfl, rfl, _, rfl, ?_⟩
          refine iteF ?_
          refine ⟨_, rfl, _, rfl, ?_⟩
          refine iteF ?_
          refine iteF ?_
          refine ⟨_, rfl, _, rfl, ?_⟩
          cases b with
          | true => exact iteT ⟨_, rfl, ⟨_, _, _, _, _, _, _, rfl, hstep _ ⟨fun h => (nomatch h), fun h => hmb.mpr h.2⟩⟩, sm8⟩
          | false => exact iteF ⟨⟨_, _, _, _, _, _, _, rfl, hstep _ ⟨fun h => (nomatch h), fun h => (nomatch h.1)⟩⟩, sm8⟩
        · obtain rfl : mt = true := hmb.mpr (agree_two.mp hyes)
          refine ⟨_, rfl, rfl, _, rfl, rfl, _, rfl, ?_⟩
          refine iteF ?_
          refine ⟨_, rfl, _, rfl, ?_⟩
          refine iteT ?_
          refine ⟨_, rfl, _, rfl, _, rfl, (by show 2 ≤ sizeLine; decide), fun l2 nl2 => ?_⟩
          have s9 := same_new (o := .lst [.ref y.1, .ref z.1]) nl2
          have hAll : AllR H8 [y, z] := fun x hx => by
            rcases List.mem_cons.mp hx with rfl | hx
            · exact hR1.same s8
            · rw [List.mem_singleton.mp hx]
              exact hR2.same s8
          refine ⟨_, rfl, t, l2, [y, z], x, _, rfl, R.same s9, upd_same, hAll.same s9, sx, fun H10 s10 => ?_⟩
          refine ⟨_, rfl, ?_⟩
          refine iteF ?_
          refine ⟨_, rfl, _, rfl, ?_⟩
          cases b with
          | true => exact iteT ⟨_, rfl, ⟨_, _, _, _, _, _, _, rfl, hstep _ ⟨fun _ => ⟨rfl, hmb.mp rfl⟩, fun _ => rfl⟩⟩, ((sm8.trans s9).trans s10)⟩
          | false => exact iteF ⟨⟨_, _, _, _, _, _, _, rfl, hstep _ ⟨fun h => (nomatch h), fun h => (nomatch h.1)⟩⟩, ((sm8.trans s9).trans s10)⟩
      · obtain ⟨⟨b, u6, u7, u8, u9, u10, u11, rfl, hb⟩, sm3⟩ := hP
        rw [vR_len] at hb
        refine ⟨⟨b, _, _, _, _, _, _, _, _, rfl, hb.trans ⟨fun h i' hi' j' => ?_, fun h => ⟨fun i' hi' => h i' (by omega), fun j' _ => h i (by omega) j'⟩⟩⟩, sm3⟩
        by_cases k : i' < i
        · exact h.1 i' k j'
        · obtain rfl : i' = i := by omega
          by_cases kj : j' < L.length
          · exact h.2 j' kj
          · intro y' z' _ hz'
            rw [List.getElem?_eq_none (by omega)] at hz'
            cases hz'
    · obtain ⟨⟨b, u4, u5, u6, u7, u8, u9, u10, u11, rfl, hb⟩, sm1⟩ := hP
      rw [vR_len] at hb
      exact ⟨_, rfl, q _ b sm1 (hb.trans ag_all)⟩
end
end K03
namespace K03
open PySem PySem.Spec PyProof.Rows L2 GL
section
variable {P : Program} {w : World} {K : PySem.W.Frag} {mg : Str → Option Value} {base : Heap}
theorem ok_has (T : Tx K mg) : FnOk P w K mg base CX0 4 T.a_has T.fd_has P_has spHas := by
  refine T.F_has.ok sc_has (fun vs H Q E h => ?_) (fun cdv A outer s H vs Q E hr h => ?_)
  · obtain ⟨t, r, m, z, rfl, _⟩ := h
    rfl
  · obtain ⟨t, r, m, z, rfl, R, q⟩ := h
    refine ⟨_, (pss_cons (ps_expr (pe_call (ok_check_rest T) (hr.mono (by decide)) (by rfl) T.g_check_rest T.F_check_rest.kp T.b_check_rest .nil pass0 (pa_cons (pv 0) pa_nil)))
      (pss_cons (ps_expr (pe_call (ok_check_number T) (hr.mono (by decide)) (by rfl) T.g_check_number T.F_check_number.kp T.b_check_number .nil pass0 (pa_cons (pv 1) pa_nil)))
      (pss_cons (ps_asg (pv 0) (pg_tup (by rfl) (pgs_cons (pg_name (i := 2) sc_has.nd rfl (.inl rfl)) (pgs_cons (pg_name (i := 3) sc_has.nd rfl (.inl rfl)) pgs_nil))))
      (pss_one (ps_ret (pe_cmpR op_eq (pe_op op_mod (pv 1) (pv 3)) (pv 2) (nomark _))))))), ?_⟩
    have hm := R.pos
    refine ⟨_, rfl, t, r, m, rfl, R, ?_⟩
    refine ⟨_, rfl, z, rfl, ?_⟩
    refine ⟨_, rfl, t, _, rfl, SqT.of R.at', rfl, _, _, rfl, _, _, rfl, rfl, ?_⟩
    refine ⟨_, rfl, _, rfl, _, _, rfl, rfl, hm, _, rfl, rfl, ?_⟩
    show Q (.bl (decide (V.int (z % m) = V.int r))) H
    rw [show decide (V.int (z % m) = V.int r) = decide (z % m = r) from by rw [decide_eq_decide]; exact ⟨fun e => by injection e, fun e => by rw [e]⟩]
    exact q
end
end K03
namespace K03
open PySem PySem.Spec PyProof.Rows L2 GL
section
variable {P : Program} {w : World} {K : PySem.W.Frag} {mg : Str → Option Value} {base : Heap}
theorem ok_law (T : Tx K mg) : FnOk P w K mg base CX0 16 T.a_law T.fd_law P_law (spLaw K) := by
  refine T.F_law.ok sc_law (fun vs H Q E h => ?_) (fun cdv A outer s H vs Q E hr h => ?_)
  · obtain ⟨a, ns, rfl, _⟩ := h
    rfl
  · obtain ⟨a, ns, rfl, ha, hl, q⟩ := h
    have hu := hu_of hr
    refine ⟨_, (pss_cons (ps_set (i := 1) sc_law.nd rfl (.inr rfl) (pe_call (ok_l_state T) (hr.mono (by decide)) (by rfl) T.g_l_state T.F_l_state.kp T.b_l_state .nil pass0 (pa_cons (pv 0) pa_nil)))
      (pss_cons (ps_set (i := 2) sc_law.nd rfl (.inr rfl) (pe_call (ok_l_great T) (hr.mono (by decide)) (by rfl) T.g_l_great T.F_l_great.kp T.b_l_great .nil pass0 (pa_cons (pv 1) (pa_cons (pe_op op_add pe_int (pe_call (ok_l_draw T) (hr.mono (by decide)) (by rfl) T.g_l_draw T.F_l_draw.kp T.b_l_draw .nil pass0 (pa_cons (pv 1) (pa_cons pe_int pa_nil)))) pa_nil))))
      (pss_cons (ps_setLc (i := 3) (own := [("_law_turn", 7)]) (g := gName 7) (tt := tYes) rfl sc_law.nd rfl rfl (sw_true rfl rfl rfl (by decide +kernel)) (pi_range1 (by rfl) T.m_range (pa_cons (pe_op op_add pe_int (pe_call (ok_l_draw T) (hr.mono (by decide)) (by rfl) T.g_l_draw T.F_l_draw.kp T.b_l_draw .nil pass0 (pa_cons (pv 1) (pa_cons pe_int pa_nil)))) pa_nil)) (blkOk_by (N := N_law) (sc := defScope s_law) (by decide +kernel)) (fun _ _ _ _ _ => pg_name (i := 7) sc_law.nd rfl (Or.inl rfl)) (fun _ _ _ _ _ => pts_nil) (fun _ _ _ _ _ => (pe_call (ok_l_powers T) (hr.mono (by decide)) (by rfl) T.g_l_powers T.F_l_powers.kp T.b_l_powers .nil pass0 (pa_cons (pv 1) pa_nil))))
      (pss_cons (ps_par (i := 4) (j := 5) (by rfl) sc_law.nd rfl rfl (by decide) rfl rfl (pa_cons (pe_lc (own := [("_law_one", 10)]) (g := gName 10) (tt := tYes) rfl sc_law.nd (pi_list (pv 3)) (blkOk_by (N := N_law) (sc := defScope s_law) (by decide +kernel)) (fun _ _ _ _ _ => pg_name (i := 10) sc_law.nd rfl (Or.inl rfl)) (fun _ _ _ _ _ => pts_nil) (fun _ _ _ _ _ => (pv 2))) (pa_cons (pe_call (ok_l_product T) (hr.mono (by decide)) (by rfl) T.g_l_product T.F_l_product.kp T.b_l_product .nil pass0 (pa_cons (pe_call (ok_l_joint T) (hr.mono (by decide)) (by rfl) T.g_l_joint T.F_l_joint.kp T.b_l_joint .nil pass0 (pa_cons (pv 3) pa_nil)) pa_nil)) pa_nil)) (by rfl))
      (pss_cons (ps_setLc (i := 6) (own := [("_law_one", 10)]) (g := gName 10) (tt := tYes) rfl sc_law.nd rfl rfl (sw_true rfl rfl rfl (by decide +kernel)) (pi_list (pv 3)) (blkOk_by (N := N_law) (sc := defScope s_law) (by decide +kernel)) (fun _ _ _ _ _ => pg_name (i := 10) sc_law.nd rfl (Or.inl rfl)) (fun _ _ _ _ _ => pts_nil) (fun _ _ _ _ _ => (pe_tup (pa_cons (pe_op op_mod (pv 2) (pe_call (ok_l_product T) (hr.mono (by decide)) (by rfl) T.g_l_product T.F_l_product.kp T.b_l_product .nil pass0 (pa_cons (pv 10) pa_nil))) (pa_cons (pe_call (ok_l_product T) (hr.mono (by decide)) (by rfl) T.g_l_product T.F_l_product.kp T.b_l_product .nil pass0 (pa_cons (pv 10) pa_nil)) pa_nil)))))
      (pss_cons (ps_if (pt_cmpR op_notBl (pe_call (ok_l_pairs T) (hr.mono (by decide)) (by rfl) T.g_l_pairs T.F_l_pairs.kp T.b_l_pairs .nil pass0 (pa_cons (pv 6) (pa_cons (pv 3) (pa_cons (pv 4) pa_nil)))) pe_bl (nomark _))
       (pss_one (ps_ret pe_bl))
       pss_nil)
      (pss_cons (ps_if (pt_not (pt_val (pe_call (ok_l_told_right T) (hr.mono (by decide)) (by rfl) T.g_l_told_right T.F_l_told_right.kp T.b_l_told_right .nil pass0 (pa_cons (pe_call (ok_l_shuffled T) (hr.mono (by decide)) (by rfl) T.g_l_shuffled T.F_l_shuffled.kp T.b_l_shuffled .nil pass0 (pa_cons (pv 1) (pa_cons (pv 6) pa_nil))) (pa_cons (pv 5) (pa_cons pe_bl pa_nil))))))
       (pss_one (ps_ret pe_bl))
       pss_nil)
      (pss_cons (ps_if (PW.pt (pw_or (pt_cmpR op_ne (pe_ix ix_tup (pe_call (ok_l_folded T) (hr.mono (by decide)) (by rfl) T.g_l_folded T.F_l_folded.kp T.b_l_folded .nil pass0 (pa_cons (pv 6) pa_nil)) pe_int (fun _ _ => rfl)) (pe_op op_mod (pv 2) (pv 5)) (nomark _)) (pw_or1 (pt_cmpR (op_neD hr.units) (pe_lc (own := [("_law_one", 10)]) (g := gName 10)  rfl sc_law.nd (pi_list (pv 6)) (blkOk_by (N := N_law) (sc := defScope s_law) (by decide +kernel)) (fun _ _ _ _ _ => pg_name (i := 10) sc_law.nd rfl (Or.inl rfl)) (fun _ _ _ _ _ => pts_one (pt_cmpR op_notBl (pe_call (ok_has T) (hr.mono (by decide)) (by rfl) T.g_has T.F_has.kp T.b_has .nil pass0 (pa_cons (pv 10) (pa_cons (pv 2) pa_nil))) pe_bl (nomark _))) (fun _ _ _ _ _ => (pv 10))) (pe_lst pa_nil) (nomark _)))))
       (pss_one (ps_ret pe_bl))
       pss_nil)
      (pss_cons (ps_for PassesOwn.never rfl (pi_range1 (by rfl) T.m_range (pa_cons pe_int pa_nil)) (pg_name (i := 7) sc_law.nd rfl (.inl rfl))
       (pss_cons (ps_set (i := 8) sc_law.nd rfl (.inl rfl) (pe_call (ok_l_draw T) (hr.mono (by decide)) (by rfl) T.g_l_draw T.F_l_draw.kp T.b_l_draw .nil pass0 (pa_cons (pv 1) (pa_cons (pe_callB call_len_seq (by rfl) T.m_len (by decide +kernel) (pa_cons (pv 6) pa_nil)) pa_nil))))
        (pss_cons (ps_asg (pe_op op_add (pe_ix ix_list (pv 4) (pv 8) (fun _ _ => rfl)) (pe_call (ok_l_product T) (hr.mono (by decide)) (by rfl) T.g_l_product T.F_l_product.kp T.b_l_product .nil pass0 (pa_cons (pe_call (ok_l_shared T) (hr.mono (by decide)) (by rfl) T.g_l_shared T.F_l_shared.kp T.b_l_shared .nil pass0 (pa_cons (pe_ix ix_list (pv 3) (pv 8) (fun _ _ => rfl)) (pa_cons (pe_call (ok_l_powers T) (hr.mono (by decide)) (by rfl) T.g_l_powers T.F_l_powers.kp T.b_l_powers .nil pass0 (pa_cons (pv 1) pa_nil)) pa_nil))) pa_nil))) (pg_sub (pv 4) (pv 8) set_list))
        (pss_cons (ps_asg (pe_tup (pa_cons (pe_op op_mod (pe_ix ix_list (pv 4) (pv 8) (fun _ _ => rfl)) (pe_ix ix_tup (pe_ix ix_list (pv 6) (pv 8) (fun _ _ => rfl)) pe_int (fun _ _ => rfl))) (pa_cons (pe_ix ix_tup (pe_ix ix_list (pv 6) (pv 8) (fun _ _ => rfl)) pe_int (fun _ _ => rfl)) pa_nil))) (pg_sub (pv 6) (pv 8) set_list))
        (pss_cons (ps_set (i := 9) sc_law.nd rfl (.inl rfl) (pe_call (ok_l_pairs T) (hr.mono (by decide)) (by rfl) T.g_l_pairs T.F_l_pairs.kp T.b_l_pairs .nil pass0 (pa_cons (pv 6) (pa_cons (pv 3) (pa_cons (pv 4) pa_nil)))))
        (pss_one (ps_if (PW.pt (pw_or (pt_cmpR op_isN (pv 9) pe_non (nomark _)) (pw_or1 (pt_not (pt_val (pe_call (ok_l_told_right T) (hr.mono (by decide)) (by rfl) T.g_l_told_right T.F_l_told_right.kp T.b_l_told_right .nil pass0 (pa_cons (pe_call (ok_l_shuffled T) (hr.mono (by decide)) (by rfl) T.g_l_shuffled T.F_l_shuffled.kp T.b_l_shuffled .nil pass0 (pa_cons (pv 1) (pa_cons (pv 6) pa_nil))) (pa_cons (pv 5) (pa_cons (pv 9) pa_nil)))))))))
         (pss_one (ps_ret pe_bl))
         pss_nil)))))))
      (pss_one (ps_ret pe_bl))))))))))), ?_⟩
    refine ⟨_, rfl, a, ns, rfl, ha, hl, fun H1 S C sm1 nS nC st1 => ?_⟩
    refine ⟨_, rfl, _, rfl, S, C, _, rfl, by decide, by decide, st1, fun H2 f m2 st2 f0 f1 => ⟨_, _, rfl, rfl, ?_⟩⟩
    refine ⟨S, C, _, rfl, by omega, by omega, st2, fun H3 sec m3 st3 s0 s1 => ?_⟩
    refine ⟨_, rfl, S, C, _, rfl, by decide, by decide, st3, fun H4 k m4 st4 k0 k1 => ⟨_, _, rfl, rfl, ?_⟩⟩
    obtain ⟨m, rfl⟩ : ∃ m : Nat, k = (m : Int) := ⟨k.toNat, by omega⟩
    clear m2 m3 m4 st1 st2 st3 sm1 nS nC
    refine ⟨_, rfl, by omega, by omega, fun p np => ?_⟩
    have pS := st4.neS np
    have pC := st4.neC np
    refine lc_range (lo := 0) (n := (2 + (m : Int)).toNat) (fun j H5 => Mod S C H4 H5 ∧ StOk H5 S C ∧ ∃ D : List AP, H5 p = some (.lst (vP D)) ∧ AllP H5 D ∧ D.length = j) ⟨Mod.of (same_new np), st4.same (same_new np), [], upd_same, (fun _ h => nomatch h), rfl⟩ (fun j H5 hj hP => ?_) (fun H5 hP => ?_)
    · obtain ⟨m5, st5, D, hp5, hD5, hDl⟩ := hP
      refine ⟨rfl, _, rfl, S, C, rfl, st5, fun H6 d ps m6 st6 nd hd ok => ?_⟩
      have hp6 := m6 _ _ hp5 pS pC
      have hD6 := hD5.mod m6 st5
      refine ⟨_, hp6, by unfold vP; rw [List.length_map]; exact small_lt (by omega), (m5.trans m6).own np, st6.upd pS pC, D ++ [(d, ps)], ?_, fun x hx => ?_, by rw [List.length_append, hDl]; rfl⟩
      · rw [upd_same]
        unfold vP
        rw [List.map_append]
        rfl
      · have hx2 : H6 x.1 = some (.dK (kvP x.2)) ∧ PowOk x.2 := by
          rcases List.mem_append.mp hx with hx | hx
          · exact hD6 x hx
          · rw [List.mem_singleton.mp hx]
            exact ⟨hd, ok⟩
        exact ⟨by rw [upd_ne (ne_of hx2.1 hp6 (fun z => nomatch z))]; exact hx2.1, hx2.2⟩
    · obtain ⟨_, st5, D, hp5, hD5, hDl⟩ := hP
      have hD2 : 2 ≤ D.length ∧ D.length ≤ 6 := by omega
      obtain ⟨d0, D0, rfl⟩ : ∃ d r, D = d :: r := by
        match D, hD2.1 with
        | d :: r, _ => exact ⟨d, r, rfl⟩
      -- numbers
      refine ⟨_, rfl, p, rfl, ⟨_, SqL.of hp5⟩, fun n nn => ?_⟩
      have pn : p ≠ n := ne_of_none hp5 nn
      have hrep : ∀ i, (List.replicate i sec ++ [sec] : List Int) = List.replicate (i + 1) sec := fun i => (List.replicate_succ' ..).symm
      refine lc_list (K := K) (a := p) (xs := vP (d0 :: D0)) (fun i H6 => Same H5 H6 ∧ H6 n = some (.lst ((List.replicate i sec).map V.int))) ⟨same_new nn, upd_same⟩ (fun i H6 _ hP => SqL.of (hP.1 _ _ hp5)) (fun i x H6 hx hP => ?_) (fun H6 hP => ?_)
      · obtain ⟨sm6, hn6⟩ := hP
        refine ⟨rfl, _, rfl, _, hn6, ?_, sm6.own nn, ?_⟩
        · have := (List.getElem?_eq_some_iff.mp hx).1
          unfold vP at this
          rw [List.length_map] at this
          rw [List.length_map, List.length_replicate]
          exact small_lt (by omega)
        · rw [upd_same, ← hrep, List.map_append]
          rfl
      obtain ⟨sm6, hn6⟩ := hP
      have hlenP : (vP (d0 :: D0)).length = (d0 :: D0).length := by unfold vP; rw [List.length_map]
      rw [hlenP] at hn6
      have hp6 := sm6 _ _ hp5
      have hD6 := hD5.same sm6
      have st6 := st5.same sm6
      have nS := st5.neS nn
      have nC := st5.neC nn
      clear sm6 hp5 hD5 st5 nn
      refine ⟨_, rfl, p, d0, D0, rfl, hp6, hD6, by rw [List.length_cons] at hD2; omega, fun H7 c sm7 nc hc => ?_⟩
      have okj : PowOk (jointP d0.2 (D0.map (·.2))) := PowOk.joint (hD6 d0 List.mem_cons_self).2 (fun z hz => by
        obtain ⟨y, hy, rfl⟩ := List.mem_map.mp hz
        exact (hD6 y (List.mem_cons_of_mem _ hy)).2)
      refine ⟨c, _, rfl, hc, okj, ?_⟩
      have hp7 := sm7 _ _ hp6
      have hn7 := sm7 _ _ hn6
      have hD7 := hD6.same sm7
      have st7 := st6.same sm7
      obtain ⟨Z, hZ⟩ : ∃ Z, prodP (jointP d0.2 (D0.map (·.2))) = Z := ⟨_, rfl⟩
      have Zpos : 0 < Z := hZ ▸ okj.pos
      have Zlt : Z < 2 ^ 4000 := hZ ▸ okj.lt
      rw [hZ]
      clear sm7 hp6 hn6 hD6 st6 nc hc okj
      refine ⟨_, _, rfl, ?_⟩
      -- the rests
      refine ⟨_, rfl, p, rfl, ⟨_, SqL.of hp7⟩, fun l nl => ?_⟩
      have lS := st7.neS nl
      have lC := st7.neC nl
      have pl : p ≠ l := ne_of_none hp7 nl
      have nnl : n ≠ l := ne_of_none hn7 nl
      refine lc_list (K := K) (a := p) (xs := vP (d0 :: D0)) (fun i H8 => Same H7 H8 ∧ ∃ L : List AR, H8 l = some (.lst (vR L)) ∧ AllR H8 L ∧ L.length = i ∧ ∀ (k : Nat) (y : AR) (d : AP), L[k]? = some y → (d0 :: D0)[k]? = some d → y.2 = (sec % (prodP d.2 : Nat), prodP d.2)) ⟨same_new nl, [], upd_same, (fun _ h => nomatch h), rfl, fun _ _ _ h _ => nomatch h⟩ (fun i H8 _ hP => SqL.of (hP.1 _ _ hp7)) (fun i x H8 hx hP => ?_) (fun H8 hP => ?_)
      · obtain ⟨sm8, L, hl8, hL8, hLl, hLk⟩ := hP
        unfold vP at hx
        rw [List.getElem?_map] at hx
        obtain ⟨d, hd, rfl⟩ := Option.map_eq_some_iff.mp hx
        have hdm := List.mem_of_getElem? hd
        have hil := (List.getElem?_eq_some_iff.mp hd).1
        obtain ⟨e1, ok1⟩ := (hD7.same sm8) d hdm
        have hpos : (0 : Int) < (prodP d.2 : Nat) := by have := ok1.pos; omega
        refine ⟨rfl, _, rfl, _, rfl, d.1, d.2, rfl, e1, ok1, _, _, rfl, rfl, hpos, _, rfl, d.1, d.2, rfl, e1, ok1, (by show 2 ≤ sizeLine; decide), fun t nt => ?_⟩
        dsimp only
        have st := same_new (o := .tup [.int (sec % (prodP d.2 : Nat)), .int (prodP d.2 : Nat)]) nt
        have nlt : l ≠ t := ne_of_none hl8 nt
        refine ⟨_, st _ _ hl8, by rw [vR_len]; exact small_lt (by omega), (sm8.trans st).own nl, L ++ [(t, (sec % (prodP d.2 : Nat), prodP d.2))], ?_, fun x hx => ?_, by rw [List.length_append, hLl]; rfl, fun k y d' hy hd' => ?_⟩
        · rw [upd_same]
          unfold vR
          rw [List.map_append]
          rfl
        · have hx2 : RestAt (upd H8 t (.tup [.int (sec % (prodP d.2 : Nat)), .int (prodP d.2 : Nat)])) x.1 x.2.1 (x.2.2 : Int) := by
            rcases List.mem_append.mp hx with hx | hx
            · exact (hL8 x hx).same st
            · rw [List.mem_singleton.mp hx]
              exact ⟨upd_same, Int.emod_nonneg _ (by omega), Int.emod_lt_of_pos _ hpos, by rw [Int.natAbs_natCast]; exact ok1.lt⟩
          exact ⟨by rw [upd_ne (ne_of hx2.at' (st _ _ hl8) (fun z => nomatch z))]; exact hx2.at', hx2.r0, hx2.rm, hx2.big⟩
        · by_cases hk : k < L.length
          · rw [List.getElem?_append_left hk] at hy
            exact hLk k y d' hy hd'
          · have hk2 := (List.getElem?_eq_some_iff.mp hy).1
            rw [List.length_append] at hk2
            obtain rfl : k = L.length := by
              have : [(t, (sec % ((prodP d.2 : Nat) : Int), prodP d.2))].length = 1 := rfl
              omega
            rw [List.getElem?_append_right (Nat.le_refl _), Nat.sub_self] at hy
            injection hy with hy
            rw [hLl, hd] at hd'
            injection hd' with hd'
            rw [← hy, ← hd']
      obtain ⟨sm8, L, hl8, hL8, hLl, hLk⟩ := hP
      rw [hlenP] at hLl
      have W : W3 S C p n l (d0 :: D0) H8 L (List.replicate (d0 :: D0).length sec) := ⟨st7.same sm8, sm8 _ _ hp7, sm8 _ _ hn7, hl8, hD7.same sm8, hL8, ⟨hLl, List.length_replicate, fun i y d z hy hd hz => by
        rw [List.getElem?_replicate] at hz
        split at hz
        · injection hz with hz
          rw [← hz]
          exact hLk i y d hy hd
        · cases hz⟩, pS, pC, nS, nC, lS, lC, pn, pl, nnl⟩
      have hsol : Solves sec (rR L) := fun r hr => by
        obtain ⟨y, hy, rfl⟩ := List.mem_map.mp hr
        obtain ⟨i, hi, rfl⟩ := List.mem_iff_getElem.mp hy
        have := hLk i _ _ (List.getElem?_eq_getElem hi) (List.getElem?_eq_getElem (by omega))
        rw [this]
      have hZL : ∀ {H' : Hp} {L' : List AR} {N' : List Int}, W3 S C p n l (d0 :: D0) H' L' N' → lcmR (rR L') = Z := fun h => (h.lk.size fun x hx => (h.aD x hx).2).trans hZ
      have hbel : ∀ {H' : Hp} {L' : List AR} {N' : List Int}, W3 S C p n l (d0 :: D0) H' L' N' → Below Z (rR L') := fun h => ⟨Zpos, Zlt, fun p hp => by
        rw [← hZL h]
        exact dvd_lcmL (List.mem_map_of_mem (f := (·.2)) hp)⟩
      have hlen : ∀ {H' : Hp} {L' : List AR} {N' : List Int}, W3 S C p n l (d0 :: D0) H' L' N' → 2 ≤ L'.length ∧ L'.length ≤ 6 := fun h => by rw [h.lk.l1]; exact hD2
      clear hLk sm8 hL8 hl8 hn7 hD7 st7 nl hp7
      -- all two by two
      refine ⟨_, rfl, _, rfl, _, rfl, l, p, n, L, _, _, rfl, W.hl, W.hp, W.hn, W.aL, W.aD, W.lk, (hlen W).2, fun H9 b sm9 hb => ?_⟩
      obtain rfl : b = true := hb.mpr (agree_of hsol)
      have W := W.same sm9
      refine ⟨_, _, rfl, rfl, _, rfl, ?_⟩
      refine iteF ?_
      -- shuffled
      refine ⟨_, rfl, _, rfl, S, C, l, L, rfl, W.st, W.aL, W.hl, lS, lC, by have := (hlen W).2; omega, fun H10 q' M m10 st10 nq hq pm => ?_⟩
      have W := W.mod m10 st10
      refine ⟨_, rfl, q', M, Z, true, by rw [lcmR_perm pm, hZL W]; rfl, hq, by rw [pm.length_eq]; have := (hlen W).1; omega, by rw [pm.length_eq]; exact (hlen W).2, allR_perm pm W.aL, below_perm pm (hbel W), ⟨fun _ => (agree_perm pm).mpr (agree_of hsol), fun _ => rfl⟩, fun H11 sm11 => ?_⟩
      have W := W.same sm11
      refine ⟨_, rfl, ?_⟩
      refine iteF ?_
      -- folded
      refine ⟨_, rfl, l, L, Z, rfl, W.hl, W.aL, hbel W, fun H12 v sm12 J => ?_⟩
      have W := W.same sm12
      rcases solve_join J with ⟨_, hn⟩ | ⟨_, t, x, rfl, R, sx⟩
      · exact absurd (agree_of hsol) hn
      have hx : x = sec % (Z : Nat) := by
        have e := solves_same sx hsol
        rw [Int.emod_eq_of_lt R.r0 R.rm, hZL W] at e
        exact e.symm
      have hZ0 : (0 : Int) < (Z : Nat) := by omega
      refine ⟨t, _, 0, .int x, rfl, rfl, SqT.of R.at', atI_nat (j := 0) rfl, _, rfl, _, rfl, _, _, rfl, rfl, hZ0, rfl, _, rfl, ?_⟩
      rw [decide_eq_true (congrArg V.int hx)]
      refine iteF ?_
      refine ⟨_, rfl, l, rfl, ⟨_, SqL.of W.hl⟩, fun D nD => ?_⟩
      refine lc_list (K := K) (a := l) (xs := vR L) (fun i H13 => Same H12 H13 ∧ H13 D = some (.lst [])) ⟨same_new nD, upd_same⟩ (fun i H13 _ p => SqL.of (p.1 _ _ W.hl)) (fun k v H13 hv p => ?_) (fun H13 p => ?_)
      · unfold vR at hv
        rw [List.getElem?_map] at hv
        obtain ⟨y, hy, rfl⟩ := Option.map_eq_some_iff.mp hv
        have hym := List.mem_of_getElem? hy
        have Ry := (W.aL y hym).same p.1
        have hs := hsol y.2 (List.mem_map_of_mem hym)
        refine ⟨rfl, _, rfl, _, rfl, y.1, _, _, sec, rfl, Ry, _, _, rfl, rfl, _, rfl, ?_⟩
        rw [decide_eq_true hs]
        exact iteF p
      obtain ⟨sm13, hD13⟩ := p
      refine ⟨Nat.zero_le _, fun e ne => ?_⟩
      have sme := same_new (o := .lst []) ne
      refine ⟨_, _, .lst (SqL.of (sme _ _ hD13)) .nil, .lst (SqL.of upd_same) .nil, shapedi_list [], shapedi_list [], _, rfl, ?_⟩
      refine iteN ((eqvi_lists [] []).trans (decide_eq_true rfl)) ?_
      have W := W.same (sm13.trans sme)
      clear sm13 hD13 hsol R sx J hx nD ne
      try dsimp only at W
      generalize upd H13 e (.lst []) = H14 at W ⊢
      refine ⟨3, rfl, by decide, by decide, ?_⟩
      refine for_range (lo := 0) (n := (3 : Int).toNat) (fun i σ H2 => (∃ u7 u8 u9 u10, σ = [some (.ref a), some (.ref S), some (.int sec), some (.ref p), some (.ref n), some (.int (Z : Nat)), some (.ref l), u7, u8, u9, u10]) ∧ ∃ L N, W3 S C p n l (d0 :: D0) H2 L N)
        ⟨⟨_, _, _, _, rfl⟩, L, _, W⟩ (fun i σ H2 hi hP => ?_) (fun σ H2 hP => ?_)
      rotate_left
      · obtain ⟨⟨u7, u8, u9, u10, rfl⟩, _⟩ := hP
        exact q _
      clear W sm12 sm11 sm9 m10 st10 nq hq pm sme hb
      obtain ⟨⟨u7, u8, u9, u10, rfl⟩, L, N, W⟩ := hP
      have hln := hlen W
      refine ⟨_, rfl, _, rfl, l, _, rfl, .inl (SqL.of W.hl), S, C, _, rfl, by rw [vR_len]; omega, by rw [vR_len]; exact small_nat (by omega), W.st, fun H3 at' m3 st3 a0 a1 => ?_⟩
      rw [vR_len] at a1
      have W := W.mod m3 st3
      obtain ⟨j, y, rfl, hy, hym⟩ := at_some a0 a1
      have hj := (List.getElem?_eq_some_iff.mp hy).1
      obtain ⟨d, hd⟩ : ∃ d, (d0 :: D0)[j]? = some d := ⟨_, List.getElem?_eq_getElem (by rw [← W.lk.l1]; exact hj)⟩
      obtain ⟨z, hz⟩ : ∃ z, N[j]? = some z := ⟨_, List.getElem?_eq_getElem (by rw [W.lk.l2, ← W.lk.l1]; exact hj)⟩
      have hv := W.lk.at' j y d z hy hd hz
      have hdm := List.mem_of_getElem? hd
      -- another number
      refine ⟨_, rfl, _, rfl, n, _, (j : Nat), .int z, rfl, rfl, SqL.of W.hn, atI_nat (ints_at hz), ?_⟩
      refine ⟨_, rfl, _, rfl, p, _, (j : Nat), .ref d.1, rfl, rfl, SqL.of W.hp, atI_nat (vP_at hd), _, rfl, S, C, rfl, W.st, fun H4 e2 ps2 m4 st4 ne2 he2 ok2 => ?_⟩
      have W := W.mod m4 st4
      obtain ⟨e1, ok1⟩ := W.aD d hdm
      refine ⟨d.1, e2, d.2, ps2, rfl, e1, he2, ok1, ok2, fun H5 c sm5 nc hc => ?_⟩
      have W := W.same sm5
      refine ⟨c, _, rfl, hc, ok1.both min20 ok2, _, _, rfl, rfl, ?_⟩
      dsimp only
      generalize z + ((prodP (both2 min d.2 ps2) : Nat) : Int) = z'
      have hjN : j < N.length := by rw [W.lk.l2, ← W.lk.l1]; exact hj
      refine ⟨_, rfl, _, rfl, n, _, _, j, rfl, rfl, W.hn, ixN_of rfl (by rw [List.length_map]; exact hjN), ?_⟩
      rw [show (N.map V.int).set j (.int z') = (N.set j z').map V.int from List.map_set.symm]
      obtain ⟨pS', pC', nS', nC', lS', lC', pn', pl', nl'⟩ := W.off
      have hl6 : (upd H5 n (.lst ((N.set j z').map V.int))) l = some (.lst (vR L)) := by rw [upd_ne nl'.symm]; exact W.hl
      have hn6 : (upd H5 n (.lst ((N.set j z').map V.int))) n = some (.lst ((N.set j z').map V.int)) := upd_same
      have Ry := W.aL y hym
      have hy6 : (upd H5 n (.lst ((N.set j z').map V.int))) y.1 = some (.tup [.int y.2.1, .int (y.2.2 : Int)]) := by
        rw [upd_ne (ne_of Ry.at' W.hn (fun z => nomatch z))]
        exact Ry.at'
      have hz6 : (N.set j z')[j]? = some z' := by rw [List.getElem?_set, if_pos rfl, if_pos hjN]
      have hy2 : y.2.2 = prodP d.2 := by rw [hv]
      rw [hy2] at hy6
      have hpd : (0 : Int) < (prodP d.2 : Nat) := by have := ok1.pos; omega
      refine ⟨_, rfl, _, rfl, n, _, (j : Nat), .int z', rfl, rfl, SqL.of hn6, atI_nat (ints_at hz6), _, rfl, _, rfl, l, _, (j : Nat), .ref y.1, rfl, rfl, SqL.of hl6, atI_nat (vR_at hy), y.1, _, 1, .int (prodP d.2 : Nat), rfl, rfl, SqT.of hy6, atI_nat (j := 1) rfl, _, _, rfl, rfl, hpd, ?_⟩
      refine ⟨_, rfl, _, rfl, l, _, (j : Nat), .ref y.1, rfl, rfl, SqL.of hl6, atI_nat (vR_at hy), y.1, _, 1, .int (prodP d.2 : Nat), rfl, rfl, SqT.of hy6, atI_nat (j := 1) rfl, (by show 2 ≤ sizeLine; decide), fun t nt => ?_⟩
      have hl7 := same_new (o := .tup [.int (z' % (prodP d.2 : Nat)), .int (prodP d.2 : Nat)]) nt _ _ hl6
      refine ⟨_, rfl, _, rfl, l, _, _, j, rfl, rfl, hl7, ixN_of rfl (by rw [vR_len]; exact hj), ?_⟩
      have W := W.put (z := z') hd nt rfl
      rw [show (vR L).set j (.ref t) = vR (L.set j (t, (z' % ((prodP d.2 : Nat) : Int), prodP d.2))) by unfold vR; rw [List.map_set]]
      generalize upd (upd (upd H5 n (.lst ((N.set j z').map V.int))) t (.tup [.int (z' % (prodP d.2 : Nat)), .int (prodP d.2 : Nat)])) l (.lst (vR (L.set j (t, (z' % ((prodP d.2 : Nat) : Int), prodP d.2))))) = H8 at W ⊢
      clear hl6 hn6 hy6 hl7 nt hc he2 e1
      generalize L.set j (t, (z' % ((prodP d.2 : Nat) : Int), prodP d.2)) = L2 at W ⊢
      generalize N.set j z' = N2 at W ⊢
      -- two by two again
      refine ⟨_, rfl, _, rfl, _, rfl, l, p, n, L2, _, _, rfl, W.hl, W.hp, W.hn, W.aL, W.aD, W.lk, (hlen W).2, fun H9 b sm9 hb => ?_⟩
      have W := W.same sm9
      refine ⟨_, rfl, rfl, _, rfl, ?_⟩
      refine iteF ?_
      refine ⟨_, rfl, _, rfl, S, C, l, L2, rfl, W.st, W.aL, W.hl, lS, lC, by have := (hlen W).2; omega, fun H10 q' M m10 st10 nq hq pm => ?_⟩
      have W := W.mod m10 st10
      refine ⟨_, rfl, _, rfl, q', M, Z, b, by rw [lcmR_perm pm, hZL W]; rfl, hq, by rw [pm.length_eq]; have := (hlen W).1; omega, by rw [pm.length_eq]; exact (hlen W).2, allR_perm pm W.aL, below_perm pm (hbel W), hb.trans (agree_perm pm).symm, fun H11 sm11 => ?_⟩
      have W := W.same sm11
      refine ⟨_, rfl, ?_⟩
      exact iteF ⟨⟨_, _, _, _, rfl⟩, L2, N2, W⟩
end
end K03
namespace K03
open PySem PySem.Spec PyProof.Rows L2 GL
theorem all_mk {l : PySem.W.OpenLaw} {w : World} {K : PySem.W.Frag} {h : Heap} {mg : Str → Option Value} {fa : Addr}
    {f_is_number : Addr} {od_is_number an_is_number : Option Addr} {sl_is_number : Array (Option Value)} {oc_is_number kV_is_number dc_is_number pm_is_number cd_is_number ct_is_number : Value}
    {f_is_rest : Addr} {od_is_rest an_is_rest : Option Addr} {sl_is_rest : Array (Option Value)} {oc_is_rest kV_is_rest dc_is_rest pm_is_rest cd_is_rest ct_is_rest : Value}
    {f_has : Addr} {od_has an_has : Option Addr} {sl_has : Array (Option Value)} {oc_has kV_has dc_has pm_has cd_has ct_has : Value}
    {f_both : Addr} {od_both an_both : Option Addr} {sl_both : Array (Option Value)} {oc_both kV_both dc_both pm_both cd_both ct_both : Value}
    {f_least : Addr} {od_least an_least : Option Addr} {sl_least : Array (Option Value)} {oc_least kV_least dc_least pm_least cd_least ct_least : Value}
    {f_check_rest : Addr} {od_check_rest an_check_rest : Option Addr} {sl_check_rest : Array (Option Value)} {oc_check_rest kV_check_rest dc_check_rest pm_check_rest cd_check_rest ct_check_rest : Value}
    {f_check_number : Addr} {od_check_number an_check_number : Option Addr} {sl_check_number : Array (Option Value)} {oc_check_number kV_check_number dc_check_number pm_check_number cd_check_number ct_check_number : Value}
    {f_inverse : Addr} {od_inverse an_inverse : Option Addr} {sl_inverse : Array (Option Value)} {oc_inverse kV_inverse dc_inverse pm_inverse cd_inverse ct_inverse : Value}
    {f_l_state : Addr} {od_l_state an_l_state : Option Addr} {sl_l_state : Array (Option Value)} {oc_l_state kV_l_state dc_l_state pm_l_state cd_l_state ct_l_state : Value}
    {f_l_draw : Addr} {od_l_draw an_l_draw : Option Addr} {sl_l_draw : Array (Option Value)} {oc_l_draw kV_l_draw dc_l_draw pm_l_draw cd_l_draw ct_l_draw : Value}
    {f_l_great : Addr} {od_l_great an_l_great : Option Addr} {sl_l_great : Array (Option Value)} {oc_l_great kV_l_great dc_l_great pm_l_great cd_l_great ct_l_great : Value}
    {f_l_powers : Addr} {od_l_powers an_l_powers : Option Addr} {sl_l_powers : Array (Option Value)} {oc_l_powers kV_l_powers dc_l_powers pm_l_powers cd_l_powers ct_l_powers : Value}
    {f_l_product : Addr} {od_l_product an_l_product : Option Addr} {sl_l_product : Array (Option Value)} {oc_l_product kV_l_product dc_l_product pm_l_product cd_l_product ct_l_product : Value}
    {f_l_shared : Addr} {od_l_shared an_l_shared : Option Addr} {sl_l_shared : Array (Option Value)} {oc_l_shared kV_l_shared dc_l_shared pm_l_shared cd_l_shared ct_l_shared : Value}
    {f_l_joint : Addr} {od_l_joint an_l_joint : Option Addr} {sl_l_joint : Array (Option Value)} {oc_l_joint kV_l_joint dc_l_joint pm_l_joint cd_l_joint ct_l_joint : Value}
    {f_l_shuffled : Addr} {od_l_shuffled an_l_shuffled : Option Addr} {sl_l_shuffled : Array (Option Value)} {oc_l_shuffled kV_l_shuffled dc_l_shuffled pm_l_shuffled cd_l_shuffled ct_l_shuffled : Value}
    {f_l_folded : Addr} {od_l_folded an_l_folded : Option Addr} {sl_l_folded : Array (Option Value)} {oc_l_folded kV_l_folded dc_l_folded pm_l_folded cd_l_folded ct_l_folded : Value}
    {f_l_by_halves : Addr} {od_l_by_halves an_l_by_halves : Option Addr} {sl_l_by_halves : Array (Option Value)} {oc_l_by_halves kV_l_by_halves dc_l_by_halves pm_l_by_halves cd_l_by_halves ct_l_by_halves : Value}
    {f_l_agrees : Addr} {od_l_agrees an_l_agrees : Option Addr} {sl_l_agrees : Array (Option Value)} {oc_l_agrees kV_l_agrees dc_l_agrees pm_l_agrees cd_l_agrees ct_l_agrees : Value}
    {f_l_told_right : Addr} {od_l_told_right an_l_told_right : Option Addr} {sl_l_told_right : Array (Option Value)} {oc_l_told_right kV_l_told_right dc_l_told_right pm_l_told_right cd_l_told_right ct_l_told_right : Value}
    {f_l_pairs : Addr} {od_l_pairs an_l_pairs : Option Addr} {sl_l_pairs : Array (Option Value)} {oc_l_pairs kV_l_pairs dc_l_pairs pm_l_pairs cd_l_pairs ct_l_pairs : Value}
    {f_law : Addr} {od_law an_law : Option Addr} {sl_law : Array (Option Value)} {oc_law kV_law dc_law pm_law cd_law ct_law : Value}
    (X : K.In h) (G : h.Ns mainGlobals mg) (hfa : mg "law" = some (.ref fa))
    (a_is_number : PySem.W.nsIn K mainGlobals "is_number" = some (some (.ref f_is_number)))
    (l_is_number : K.lookup f_is_number = some ⟨oc_is_number, od_is_number, .func (PySem.W.fnOf "is_number" "is_number" (defArgs s_is_number) (defBody s_is_number) (defScope s_is_number) .none kV_is_number dc_is_number pm_is_number an_is_number cd_is_number ct_is_number), sl_is_number⟩)
    (c_is_number_ : PySem.W.codeIn K cd_is_number "is_number" = true)
    (k_is_number : PySem.W.keepIn K (.ref f_is_number) = true)
    (a_is_rest : PySem.W.nsIn K mainGlobals "is_rest" = some (some (.ref f_is_rest)))
    (l_is_rest : K.lookup f_is_rest = some ⟨oc_is_rest, od_is_rest, .func (PySem.W.fnOf "is_rest" "is_rest" (defArgs s_is_rest) (defBody s_is_rest) (defScope s_is_rest) .none kV_is_rest dc_is_rest pm_is_rest an_is_rest cd_is_rest ct_is_rest), sl_is_rest⟩)
    (c_is_rest_ : PySem.W.codeIn K cd_is_rest "is_rest" = true)
    (k_is_rest : PySem.W.keepIn K (.ref f_is_rest) = true)
    (a_has : PySem.W.nsIn K mainGlobals "has" = some (some (.ref f_has)))
    (l_has : K.lookup f_has = some ⟨oc_has, od_has, .func (PySem.W.fnOf "has" "has" (defArgs s_has) (defBody s_has) (defScope s_has) .none kV_has dc_has pm_has an_has cd_has ct_has), sl_has⟩)
    (c_has_ : PySem.W.codeIn K cd_has "has" = true)
    (k_has : PySem.W.keepIn K (.ref f_has) = true)
    (a_both : PySem.W.nsIn K mainGlobals "both" = some (some (.ref f_both)))
    (l_both : K.lookup f_both = some ⟨oc_both, od_both, .func (PySem.W.fnOf "both" "both" (defArgs s_both) (defBody s_both) (defScope s_both) .none kV_both dc_both pm_both an_both cd_both ct_both), sl_both⟩)
    (c_both_ : PySem.W.codeIn K cd_both "both" = true)
    (k_both : PySem.W.keepIn K (.ref f_both) = true)
    (a_least : PySem.W.nsIn K mainGlobals "least" = some (some (.ref f_least)))
    (l_least : K.lookup f_least = some ⟨oc_least, od_least, .func (PySem.W.fnOf "least" "least" (defArgs s_least) (defBody s_least) (defScope s_least) .none kV_least dc_least pm_least an_least cd_least ct_least), sl_least⟩)
    (c_least_ : PySem.W.codeIn K cd_least "least" = true)
    (k_least : PySem.W.keepIn K (.ref f_least) = true)
    (a_check_rest : PySem.W.nsIn K mainGlobals "_check_rest" = some (some (.ref f_check_rest)))
    (l_check_rest : K.lookup f_check_rest = some ⟨oc_check_rest, od_check_rest, .func (PySem.W.fnOf "_check_rest" "_check_rest" (defArgs s_check_rest) (defBody s_check_rest) (defScope s_check_rest) .none kV_check_rest dc_check_rest pm_check_rest an_check_rest cd_check_rest ct_check_rest), sl_check_rest⟩)
    (c_check_rest_ : PySem.W.codeIn K cd_check_rest "_check_rest" = true)
    (k_check_rest : PySem.W.keepIn K (.ref f_check_rest) = true)
    (a_check_number : PySem.W.nsIn K mainGlobals "check_number" = some (some (.ref f_check_number)))
    (l_check_number : K.lookup f_check_number = some ⟨oc_check_number, od_check_number, .func (PySem.W.fnOf "check_number" "check_number" (defArgs s_check_number) (defBody s_check_number) (defScope s_check_number) .none kV_check_number dc_check_number pm_check_number an_check_number cd_check_number ct_check_number), sl_check_number⟩)
    (c_check_number_ : PySem.W.codeIn K cd_check_number "check_number" = true)
    (k_check_number : PySem.W.keepIn K (.ref f_check_number) = true)
    (a_inverse : PySem.W.nsIn K mainGlobals "_inverse" = some (some (.ref f_inverse)))
    (l_inverse : K.lookup f_inverse = some ⟨oc_inverse, od_inverse, .func (PySem.W.fnOf "_inverse" "_inverse" (defArgs s_inverse) (defBody s_inverse) (defScope s_inverse) .none kV_inverse dc_inverse pm_inverse an_inverse cd_inverse ct_inverse), sl_inverse⟩)
    (c_inverse_ : PySem.W.codeIn K cd_inverse "_inverse" = true)
    (k_inverse : PySem.W.keepIn K (.ref f_inverse) = true)
    (a_l_state : PySem.W.nsIn K mainGlobals "_law_state" = some (some (.ref f_l_state)))
    (l_l_state : K.lookup f_l_state = some ⟨oc_l_state, od_l_state, .func (PySem.W.fnOf "_law_state" "_law_state" (defArgs s_l_state) (defBody s_l_state) (defScope s_l_state) .none kV_l_state dc_l_state pm_l_state an_l_state cd_l_state ct_l_state), sl_l_state⟩)
    (c_l_state_ : PySem.W.codeIn K cd_l_state "_law_state" = true)
    (k_l_state : PySem.W.keepIn K (.ref f_l_state) = true)
    (a_l_draw : PySem.W.nsIn K mainGlobals "_law_draw" = some (some (.ref f_l_draw)))
    (l_l_draw : K.lookup f_l_draw = some ⟨oc_l_draw, od_l_draw, .func (PySem.W.fnOf "_law_draw" "_law_draw" (defArgs s_l_draw) (defBody s_l_draw) (defScope s_l_draw) .none kV_l_draw dc_l_draw pm_l_draw an_l_draw cd_l_draw ct_l_draw), sl_l_draw⟩)
    (c_l_draw_ : PySem.W.codeIn K cd_l_draw "_law_draw" = true)
    (k_l_draw : PySem.W.keepIn K (.ref f_l_draw) = true)
    (a_l_great : PySem.W.nsIn K mainGlobals "_law_great" = some (some (.ref f_l_great)))
    (l_l_great : K.lookup f_l_great = some ⟨oc_l_great, od_l_great, .func (PySem.W.fnOf "_law_great" "_law_great" (defArgs s_l_great) (defBody s_l_great) (defScope s_l_great) .none kV_l_great dc_l_great pm_l_great an_l_great cd_l_great ct_l_great), sl_l_great⟩)
    (c_l_great_ : PySem.W.codeIn K cd_l_great "_law_great" = true)
    (k_l_great : PySem.W.keepIn K (.ref f_l_great) = true)
    (a_l_powers : PySem.W.nsIn K mainGlobals "_law_powers" = some (some (.ref f_l_powers)))
    (l_l_powers : K.lookup f_l_powers = some ⟨oc_l_powers, od_l_powers, .func (PySem.W.fnOf "_law_powers" "_law_powers" (defArgs s_l_powers) (defBody s_l_powers) (defScope s_l_powers) .none kV_l_powers dc_l_powers pm_l_powers an_l_powers cd_l_powers ct_l_powers), sl_l_powers⟩)
    (c_l_powers_ : PySem.W.codeIn K cd_l_powers "_law_powers" = true)
    (k_l_powers : PySem.W.keepIn K (.ref f_l_powers) = true)
    (a_l_product : PySem.W.nsIn K mainGlobals "_law_product" = some (some (.ref f_l_product)))
    (l_l_product : K.lookup f_l_product = some ⟨oc_l_product, od_l_product, .func (PySem.W.fnOf "_law_product" "_law_product" (defArgs s_l_product) (defBody s_l_product) (defScope s_l_product) .none kV_l_product dc_l_product pm_l_product an_l_product cd_l_product ct_l_product), sl_l_product⟩)
    (c_l_product_ : PySem.W.codeIn K cd_l_product "_law_product" = true)
    (k_l_product : PySem.W.keepIn K (.ref f_l_product) = true)
    (a_l_shared : PySem.W.nsIn K mainGlobals "_law_shared" = some (some (.ref f_l_shared)))
    (l_l_shared : K.lookup f_l_shared = some ⟨oc_l_shared, od_l_shared, .func (PySem.W.fnOf "_law_shared" "_law_shared" (defArgs s_l_shared) (defBody s_l_shared) (defScope s_l_shared) .none kV_l_shared dc_l_shared pm_l_shared an_l_shared cd_l_shared ct_l_shared), sl_l_shared⟩)
    (c_l_shared_ : PySem.W.codeIn K cd_l_shared "_law_shared" = true)
    (k_l_shared : PySem.W.keepIn K (.ref f_l_shared) = true)
    (a_l_joint : PySem.W.nsIn K mainGlobals "_law_joint" = some (some (.ref f_l_joint)))
    (l_l_joint : K.lookup f_l_joint = some ⟨oc_l_joint, od_l_joint, .func (PySem.W.fnOf "_law_joint" "_law_joint" (defArgs s_l_joint) (defBody s_l_joint) (defScope s_l_joint) .none kV_l_joint dc_l_joint pm_l_joint an_l_joint cd_l_joint ct_l_joint), sl_l_joint⟩)
    (c_l_joint_ : PySem.W.codeIn K cd_l_joint "_law_joint" = true)
    (k_l_joint : PySem.W.keepIn K (.ref f_l_joint) = true)
    (a_l_shuffled : PySem.W.nsIn K mainGlobals "_law_shuffled" = some (some (.ref f_l_shuffled)))
    (l_l_shuffled : K.lookup f_l_shuffled = some ⟨oc_l_shuffled, od_l_shuffled, .func (PySem.W.fnOf "_law_shuffled" "_law_shuffled" (defArgs s_l_shuffled) (defBody s_l_shuffled) (defScope s_l_shuffled) .none kV_l_shuffled dc_l_shuffled pm_l_shuffled an_l_shuffled cd_l_shuffled ct_l_shuffled), sl_l_shuffled⟩)
    (c_l_shuffled_ : PySem.W.codeIn K cd_l_shuffled "_law_shuffled" = true)
    (k_l_shuffled : PySem.W.keepIn K (.ref f_l_shuffled) = true)
    (a_l_folded : PySem.W.nsIn K mainGlobals "_law_folded" = some (some (.ref f_l_folded)))
    (l_l_folded : K.lookup f_l_folded = some ⟨oc_l_folded, od_l_folded, .func (PySem.W.fnOf "_law_folded" "_law_folded" (defArgs s_l_folded) (defBody s_l_folded) (defScope s_l_folded) .none kV_l_folded dc_l_folded pm_l_folded an_l_folded cd_l_folded ct_l_folded), sl_l_folded⟩)
    (c_l_folded_ : PySem.W.codeIn K cd_l_folded "_law_folded" = true)
    (k_l_folded : PySem.W.keepIn K (.ref f_l_folded) = true)
    (a_l_by_halves : PySem.W.nsIn K mainGlobals "_law_by_halves" = some (some (.ref f_l_by_halves)))
    (l_l_by_halves : K.lookup f_l_by_halves = some ⟨oc_l_by_halves, od_l_by_halves, .func (PySem.W.fnOf "_law_by_halves" "_law_by_halves" (defArgs s_l_by_halves) (defBody s_l_by_halves) (defScope s_l_by_halves) .none kV_l_by_halves dc_l_by_halves pm_l_by_halves an_l_by_halves cd_l_by_halves ct_l_by_halves), sl_l_by_halves⟩)
    (c_l_by_halves_ : PySem.W.codeIn K cd_l_by_halves "_law_by_halves" = true)
    (k_l_by_halves : PySem.W.keepIn K (.ref f_l_by_halves) = true)
    (a_l_agrees : PySem.W.nsIn K mainGlobals "_law_agrees" = some (some (.ref f_l_agrees)))
    (l_l_agrees : K.lookup f_l_agrees = some ⟨oc_l_agrees, od_l_agrees, .func (PySem.W.fnOf "_law_agrees" "_law_agrees" (defArgs s_l_agrees) (defBody s_l_agrees) (defScope s_l_agrees) .none kV_l_agrees dc_l_agrees pm_l_agrees an_l_agrees cd_l_agrees ct_l_agrees), sl_l_agrees⟩)
    (c_l_agrees_ : PySem.W.codeIn K cd_l_agrees "_law_agrees" = true)
    (k_l_agrees : PySem.W.keepIn K (.ref f_l_agrees) = true)
    (a_l_told_right : PySem.W.nsIn K mainGlobals "_law_told_right" = some (some (.ref f_l_told_right)))
    (l_l_told_right : K.lookup f_l_told_right = some ⟨oc_l_told_right, od_l_told_right, .func (PySem.W.fnOf "_law_told_right" "_law_told_right" (defArgs s_l_told_right) (defBody s_l_told_right) (defScope s_l_told_right) .none kV_l_told_right dc_l_told_right pm_l_told_right an_l_told_right cd_l_told_right ct_l_told_right), sl_l_told_right⟩)
    (c_l_told_right_ : PySem.W.codeIn K cd_l_told_right "_law_told_right" = true)
    (k_l_told_right : PySem.W.keepIn K (.ref f_l_told_right) = true)
    (a_l_pairs : PySem.W.nsIn K mainGlobals "_law_pairs" = some (some (.ref f_l_pairs)))
    (l_l_pairs : K.lookup f_l_pairs = some ⟨oc_l_pairs, od_l_pairs, .func (PySem.W.fnOf "_law_pairs" "_law_pairs" (defArgs s_l_pairs) (defBody s_l_pairs) (defScope s_l_pairs) .none kV_l_pairs dc_l_pairs pm_l_pairs an_l_pairs cd_l_pairs ct_l_pairs), sl_l_pairs⟩)
    (c_l_pairs_ : PySem.W.codeIn K cd_l_pairs "_law_pairs" = true)
    (k_l_pairs : PySem.W.keepIn K (.ref f_l_pairs) = true)
    (a_law : PySem.W.nsIn K mainGlobals "law" = some (some (.ref f_law)))
    (l_law : K.lookup f_law = some ⟨oc_law, od_law, .func (PySem.W.fnOf "law" "law" (defArgs s_law) (defBody s_law) (defScope s_law) .none kV_law dc_law pm_law an_law cd_law ct_law), sl_law⟩)
    (c_law_ : PySem.W.codeIn K cd_law "law" = true)
    (k_law : PySem.W.keepIn K (.ref f_law) = true)
    (zm_abs : PySem.W.nsIn K mainGlobals "abs" = some none)
    (zm_bool : PySem.W.nsIn K mainGlobals "bool" = some none)
    (zm_dict : PySem.W.nsIn K mainGlobals "dict" = some none)
    (zm_enumerate : PySem.W.nsIn K mainGlobals "enumerate" = some none)
    (zm_int : PySem.W.nsIn K mainGlobals "int" = some none)
    (zm_isinstance : PySem.W.nsIn K mainGlobals "isinstance" = some none)
    (zm_len : PySem.W.nsIn K mainGlobals "len" = some none)
    (zm_list : PySem.W.nsIn K mainGlobals "list" = some none)
    (zm_max : PySem.W.nsIn K mainGlobals "max" = some none)
    (zm_min : PySem.W.nsIn K mainGlobals "min" = some none)
    (zm_range : PySem.W.nsIn K mainGlobals "range" = some none)
    (zm_tuple : PySem.W.nsIn K mainGlobals "tuple" = some none)
    (zi_gcd : PySem.W.nsIn K mainGlobals "gcd" = some (some (.builtin "math.gcd"))) :
    ∃ fd : FuncData, (∀ (s : Shared) (v : Value), BindsTo s fd ⟨[v], []⟩ [("_law_script", v)]) ∧ ∀ base : Heap, K.In base → base.Ns mainGlobals mg → FnOk l.prog w K mg base CX0 16 fa fd ["_law_script"] (spLaw K) := by
  obtain rfl : f_law = fa := (Value.ref.inj (Option.some.inj (hfa.symm.trans (PySem.W.mg_of X G a_law)))).symm
  have F_is_number := fun_mk (st := s_is_number) l_is_number c_is_number_ k_is_number
  have F_is_rest := fun_mk (st := s_is_rest) l_is_rest c_is_rest_ k_is_rest
  have F_has := fun_mk (st := s_has) l_has c_has_ k_has
  have F_both := fun_mk (st := s_both) l_both c_both_ k_both
  have F_least := fun_mk (st := s_least) l_least c_least_ k_least
  have F_check_rest := fun_mk (st := s_check_rest) l_check_rest c_check_rest_ k_check_rest
  have F_check_number := fun_mk (st := s_check_number) l_check_number c_check_number_ k_check_number
  have F_inverse := fun_mk (st := s_inverse) l_inverse c_inverse_ k_inverse
  have F_l_state := fun_mk (st := s_l_state) l_l_state c_l_state_ k_l_state
  have F_l_draw := fun_mk (st := s_l_draw) l_l_draw c_l_draw_ k_l_draw
  have F_l_great := fun_mk (st := s_l_great) l_l_great c_l_great_ k_l_great
  have F_l_powers := fun_mk (st := s_l_powers) l_l_powers c_l_powers_ k_l_powers
  have F_l_product := fun_mk (st := s_l_product) l_l_product c_l_product_ k_l_product
  have F_l_shared := fun_mk (st := s_l_shared) l_l_shared c_l_shared_ k_l_shared
  have F_l_joint := fun_mk (st := s_l_joint) l_l_joint c_l_joint_ k_l_joint
  have F_l_shuffled := fun_mk (st := s_l_shuffled) l_l_shuffled c_l_shuffled_ k_l_shuffled
  have F_l_folded := fun_mk (st := s_l_folded) l_l_folded c_l_folded_ k_l_folded
  have F_l_by_halves := fun_mk (st := s_l_by_halves) l_l_by_halves c_l_by_halves_ k_l_by_halves
  have F_l_agrees := fun_mk (st := s_l_agrees) l_l_agrees c_l_agrees_ k_l_agrees
  have F_l_told_right := fun_mk (st := s_l_told_right) l_l_told_right c_l_told_right_ k_l_told_right
  have F_l_pairs := fun_mk (st := s_l_pairs) l_l_pairs c_l_pairs_ k_l_pairs
  have F_law := fun_mk (st := s_law) l_law c_law_ k_law
  let T : Tx K mg := {
    a_is_number := f_is_number,
    fd_is_number := PySem.W.fnOf "is_number" "is_number" (defArgs s_is_number) (defBody s_is_number) (defScope s_is_number) .none kV_is_number dc_is_number pm_is_number an_is_number cd_is_number ct_is_number,
    F_is_number := F_is_number,
    b_is_number := F_is_number.binds (ps := P_is_number) fun _ _ _ _ _ _ us hl => match us, hl with | [_], _ => rfl,
    g_is_number := PySem.W.mg_of X G a_is_number,
    a_is_rest := f_is_rest,
    fd_is_rest := PySem.W.fnOf "is_rest" "is_rest" (defArgs s_is_rest) (defBody s_is_rest) (defScope s_is_rest) .none kV_is_rest dc_is_rest pm_is_rest an_is_rest cd_is_rest ct_is_rest,
    F_is_rest := F_is_rest,
    b_is_rest := F_is_rest.binds (ps := P_is_rest) fun _ _ _ _ _ _ us hl => match us, hl with | [_], _ => rfl,
    g_is_rest := PySem.W.mg_of X G a_is_rest,
    a_has := f_has,
    fd_has := PySem.W.fnOf "has" "has" (defArgs s_has) (defBody s_has) (defScope s_has) .none kV_has dc_has pm_has an_has cd_has ct_has,
    F_has := F_has,
    b_has := F_has.binds (ps := P_has) fun _ _ _ _ _ _ us hl => match us, hl with | [_, _], _ => rfl,
    g_has := PySem.W.mg_of X G a_has,
    a_both := f_both,
    fd_both := PySem.W.fnOf "both" "both" (defArgs s_both) (defBody s_both) (defScope s_both) .none kV_both dc_both pm_both an_both cd_both ct_both,
    F_both := F_both,
    b_both := F_both.binds (ps := P_both) fun _ _ _ _ _ _ us hl => match us, hl with | [_, _], _ => rfl,
    g_both := PySem.W.mg_of X G a_both,
    a_least := f_least,
    fd_least := PySem.W.fnOf "least" "least" (defArgs s_least) (defBody s_least) (defScope s_least) .none kV_least dc_least pm_least an_least cd_least ct_least,
    F_least := F_least,
    b_least := F_least.binds (ps := P_least) fun _ _ _ _ _ _ us hl => match us, hl with | [_], _ => rfl,
    g_least := PySem.W.mg_of X G a_least,
    a_check_rest := f_check_rest,
    fd_check_rest := PySem.W.fnOf "_check_rest" "_check_rest" (defArgs s_check_rest) (defBody s_check_rest) (defScope s_check_rest) .none kV_check_rest dc_check_rest pm_check_rest an_check_rest cd_check_rest ct_check_rest,
    F_check_rest := F_check_rest,
    b_check_rest := F_check_rest.binds (ps := P_check_rest) fun _ _ _ _ _ _ us hl => match us, hl with | [_], _ => rfl,
    g_check_rest := PySem.W.mg_of X G a_check_rest,
    a_check_number := f_check_number,
    fd_check_number := PySem.W.fnOf "check_number" "check_number" (defArgs s_check_number) (defBody s_check_number) (defScope s_check_number) .none kV_check_number dc_check_number pm_check_number an_check_number cd_check_number ct_check_number,
    F_check_number := F_check_number,
    b_check_number := F_check_number.binds (ps := P_check_number) fun _ _ _ _ _ _ us hl => match us, hl with | [_], _ => rfl,
    g_check_number := PySem.W.mg_of X G a_check_number,
    a_inverse := f_inverse,
    fd_inverse := PySem.W.fnOf "_inverse" "_inverse" (defArgs s_inverse) (defBody s_inverse) (defScope s_inverse) .none kV_inverse dc_inverse pm_inverse an_inverse cd_inverse ct_inverse,
    F_inverse := F_inverse,
    b_inverse := F_inverse.binds (ps := P_inverse) fun _ _ _ _ _ _ us hl => match us, hl with | [_, _], _ => rfl,
    g_inverse := PySem.W.mg_of X G a_inverse,
    a_l_state := f_l_state,
    fd_l_state := PySem.W.fnOf "_law_state" "_law_state" (defArgs s_l_state) (defBody s_l_state) (defScope s_l_state) .none kV_l_state dc_l_state pm_l_state an_l_state cd_l_state ct_l_state,
    F_l_state := F_l_state,
    b_l_state := F_l_state.binds (ps := P_l_state) fun _ _ _ _ _ _ us hl => match us, hl with | [_], _ => rfl,
    g_l_state := PySem.W.mg_of X G a_l_state,
    a_l_draw := f_l_draw,
    fd_l_draw := PySem.W.fnOf "_law_draw" "_law_draw" (defArgs s_l_draw) (defBody s_l_draw) (defScope s_l_draw) .none kV_l_draw dc_l_draw pm_l_draw an_l_draw cd_l_draw ct_l_draw,
    F_l_draw := F_l_draw,
    b_l_draw := F_l_draw.binds (ps := P_l_draw) fun _ _ _ _ _ _ us hl => match us, hl with | [_, _], _ => rfl,
    g_l_draw := PySem.W.mg_of X G a_l_draw,
    a_l_great := f_l_great,
    fd_l_great := PySem.W.fnOf "_law_great" "_law_great" (defArgs s_l_great) (defBody s_l_great) (defScope s_l_great) .none kV_l_great dc_l_great pm_l_great an_l_great cd_l_great ct_l_great,
    F_l_great := F_l_great,
    b_l_great := F_l_great.binds (ps := P_l_great) fun _ _ _ _ _ _ us hl => match us, hl with | [_, _], _ => rfl,
    g_l_great := PySem.W.mg_of X G a_l_great,
    a_l_powers := f_l_powers,
    fd_l_powers := PySem.W.fnOf "_law_powers" "_law_powers" (defArgs s_l_powers) (defBody s_l_powers) (defScope s_l_powers) .none kV_l_powers dc_l_powers pm_l_powers an_l_powers cd_l_powers ct_l_powers,
    F_l_powers := F_l_powers,
    b_l_powers := F_l_powers.binds (ps := P_l_powers) fun _ _ _ _ _ _ us hl => match us, hl with | [_], _ => rfl,
    g_l_powers := PySem.W.mg_of X G a_l_powers,
    a_l_product := f_l_product,
    fd_l_product := PySem.W.fnOf "_law_product" "_law_product" (defArgs s_l_product) (defBody s_l_product) (defScope s_l_product) .none kV_l_product dc_l_product pm_l_product an_l_product cd_l_product ct_l_product,
    F_l_product := F_l_product,
    b_l_product := F_l_product.binds (ps := P_l_product) fun _ _ _ _ _ _ us hl => match us, hl with | [_], _ => rfl,
    g_l_product := PySem.W.mg_of X G a_l_product,
    a_l_shared := f_l_shared,
    fd_l_shared := PySem.W.fnOf "_law_shared" "_law_shared" (defArgs s_l_shared) (defBody s_l_shared) (defScope s_l_shared) .none kV_l_shared dc_l_shared pm_l_shared an_l_shared cd_l_shared ct_l_shared,
    F_l_shared := F_l_shared,
    b_l_shared := F_l_shared.binds (ps := P_l_shared) fun _ _ _ _ _ _ us hl => match us, hl with | [_, _], _ => rfl,
    g_l_shared := PySem.W.mg_of X G a_l_shared,
    a_l_joint := f_l_joint,
    fd_l_joint := PySem.W.fnOf "_law_joint" "_law_joint" (defArgs s_l_joint) (defBody s_l_joint) (defScope s_l_joint) .none kV_l_joint dc_l_joint pm_l_joint an_l_joint cd_l_joint ct_l_joint,
    F_l_joint := F_l_joint,
    b_l_joint := F_l_joint.binds (ps := P_l_joint) fun _ _ _ _ _ _ us hl => match us, hl with | [_], _ => rfl,
    g_l_joint := PySem.W.mg_of X G a_l_joint,
    a_l_shuffled := f_l_shuffled,
    fd_l_shuffled := PySem.W.fnOf "_law_shuffled" "_law_shuffled" (defArgs s_l_shuffled) (defBody s_l_shuffled) (defScope s_l_shuffled) .none kV_l_shuffled dc_l_shuffled pm_l_shuffled an_l_shuffled cd_l_shuffled ct_l_shuffled,
    F_l_shuffled := F_l_shuffled,
    b_l_shuffled := F_l_shuffled.binds (ps := P_l_shuffled) fun _ _ _ _ _ _ us hl => match us, hl with | [_, _], _ => rfl,
    g_l_shuffled := PySem.W.mg_of X G a_l_shuffled,
    a_l_folded := f_l_folded,
    fd_l_folded := PySem.W.fnOf "_law_folded" "_law_folded" (defArgs s_l_folded) (defBody s_l_folded) (defScope s_l_folded) .none kV_l_folded dc_l_folded pm_l_folded an_l_folded cd_l_folded ct_l_folded,
    F_l_folded := F_l_folded,
    b_l_folded := F_l_folded.binds (ps := P_l_folded) fun _ _ _ _ _ _ us hl => match us, hl with | [_], _ => rfl,
    g_l_folded := PySem.W.mg_of X G a_l_folded,
    a_l_by_halves := f_l_by_halves,
    fd_l_by_halves := PySem.W.fnOf "_law_by_halves" "_law_by_halves" (defArgs s_l_by_halves) (defBody s_l_by_halves) (defScope s_l_by_halves) .none kV_l_by_halves dc_l_by_halves pm_l_by_halves an_l_by_halves cd_l_by_halves ct_l_by_halves,
    F_l_by_halves := F_l_by_halves,
    b_l_by_halves := F_l_by_halves.binds (ps := P_l_by_halves) fun _ _ _ _ _ _ us hl => match us, hl with | [_], _ => rfl,
    g_l_by_halves := PySem.W.mg_of X G a_l_by_halves,
    a_l_agrees := f_l_agrees,
    fd_l_agrees := PySem.W.fnOf "_law_agrees" "_law_agrees" (defArgs s_l_agrees) (defBody s_l_agrees) (defScope s_l_agrees) .none kV_l_agrees dc_l_agrees pm_l_agrees an_l_agrees cd_l_agrees ct_l_agrees,
    F_l_agrees := F_l_agrees,
    b_l_agrees := F_l_agrees.binds (ps := P_l_agrees) fun _ _ _ _ _ _ us hl => match us, hl with | [_, _, _], _ => rfl,
    g_l_agrees := PySem.W.mg_of X G a_l_agrees,
    a_l_told_right := f_l_told_right,
    fd_l_told_right := PySem.W.fnOf "_law_told_right" "_law_told_right" (defArgs s_l_told_right) (defBody s_l_told_right) (defScope s_l_told_right) .none kV_l_told_right dc_l_told_right pm_l_told_right an_l_told_right cd_l_told_right ct_l_told_right,
    F_l_told_right := F_l_told_right,
    b_l_told_right := F_l_told_right.binds (ps := P_l_told_right) fun _ _ _ _ _ _ us hl => match us, hl with | [_, _, _], _ => rfl,
    g_l_told_right := PySem.W.mg_of X G a_l_told_right,
    a_l_pairs := f_l_pairs,
    fd_l_pairs := PySem.W.fnOf "_law_pairs" "_law_pairs" (defArgs s_l_pairs) (defBody s_l_pairs) (defScope s_l_pairs) .none kV_l_pairs dc_l_pairs pm_l_pairs an_l_pairs cd_l_pairs ct_l_pairs,
    F_l_pairs := F_l_pairs,
    b_l_pairs := F_l_pairs.binds (ps := P_l_pairs) fun _ _ _ _ _ _ us hl => match us, hl with | [_, _, _], _ => rfl,
    g_l_pairs := PySem.W.mg_of X G a_l_pairs,
    a_law := f_law,
    fd_law := PySem.W.fnOf "law" "law" (defArgs s_law) (defBody s_law) (defScope s_law) .none kV_law dc_law pm_law an_law cd_law ct_law,
    F_law := F_law,
    b_law := F_law.binds (ps := P_law) fun _ _ _ _ _ _ us hl => match us, hl with | [_], _ => rfl,
    g_law := PySem.W.mg_of X G a_law,
    m_abs := PySem.W.mg_none_of X G zm_abs,
    m_bool := PySem.W.mg_none_of X G zm_bool,
    m_dict := PySem.W.mg_none_of X G zm_dict,
    m_enumerate := PySem.W.mg_none_of X G zm_enumerate,
    m_int := PySem.W.mg_none_of X G zm_int,
    m_isinstance := PySem.W.mg_none_of X G zm_isinstance,
    m_len := PySem.W.mg_none_of X G zm_len,
    m_list := PySem.W.mg_none_of X G zm_list,
    m_max := PySem.W.mg_none_of X G zm_max,
    m_min := PySem.W.mg_none_of X G zm_min,
    m_range := PySem.W.mg_none_of X G zm_range,
    m_tuple := PySem.W.mg_none_of X G zm_tuple,
    i_gcd := PySem.W.mg_of X G zi_gcd
  }
  exact ⟨T.fd_law, fun s v => .of_eq rfl, fun base _ _ => ok_law T⟩
end K03
open PySem PySem.W PyProof.Rows
set_option maxRecDepth 100000 in
set_option maxHeartbeats 0 in
theorem PySem.Challenge.cw_goersay_k03_whole_rests_two_by_two_and_a_holds : PySem.Challenge.rw_goersay_k03_whole_rests_two_by_two_and_a.Holds := by
  w_on; o_law; k_head; (case hw => w_witness2)
  k_fill
  refine L2.walk_of (l := PySem.Challenge.rw_goersay_k03_whole_rests_two_by_two_and_a) (n := 63) (k := 16) (x := "_law_script") (CX := fun _ => L2.CX0) (sp := fun w => GL.spLaw _) rfl (by decide) rfl ⟨rfl, by decide, by decide⟩ (fun w h Y => PySem.W.kIn_of Y) ?F (fun _ _ a ns hl _ hS => ⟨a, ns, rfl, hS, hl, fun _ => rfl⟩) (fun _ _ _ _ _ h => h)
  case F =>
    intro w mg fa h KX G hmg
    refine' K03.all_mk KX G hmg ?a_is_number ?l_is_number ?c_is_number_ ?k_is_number ?a_is_rest ?l_is_rest ?c_is_rest_ ?k_is_rest ?a_has ?l_has ?c_has_ ?k_has ?a_both ?l_both ?c_both_ ?k_both ?a_least ?l_least ?c_least_ ?k_least ?a_check_rest ?l_check_rest ?c_check_rest_ ?k_check_rest ?a_check_number ?l_check_number ?c_check_number_ ?k_check_number ?a_inverse ?l_inverse ?c_inverse_ ?k_inverse ?a_l_state ?l_l_state ?c_l_state_ ?k_l_state ?a_l_draw ?l_l_draw ?c_l_draw_ ?k_l_draw ?a_l_great ?l_l_great ?c_l_great_ ?k_l_great ?a_l_powers ?l_l_powers ?c_l_powers_ ?k_l_powers ?a_l_product ?l_l_product ?c_l_product_ ?k_l_product ?a_l_shared ?l_l_shared ?c_l_shared_ ?k_l_shared ?a_l_joint ?l_l_joint ?c_l_joint_ ?k_l_joint ?a_l_shuffled ?l_l_shuffled ?c_l_shuffled_ ?k_l_shuffled ?a_l_folded ?l_l_folded ?c_l_folded_ ?k_l_folded ?a_l_by_halves ?l_l_by_halves ?c_l_by_halves_ ?k_l_by_halves ?a_l_agrees ?l_l_agrees ?c_l_agrees_ ?k_l_agrees ?a_l_told_right ?l_l_told_right ?c_l_told_right_ ?k_l_told_right ?a_l_pairs ?l_l_pairs ?c_l_pairs_ ?k_l_pairs ?a_law ?l_law ?c_law_ ?k_law ?zm_abs ?zm_bool ?zm_dict ?zm_enumerate ?zm_int ?zm_isinstance ?zm_len ?zm_list ?zm_max ?zm_min ?zm_range ?zm_tuple ?zi_gcd
    (case a_is_number => k_is)
    (case l_is_number => k_is)
    (case c_is_number_ => k_is)
    (case k_is_number => k_is)
    (case a_is_rest => k_is)
    (case l_is_rest => k_is)
    (case c_is_rest_ => k_is)
    (case k_is_rest => k_is)
    (case a_has => k_is)
    (case l_has => k_is)
    (case c_has_ => k_is)
    (case k_has => k_is)
    (case a_both => k_is)
    (case l_both => k_is)
    (case c_both_ => k_is)
    (case k_both => k_is)
    (case a_least => k_is)
    (case l_least => k_is)
    (case c_least_ => k_is)
    (case k_least => k_is)
    (case a_check_rest => k_is)
    (case l_check_rest => k_is)
    (case c_check_rest_ => k_is)
    (case k_check_rest => k_is)
    (case a_check_number => k_is)
    (case l_check_number => k_is)
    (case c_check_number_ => k_is)
    (case k_check_number => k_is)
    (case a_inverse => k_is)
    (case l_inverse => k_is)
    (case c_inverse_ => k_is)
    (case k_inverse => k_is)
    (case a_l_state => k_is)
    (case l_l_state => k_is)
    (case c_l_state_ => k_is)
    (case k_l_state => k_is)
    (case a_l_draw => k_is)
    (case l_l_draw => k_is)
    (case c_l_draw_ => k_is)
    (case k_l_draw => k_is)
    (case a_l_great => k_is)
    (case l_l_great => k_is)
    (case c_l_great_ => k_is)
    (case k_l_great => k_is)
    (case a_l_powers => k_is)
    (case l_l_powers => k_is)
    (case c_l_powers_ => k_is)
    (case k_l_powers => k_is)
    (case a_l_product => k_is)
    (case l_l_product => k_is)
    (case c_l_product_ => k_is)
    (case k_l_product => k_is)
    (case a_l_shared => k_is)
    (case l_l_shared => k_is)
    (case c_l_shared_ => k_is)
    (case k_l_shared => k_is)
    (case a_l_joint => k_is)
    (case l_l_joint => k_is)
    (case c_l_joint_ => k_is)
    (case k_l_joint => k_is)
    (case a_l_shuffled => k_is)
    (case l_l_shuffled => k_is)
    (case c_l_shuffled_ => k_is)
    (case k_l_shuffled => k_is)
    (case a_l_folded => k_is)
    (case l_l_folded => k_is)
    (case c_l_folded_ => k_is)
    (case k_l_folded => k_is)
    (case a_l_by_halves => k_is)
    (case l_l_by_halves => k_is)
    (case c_l_by_halves_ => k_is)
    (case k_l_by_halves => k_is)
    (case a_l_agrees => k_is)
    (case l_l_agrees => k_is)
    (case c_l_agrees_ => k_is)
    (case k_l_agrees => k_is)
    (case a_l_told_right => k_is)
    (case l_l_told_right => k_is)
    (case c_l_told_right_ => k_is)
    (case k_l_told_right => k_is)
    (case a_l_pairs => k_is)
    (case l_l_pairs => k_is)
    (case c_l_pairs_ => k_is)
    (case k_l_pairs => k_is)
    (case a_law => k_is)
    (case l_law => k_is)
    (case c_law_ => k_is)
    (case k_law => k_is)
    (case zm_abs => k_is)
    (case zm_bool => k_is)
    (case zm_dict => k_is)
    (case zm_enumerate => k_is)
    (case zm_int => k_is)
    (case zm_isinstance => k_is)
    (case zm_len => k_is)
    (case zm_list => k_is)
    (case zm_max => k_is)
    (case zm_min => k_is)
    (case zm_range => k_is)
    (case zm_tuple => k_is)
    (case zi_gcd => k_is)
