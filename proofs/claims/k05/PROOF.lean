import PyProof.Rows.All
import Wide.All
import OpenK.AllK
import Wide.FinOn
import HandS.Base
import HandS.Call
import HandS.List
import HandS.Set
import HandS.Strs
import HandS.Defaults
import HandS.Words
import HandS.ForMost
import HandS.Wide
import HandS.IsInst
import HandS.DictComp
import HandS.More
import HandS.Flow
import HandS.Evl
import HandS.Walk
import HandS.SortInts
import HandS.TupAny
import HandS.Iter
import HandS.Zip0
import KE.GoesEnum
import KE.GoesMore
import HandS.Style
import PySem.Challenge.RW_goersay_k05_orders_and_places_one_to_one
set_option Elab.async false
set_option linter.all false
set_option maxRecDepth 100000
set_option maxHeartbeats 4000000
/-! Own rule: len(set(xs)) of a list or tuple of texts, however many (the set itself is looked at by membership alone). -/
namespace GSet
open PySem PySem.Spec PyProof.Rows
/-- the texts met first, in order -/
def firsts (xs : List Str) : List Str := xs.foldl (fun acc x => if x ∈ acc then acc else acc ++ [x]) []
def more (acc : List Str) (x : Str) : List Str := if x ∈ acc then acc else acc ++ [x]
theorem firsts_snoc (xs : List Str) (x : Str) : firsts (xs ++ [x]) = more (firsts xs) x := by
  unfold firsts more
  rw [List.foldl_append]
  rfl
theorem mem_more {acc : List Str} {x y : Str} : y ∈ more acc x ↔ y ∈ acc ∨ y = x := by
  unfold more
  split
  · rename_i h
    exact ⟨.inl, fun z => z.elim id fun e => by rw [e]; exact h⟩
  · rw [List.mem_append, List.mem_singleton]
theorem more_len {acc : List Str} {x : Str} : (more acc x).length = if x ∈ acc then acc.length else acc.length + 1 := by
  unfold more
  split
  · rfl
  · rw [List.length_append]
    rfl
theorem firsts_le : ∀ (n : Nat) (xs : List Str), xs.length = n → (firsts xs).length ≤ n
  | 0, xs, h => by
    have e := List.eq_nil_of_length_eq_zero h
    subst e
    exact Nat.le_refl _
  | n + 1, xs, h => by
    have hne : xs ≠ [] := fun z => by rw [z] at h; cases h
    have ed := List.dropLast_concat_getLast hne
    have il := firsts_le n xs.dropLast (by rw [List.length_dropLast, h]; rfl)
    rw [← ed, firsts_snoc, more_len]
    split <;> omega
theorem more_nodup {acc : List Str} {x : Str} (h : acc.Nodup) : (more acc x).Nodup := by
  unfold more
  split
  · exact h
  · rename_i hx
    rw [List.nodup_append]
    refine ⟨h, List.nodup_cons.mpr ⟨List.not_mem_nil, List.nodup_nil⟩, fun a ha b hb e => ?_⟩
    rw [List.mem_singleton] at hb
    subst hb
    subst e
    exact hx ha
theorem firsts_nodup_eq {xs : List Str} (h : xs.Nodup) : ∀ i, i ≤ xs.length → firsts (xs.take i) = xs.take i
  | 0, _ => rfl
  | i + 1, hi => by
    have hlt : i < xs.length := hi
    have e1 : xs.take (i + 1) = xs.take i ++ [xs[i]] := by
      rw [List.take_succ, List.getElem?_eq_getElem hlt]
      rfl
    rw [e1, firsts_snoc, firsts_nodup_eq h i (Nat.le_of_lt hlt)]
    unfold more
    rw [if_neg]
    intro hm
    obtain ⟨j, hj, ej⟩ := List.mem_iff_getElem.mp hm
    rw [List.getElem_take] at ej
    rw [List.length_take] at hj
    have := (List.getElem_inj h).mp ej
    omega
theorem firsts_of_nodup {xs : List Str} (h : xs.Nodup) : firsts xs = xs := by
  have q := firsts_nodup_eq h xs.length (Nat.le_refl _)
  rwa [List.take_length] at q
theorem firsts_lt_of_dup {xs : List Str} (h : ¬ xs.Nodup) : (firsts xs).length < xs.length := by
  have key : ∀ (n : Nat) (ys : List Str), ys.length = n → ¬ ys.Nodup → (firsts ys).length < n := by
    intro n
    induction n with
    | zero =>
      intro ys hy hn
      have e := List.eq_nil_of_length_eq_zero hy
      subst e
      exact absurd List.nodup_nil hn
    | succ n ih =>
      intro ys hy hn
      have hne : ys ≠ [] := fun z => by rw [z] at hy; cases hy
      have ed := List.dropLast_concat_getLast hne
      have el : ys.dropLast.length = n := by rw [List.length_dropLast, hy]; rfl
      have ef : firsts ys = more (firsts ys.dropLast) (ys.getLast hne) := by rw [← firsts_snoc, ed]
      by_cases hd : ys.dropLast.Nodup
      · have hin : ys.getLast hne ∈ ys.dropLast := by
          refine Classical.byContradiction fun hc => hn ?_
          rw [← ed, List.nodup_append]
          refine ⟨hd, List.nodup_cons.mpr ⟨List.not_mem_nil, List.nodup_nil⟩, fun a ha b hb e => ?_⟩
          rw [List.mem_singleton] at hb
          rw [e, hb] at ha
          exact hc ha
        rw [ef, more_len, firsts_of_nodup hd, if_pos hin]
        omega
      · have := ih _ el hd
        rw [ef, more_len]
        split <;> omega
  exact key _ xs rfl h
theorem firsts_len_iff (xs : List Str) : (firsts xs).length = xs.length ↔ xs.Nodup := by
  refine ⟨fun e => Classical.byContradiction fun h => ?_, fun h => by rw [firsts_of_nodup h]⟩
  have := firsts_lt_of_dup h
  omega

section
variable {prog : Program} {w : World} {A : Around} {R : Result → Shared → Prop} {I : Addr} {fp wr : List Addr} {G : Array GenState → Array GenState → Prop} {n : Nat} {P : Nat → Value → Prop} {St : Nat → Shared → Prop}
/-- what stands in the set behind i items -/
abbrev InSet (prog : Program) (w : World) (h : Heap) (S : Addr) (xs : List Str) (i : Nat) : Prop :=
  h.SetOf (PySem.strKind prog w) S (fun k' => decide (k' ∈ firsts (xs.take i))) (firsts (xs.take i)).length
theorem turns (W : WalksS prog w A.in1 I fp wr G n P St) (S : Addr) (hSf : S ∉ fp) (xs : List Str) (hsz : xs.length = n) (hbig : n + 1 < scanBound)
    (hval : ∀ i v, P i v → ∃ t, v = .str (xs.getD i Str.empty) t) :
    ∀ (k i : Nat) (s : Shared), n - i = k → i ≤ n → St i s → InSet prog w s.heap S xs i →
      (∀ s', Moved (S :: wr) G s s' → InSet prog w s'.heap S xs n → R (.ok (.ret .none)) s') →
      codeAny (model prog w) A (.builtin "set.update.loop" ⟨[.ref S, .ref I], []⟩) R s := by
  have notW : S ∉ wr := fun z => hSf (W.sub _ z)
  have wide : ∀ b ∈ wr, b ∈ S :: wr := fun _ z => List.mem_cons_of_mem _ z
  intro k
  induction k with
  | zero =>
    intro i s hk hi hst hS hR
    obtain rfl : i = n := by omega
    refine codeAny_builtin PyProof.Rows.F.entry_set_update_loop ?_
    rw [Around.under_plainId PyProof.Rows.F.plain_set_update_loop _]
    show wpAny _ A.in1 (pyNext (.ref I) >>= _) _ _ s
    refine wpAny_bind (W.done s _ _ hst fun s1 mv => ?_)
    show wpAny _ A.in1 (ret Value.none) _ _ s1
    refine wpAny_pure (hR s1 (mv.mono wide) ?_)
    obtain ⟨o, es, ep, t, ho, more⟩ := hS
    exact ⟨o, es, ep, t, mv.heap S _ notW ho, more⟩
  | succ k ih =>
    intro i s hk hi hst hS hR
    have lt : i < n := by omega
    refine codeAny_builtin PyProof.Rows.F.entry_set_update_loop ?_
    rw [Around.under_plainId PyProof.Rows.F.plain_set_update_loop _]
    show wpAny _ A.in1 (pyNext (.ref I) >>= _) _ _ s
    refine wpAny_bind (W.item i s _ _ lt hst fun v s1 hP hst1 mv => ?_)
    obtain ⟨t, rfl⟩ := hval i v hP
    have hS1 : InSet prog w s1.heap S xs i := by
      obtain ⟨o, es, ep, tb, ho, more⟩ := hS
      exact ⟨o, es, ep, tb, mv.heap S _ notW ho, more⟩
    have hle : (firsts (xs.take i)).length ≤ i := firsts_le i (xs.take i) (by rw [List.length_take]; omega)
    show wpAny _ A.in1 (holding [Value.str (xs.getD i Str.empty) t] (setAdd S (.str (xs.getD i Str.empty) t)) >>= _) _ _ s1
    refine wpAny_bind (wpAny_holding ?_)
    unfold setAdd
    refine wpAny_holding (wpAny_bind ((PySem.strKind prog w).pyHash (k := xs.getD i Str.empty) (strKind_is _ _ _ _) ?_))
    refine wpAny_setAddHashed_of (knd := PySem.strKind prog w) (s := { s1 with toks := s1.toks + 1 }) (strKind_is _ _ _ _) rfl hS1 (by omega) fun h2 same hS2 => ?_
    have hlt : i < xs.length := by omega
    have et : xs.take (i + 1) = xs.take i ++ [xs.getD i Str.empty] := by
      rw [List.take_succ, List.getD_eq_getElem?_getD, List.getElem?_eq_getElem hlt]
      rfl
    have hSi : InSet prog w h2 S xs (i + 1) := by
      refine SetOf_congr hS2 (fun k' => ?_) ?_
      · rw [et, firsts_snoc, Bool.eq_iff_iff, Bool.or_eq_true, decide_eq_true_iff, decide_eq_true_iff, decide_eq_true_iff]
        exact mem_more.symm
      · rw [et, firsts_snoc, more_len]
        by_cases c : xs.getD i Str.empty ∈ firsts (xs.take i)
        · rw [if_pos c, if_pos (by rw [decide_eq_true_iff]; exact c)]
        · rw [if_neg c, if_neg (by rw [decide_eq_true_iff]; exact c)]
    have offS : ∀ b, b ∉ S :: wr → b ≠ S := fun b z e => z (by rw [e]; exact List.mem_cons_self)
    refine wpAny_pure ⟨plainId_quiet PyProof.Rows.F.plain_set_update_loop _, ih (i + 1) _ (by omega) lt (W.frame _ s1 _ _ hst1 (Nat.le_succ _) fun b hb o e => ?_) hSi fun s3 mv3 hS3 => ?_⟩
    · rw [same.2 b fun z => hSf (z ▸ hb)]
      exact e
    · refine hR s3 (Moved.trans W.gtrans ((mv.mono wide).then_heap (Nat.le_succ _) fun b o hb e => ?_) mv3) hS3
      rw [same.2 b (offS b hb)]
      exact e
end

section
variable {prog : Program} {w : World} {A : Around} {E : Value → Shared → Prop} {s : Shared}
/-- a set just made -/
abbrev Fso (led : Bool) : Obj := { cls := .type "set", dict := none, data := .set #[] 0 (.fresh 0 0 led) }
/-- what a fresh set of the texts is, and that nothing else has changed -/
abbrev Made (prog : Program) (w : World) (h0 h1 : Heap) (xs : List Str) : Prop :=
  InSet prog w h1 h0.objs.size xs xs.length ∧ ∀ b o, b < h0.objs.size → h0.get? b = some o → h1.get? b = some o

set_option maxHeartbeats 3200000 in
theorem set_of_list {l : Addr} {items : Array Value} {xs : List Str} {Q : Value → Shared → Prop} (hh : A.handled = none) (hl : s.heap.IsList l items) (hi : StrsAre items.toList xs) (hbig : xs.length + 1 < scanBound)
    (k : ∀ (h1 : Heap) (tk : Nat), Made prog w s.heap h1 xs → Q (.ref s.heap.objs.size) { s with heap := h1, toks := tk }) : wpAny (model prog w) A (call (.type "set") [.ref l]) Q E s := by
  obtain ⟨c, tl, hmro⟩ := PySem.F.called_set.mro
  have hmade := PySem.F.called_set.made; have hsub := PySem.F.called_set.sub
  refine wpAny_call (codeAny_of_tree (show wpAny _ _ (callAny (.type "set") _) _ _ _ from wpAny_pure ⟨Code.quiet_builtin _ (by decide +kernel), codeAny_builtin PySem.F.entry_type_call ?_⟩))
  rw [Around.under_plain (weight_type_call_type "set" [.ref l] []) rfl]
  have h1 := PySem.F.called_set.notType; have h2 := PySem.F.called_set.canCreate; have hct := PySem.F.typeCall_set_1 (.ref l)
  repeat (any_goals (first | assumption | wp_step))
  refine codeAny_mono (code_set_new_1 (.ref l) (E := E) (Q₁ := fun ob z => ∃ led : Bool, ob = .ref s.heap.objs.size ∧ z = { s with heap := s.heap.push (Fso led) }) fun led => ⟨led, rfl, rfl⟩) fun r z hr => ?_
  cases r with
  | error e => exact hr
  | ok fl =>
    cases fl with
    | ret ob =>
      obtain ⟨led, rfl, rfl⟩ := hr
      have hS : (s.heap.push (Fso led)).get? s.heap.objs.size = some (Fso led) := Heap.get?_push_size _ rfl
      have hT : Shared.TypeIs { s with heap := s.heap.push (Fso led) } (.ref s.heap.objs.size) "set" := ⟨_, hS, rfl⟩
      have hli := PySem.F.called_set.init.lookup; have hbi := PySem.F.called_set.init.bind (.ref s.heap.objs.size)
      repeat (any_goals (first | assumption | wp_step))
      refine codeAny_mono (codeAny_call_builtin (R := wants (fun r z => r = .none ∧ ∃ h1 tk, z = { s with heap := h1, toks := tk } ∧ Made prog w s.heap h1 xs) E)
        PySem.F.called_set.init.plain PySem.F.entry_set_init (check_set_init_1 hT ?_)) fun r2 z2 hr2 => ?_
      · obtain ⟨⟨oc, od, odat, osl⟩, hol, hcl, nl, hdl⟩ := hl
        simp only at hcl hdl; subst hcl; subst hdl
        have hol2 : (s.heap.push (Fso led)).get? l = some { cls := .type "list", dict := od, data := .seq items nl, slots := osl } := Heap.get?_push_of_some _ hol
        have q1 := PySem.F.sub_list_set; have q2 := PySem.F.sub_list_frozenset; have q3 : (Value.type "list" == Value.type "dict") = false := by decide
        have hl1 : (s.heap.push (Fso led)).IsList l items := ⟨_, hol2, rfl, nl, rfl⟩
        unfold Builtin.«set.__init__» noKeywords Builtin.Frozenset.updateFrom
        generalize hPI : pyIter = PI
        wp_walk
        subst hPI
        refine wpAny_pyIter_list hl1 ?_; refine wpAny_bind (wpAny_runValue ?_)
        have lt := Heap.lt_size hol
        have hsz : xs.length = items.size := by rw [← StrsAre.len_eq hi, Array.length_toList]
        have apart : l ≠ (s.heap.push (Fso led)).objs.size := by rw [Heap.size_push]; exact Nat.ne_of_lt (Nat.lt_succ_of_lt lt)
        have off : s.heap.objs.size ∉ [(s.heap.push (Fso led)).objs.size, l] := by
          rw [Heap.size_push]; simp only [List.mem_cons, List.not_mem_nil, or_false, not_or]; exact ⟨Nat.ne_of_lt (Nat.lt_succ_self _), Nat.ne_of_gt lt⟩
        refine turns ((Walks.list (show A.in1.in1.in1.handled = none by simp [hh]) _ l apart items).toS) s.heap.objs.size off xs hsz (by omega)
          (fun i v hv => SS.strs_at hi i v (by rw [Array.getElem?_toList]; exact hv)) (items.size - 0) 0 _ (by omega) (Nat.zero_le _) ⟨⟨_, Heap.get?_push_size _ rfl, rfl, rfl⟩, hl1.push _⟩ ?start0 ?rest0
        case start0 =>
          have hget : ((s.heap.push (Fso led)).push { cls := .type "list_iterator", data := .fields #[.ref l, .int 0 0] }).get? s.heap.objs.size = some (Fso led) := Heap.get?_push_of_some _ hS
          exact SetOf_congr ((setObjOf_fresh (knd := PySem.strKind prog w) led).setOf hget (by unfold scanBound; omega)) (fun _ => rfl) rfl
        case rest0 =>
          rintro ⟨h3, g3, d3, tk3, os3⟩ hm hS3
          obtain rfl : g3 = s.gens := hm.gens
          obtain rfl : d3 = s.drawn := hm.drawn
          obtain rfl : os3 = s.os := hm.os
          show wpAny _ _ _ _ _ _
          refine wpAny_pure ?_
          show wpAny _ _ (ret Value.none) _ _ _
          rw [← hsz] at hS3
          refine wpAny_pure ⟨rfl, h3, tk3, rfl, hS3, fun b o hb e => hm.heap b o ?_ (Heap.get?_push_of_some _ (Heap.get?_push_of_some _ e))⟩
          rw [Heap.size_push]; simp only [List.mem_cons, List.not_mem_nil, or_false, not_or]; exact ⟨Nat.ne_of_lt hb, Nat.ne_of_lt (Nat.lt_succ_of_lt hb)⟩
      · cases r2 with
        | error e => exact hr2
        | ok fl2 =>
          cases fl2 with
          | ret r =>
            obtain ⟨rfl, h1, tk, rfl, hm⟩ := hr2
            repeat (any_goals (first | assumption | wp_step))
            exact k _ _ hm
          | _ => exact hr2.elim
    | _ => exact hr.elim

set_option maxHeartbeats 3200000 in
theorem set_of_tuple {l : Addr} {items : Array Value} {xs : List Str} {Q : Value → Shared → Prop} (hh : A.handled = none) (hl : s.heap.IsTuple l items) (hi : StrsAre items.toList xs) (hbig : xs.length + 1 < scanBound)
    (k : ∀ (h1 : Heap) (tk : Nat), Made prog w s.heap h1 xs → Q (.ref s.heap.objs.size) { s with heap := h1, toks := tk }) : wpAny (model prog w) A (call (.type "set") [.ref l]) Q E s := by
  obtain ⟨c, tl, hmro⟩ := PySem.F.called_set.mro
  have hmade := PySem.F.called_set.made; have hsub := PySem.F.called_set.sub
  refine wpAny_call (codeAny_of_tree (show wpAny _ _ (callAny (.type "set") _) _ _ _ from wpAny_pure ⟨Code.quiet_builtin _ (by decide +kernel), codeAny_builtin PySem.F.entry_type_call ?_⟩))
  rw [Around.under_plain (weight_type_call_type "set" [.ref l] []) rfl]
  have h1 := PySem.F.called_set.notType; have h2 := PySem.F.called_set.canCreate; have hct := PySem.F.typeCall_set_1 (.ref l)
  repeat (any_goals (first | assumption | wp_step))
  refine codeAny_mono (code_set_new_1 (.ref l) (E := E) (Q₁ := fun ob z => ∃ led : Bool, ob = .ref s.heap.objs.size ∧ z = { s with heap := s.heap.push (Fso led) }) fun led => ⟨led, rfl, rfl⟩) fun r z hr => ?_
  cases r with
  | error e => exact hr
  | ok fl =>
    cases fl with
    | ret ob =>
      obtain ⟨led, rfl, rfl⟩ := hr
      have hS : (s.heap.push (Fso led)).get? s.heap.objs.size = some (Fso led) := Heap.get?_push_size _ rfl
      have hT : Shared.TypeIs { s with heap := s.heap.push (Fso led) } (.ref s.heap.objs.size) "set" := ⟨_, hS, rfl⟩
      have hli := PySem.F.called_set.init.lookup; have hbi := PySem.F.called_set.init.bind (.ref s.heap.objs.size)
      repeat (any_goals (first | assumption | wp_step))
      refine codeAny_mono (codeAny_call_builtin (R := wants (fun r z => r = .none ∧ ∃ h1 tk, z = { s with heap := h1, toks := tk } ∧ Made prog w s.heap h1 xs) E)
        PySem.F.called_set.init.plain PySem.F.entry_set_init (check_set_init_1 hT ?_)) fun r2 z2 hr2 => ?_
      · obtain ⟨⟨oc, od, odat, osl⟩, hol, hcl, nl, hdl⟩ := hl
        simp only at hcl hdl; subst hcl; subst hdl
        have hol2 : (s.heap.push (Fso led)).get? l = some { cls := .type "tuple", dict := od, data := .seq items nl, slots := osl } := Heap.get?_push_of_some _ hol
        have q1 := PySem.F.sub_tuple_set; have q2 := PySem.F.sub_tuple_frozenset; have q3 : (Value.type "tuple" == Value.type "dict") = false := by decide
        have hl1 : (s.heap.push (Fso led)).IsTuple l items := ⟨_, hol2, rfl, nl, rfl⟩
        unfold Builtin.«set.__init__» noKeywords Builtin.Frozenset.updateFrom
        generalize hPI : pyIter = PI
        wp_walk
        subst hPI
        refine wpAny_pyIter_tuple hl1 ?_; refine wpAny_bind (wpAny_runValue ?_)
        have lt := Heap.lt_size hol
        have hsz : xs.length = items.size := by rw [← StrsAre.len_eq hi, Array.length_toList]
        have apart : l ≠ (s.heap.push (Fso led)).objs.size := by rw [Heap.size_push]; exact Nat.ne_of_lt (Nat.lt_succ_of_lt lt)
        have off : s.heap.objs.size ∉ [(s.heap.push (Fso led)).objs.size, l] := by
          rw [Heap.size_push]; simp only [List.mem_cons, List.not_mem_nil, or_false, not_or]; exact ⟨Nat.ne_of_lt (Nat.lt_succ_self _), Nat.ne_of_gt lt⟩
        refine turns ((Walks.tuple (show A.in1.in1.in1.handled = none by simp [hh]) _ l apart items).toS) s.heap.objs.size off xs hsz (by omega)
          (fun i v hv => SS.strs_at hi i v (by rw [Array.getElem?_toList]; exact hv)) (items.size - 0) 0 _ (by omega) (Nat.zero_le _) ⟨⟨_, Heap.get?_push_size _ rfl, rfl, rfl⟩, hl1.push _⟩ ?start0 ?rest0
        case start0 =>
          have hget : ((s.heap.push (Fso led)).push { cls := .type "tuple_iterator", data := .fields #[.ref l, .int 0 0] }).get? s.heap.objs.size = some (Fso led) := Heap.get?_push_of_some _ hS
          exact SetOf_congr ((setObjOf_fresh (knd := PySem.strKind prog w) led).setOf hget (by unfold scanBound; omega)) (fun _ => rfl) rfl
        case rest0 =>
          rintro ⟨h3, g3, d3, tk3, os3⟩ hm hS3
          obtain rfl : g3 = s.gens := hm.gens
          obtain rfl : d3 = s.drawn := hm.drawn
          obtain rfl : os3 = s.os := hm.os
          show wpAny _ _ _ _ _ _
          refine wpAny_pure ?_
          show wpAny _ _ (ret Value.none) _ _ _
          rw [← hsz] at hS3
          refine wpAny_pure ⟨rfl, h3, tk3, rfl, hS3, fun b o hb e => hm.heap b o ?_ (Heap.get?_push_of_some _ (Heap.get?_push_of_some _ e))⟩
          rw [Heap.size_push]; simp only [List.mem_cons, List.not_mem_nil, or_false, not_or]; exact ⟨Nat.ne_of_lt hb, Nat.ne_of_lt (Nat.lt_succ_of_lt hb)⟩
      · cases r2 with
        | error e => exact hr2
        | ok fl2 =>
          cases fl2 with
          | ret r =>
            obtain ⟨rfl, h1, tk, rfl, hm⟩ := hr2
            repeat (any_goals (first | assumption | wp_step))
            exact k _ _ hm
          | _ => exact hr2.elim
    | _ => exact hr.elim

end
end GSet
namespace L2
open PySem PySem.Spec PyProof.Rows
/-- len(set(xs)), xs a list or tuple of texts -/
def tLenSetS (K : PySem.W.Frag) (ta : TE) : TE := fun σ H Q => ta σ H fun x H1 => ∃ l, ∃ xs : List Str, x = .ref l ∧ (SqL K H1 l (xs.map V.str) ∨ SqT K H1 l (xs.map V.str)) ∧ xs.length ≤ 1000 ∧ Q (.int (GSet.firsts xs).length) H1
theorem pe_lenSetS {X : Cx} {a : Expr} {ta : TE} {p p2 q pos : Pos} (hc : X.calm = true) (hm : X.mg "len" = none) (hm2 : X.mg "set" = none) (ha : PE X a ta) (hg : Gl X "len" := by rfl) (hg2 : Gl X "set" := by rfl)
    (na : starEach [a] X.env = (false, eval a X.env) :: starEach [] X.env := by rfl) : PE X (.Call (.Name "len" p) [.Call (.Name "set" p2) [a] [] q] [] pos) (tLenSetS X.K ta) := by
  refine ⟨fun pins s σ H Q I h => Call_ (ld_blt I hg hm boot_len (callWith_builtin1 (args_cons ?_ rfl) rfl rfl))⟩
  refine Call_ (ld_blt I hg2 hm2 boot_set (callWith_type1 (args_cons (thn (ha.run pins s σ H _ I h) fun v s1 ⟨x, H1, I1, r1, q1⟩ => args_nil ?_) na) na rfl))
  obtain ⟨l, xs, rfl, hq, hl, q1⟩ := q1
  cases r1
  have big : xs.length + 1 < scanBound := by unfold scanBound; omega
  have fin : ∀ (h1 : Heap) (tk : Nat), GSet.Made X.prog X.w s1.heap h1 xs →
      wpAny (model X.prog X.w) X.A (spliced (backTo pos (starEach [] X.env))) (fun vs z => wpAny (model X.prog X.w) X.A (call (.builtin "len") (Value.ref s1.heap.objs.size :: vs)) (EP X pins σ Q) X.xe z) X.xe { s1 with heap := h1, toks := tk } := fun h1 tk ⟨hS, hk⟩ => by
    have le := GSet.firsts_le xs.length (xs.take xs.length) (by rw [List.take_length])
    obtain ⟨o, es, ep, t, ho, hex, hd, _, _, _, hf, hn⟩ := hS
    have I2 : Inv X pins σ H1 { s1 with heap := h1, toks := tk } := I1.kept fun b o e => hk b o (Heap.lt_size e) e
    refine args_nil (call_len_set ho hex hd hf (by rw [hn]; omega) ⟨.int (GSet.firsts xs).length, H1, I2.tok _, ⟨_, by rw [hn, List.take_length]⟩, q1⟩)
  rcases hq with hq | hq
  · obtain ⟨its, r, pl, hz⟩ := I1.list hq
    exact GSet.set_of_list (I1.ok.hd hc) pl.isList (by simpa using strsAre_of r) big fin
  · obtain ⟨its, r, pl, hz⟩ := I1.tuple hq
    exact GSet.set_of_tuple (I1.ok.hd hc) pl (by simpa using strsAre_of r) big fin
end L2
/-! Own rule: o.m(k = v, ..), a method of an own class called by keywords alone. -/
namespace L2
open PySem PySem.Spec PyProof.Rows
/-- [o], its class, then the keywords' values, then the promise of them in the parameters' order -/
def tMethKw (C : Addr) (m : Str) (n : Nat) (sp : Sp) (gV : List V → List V → List V) (E : XK) (ta : TE) (tk : TA) : TE := fun σ H Q =>
  ta σ H fun x H1 => ∃ a dx fs, x = .ref a ∧ H1 a = some (.ins C dx fs) ∧ fs.lookup m = none ∧ tk σ H1 fun zs H2 => zs.length = n ∧ sp (gV [x] zs) H2 Q E
section
variable {X : Cx} {CX : CXT} {k : Nat} {f C : Addr} {fd : FuncData} {ps ks : List Str} {sp : Sp} {E : XK} {o : Expr} {m : Str} {ta : TE} {apos : Pos} {pos : Pos} {kws : List Keyword} {tk : TA} {g : List Value → List Value → List Value} {gV : List V → List V → List V}
theorem pe_methKw {pl : Sem Bool} (he : PE X o ta) (c : Cls X.K C) (hm : Meth X.K C m f) (F : FnOk X.prog X.w X.K X.mg X.base CX k f fd ps sp) (hr : Room k X.A) (hb : KBn X.K fd ps 1 ks g gV) (hx : Passes CX X E) (hkw : PK X kws tk)
    (hall : (backToKw pos (keywordEach kws X.env)).all (·.1.isSome) = true := by rfl) (hks : (backToKw pos (keywordEach kws X.env)).filterMap (·.1) = ks := by rfl)
    (hpl : ((backTo pos (starEach [] X.env)).any (·.1) || (backToKw pos (keywordEach kws X.env)).any (·.1.isNone)) = false := by rfl)
    (ht : eval (.Call (.Attribute o m apos) [] kws pos) X.env = (do
      let v ← eval o X.env
      standAt apos.atName
      let (q, first) ← holding [v] (getMethod v m pl)
      callWith pos q first (backTo pos (starEach [] X.env)) (backToKw pos (keywordEach kws X.env))) := by rfl) :
    PE X (.Call (.Attribute o m apos) [] kws pos) (tMethKw C m ks.length sp gV E ta tk) := by
  refine ⟨fun pins s σ H Q I h => PySem.W.methodCall_KW (pl := pl) (thn (he.run pins s σ H _ I h) fun u s1 ⟨x, H1, I1, rx, a, dx, fs, ex, ea, l, q⟩ => ?_) ht⟩
  subst ex
  obtain rfl : u = Value.ref a := rx
  refine getmeth_ok I1 ea c hm l (PySem.W.callWith_KW0 (first := [.ref a]) (h₀ := X.base) I.ok.mod.kin hm.kp hall ?_ hpl)
  refine thn (hkw.run pos pins s1 σ H1 _ I1 q) fun ws s2 ⟨zs, H2, I2, rz, l2, q2⟩ => ⟨I2.kIn, ?_⟩
  rw [hks]
  exact run_fnN (us := [.ref a]) (vs := [.ref a]) F hr hb hx I2 (.cons rfl .nil) rz rfl l2 q2
end
/-- how one keyword behind self binds: h is «fun _ _ _ _ _ _ us ws l1 l2 => match us, ws, l1, l2 with | [_], [_], _, _ => rfl» -/
theorem Fun.kbn {K : PySem.W.Frag} {x qual : Str} {st : Stmt} {f : Addr} {fd : FuncData} {ps ks : List Str} {n : Nat} (F : Fun K x qual st f fd)
    (h : ∀ (kV doc pm : Value) (an : Option Addr) (cdv ct : Value) (us ws : List Value), us.length = n → ws.length = ks.length → bindArgs (PySem.W.fnOf x qual (defArgs st) (defBody st) (defScope st) .none kV doc pm an cdv ct) ⟨us, ks.zip ws⟩ = pure (ps.zip (us ++ ws))) :
    KBn K fd ps n ks (fun us ws => us ++ ws) (fun us ws => us ++ ws) := by
  obtain ⟨oc, od, kV, doc, pm, an, cdv, ct, osl, rfl, lk, hcd⟩ := F.ex
  exact ⟨fun s us ws _ l1 l2 => .of_eq (h kV doc pm an cdv ct us ws l1 l2), fun r rz => r.append rz⟩
/-- by places -/
def byPl {α : Type} (is : List Nat) (_us ws : List α) : List α := is.filterMap fun i => ws[i]?
theorem Vals.at? : ∀ {zs : List V} {ws : List Value} (i : Nat), Vals zs ws → (∃ z w, zs[i]? = some z ∧ ws[i]? = some w ∧ RelV z w) ∨ (zs[i]? = none ∧ ws[i]? = none)
  | _, _, _, .nil => .inr ⟨rfl, rfl⟩
  | _, _, 0, .cons r _ => .inl ⟨_, _, rfl, rfl, r⟩
  | _, _, i + 1, .cons _ t => Vals.at? i t
theorem Vals.byPl {zs : List V} {ws : List Value} (r : Vals zs ws) : ∀ is : List Nat, Vals (is.filterMap fun i => zs[i]?) (is.filterMap fun i => ws[i]?)
  | [] => .nil
  | i :: t => by
    have ih := Vals.byPl r t
    rcases Vals.at? i r with ⟨z, w, e1, e2, q⟩ | ⟨e1, e2⟩
    · rw [List.filterMap_cons_some e1, List.filterMap_cons_some e2]
      exact .cons q ih
    · rw [List.filterMap_cons_none e1, List.filterMap_cons_none e2]
      exact ih
/-- f(k = v, ..): keywords alone, is: where each parameter's value stands among them -/
theorem Fun.kbp {K : PySem.W.Frag} {x qual : Str} {st : Stmt} {f : Addr} {fd : FuncData} {ps ks : List Str} (is : List Nat) (F : Fun K x qual st f fd)
    (h : ∀ (kV doc pm : Value) (an : Option Addr) (cdv ct : Value) (ws : List Value), ws.length = ks.length → bindArgs (PySem.W.fnOf x qual (defArgs st) (defBody st) (defScope st) .none kV doc pm an cdv ct) ⟨[], ks.zip ws⟩ = pure (ps.zip (byPl is [] ws))) :
    KBn K fd ps 0 ks (byPl is) (byPl is) := by
  obtain ⟨oc, od, kV, doc, pm, an, cdv, ct, osl, rfl, lk, hcd⟩ := F.ex
  refine ⟨fun s us ws _ l1 l2 => .of_eq ?_, fun r rz => Vals.byPl rz is⟩
  cases us with
  | nil => exact h kV doc pm an cdv ct ws l2
  | cons _ _ => cases l1
def tCallK0 (n : Nat) (sp : Sp) (gV : List V → List V → List V) (E : XK) (tk : TA) : TE := fun σ H Q => tk σ H fun zs H2 => zs.length = n ∧ sp (gV [] zs) H2 Q E
section
variable {X : Cx} {CX : CXT} {k : Nat} {f : Addr} {fd : FuncData} {ps ks : List Str} {sp : Sp} {E : XK} {x : Str} {p pos : Pos} {kws : List Keyword} {tk : TA} {g : List Value → List Value → List Value} {gV : List V → List V → List V}
theorem pe_callK0 (F : FnOk X.prog X.w X.K X.mg X.base CX k f fd ps sp) (hr : Room k X.A) (hg : Gl X x) (hm : X.mg x = some (.ref f)) (hk : PySem.W.keepIn X.K (.ref f) = true) (hb : KBn X.K fd ps 0 ks g gV) (hx : Passes CX X E)
    (hkw : PK X kws tk) (hall : (backToKw pos (keywordEach kws X.env)).all (·.1.isSome) = true := by rfl) (hks : (backToKw pos (keywordEach kws X.env)).filterMap (·.1) = ks := by rfl)
    (hdb : (x == ("__debug__" : Str)) = false := by decide)
    (hpl : ((backTo pos (starEach [] X.env)).any (·.1) || (backToKw pos (keywordEach kws X.env)).any (·.1.isNone)) = false := by rfl) :
    PE X (.Call (.Name x p) [] kws pos) (tCallK0 ks.length sp gV E tk) := by
  refine ⟨fun pins s σ H Q I h => ?_⟩
  refine wpAny_Call_Name_kw (ld_glob I hg hm ?_ hdb)
  refine PySem.W.callWith_KW0 (h₀ := X.base) (first := []) I.ok.mod.kin hk hall ?_ hpl
  refine thn (hkw.run pos pins s σ H _ I h) fun ws s2 ⟨zs, H2, I2, rz, l2, q2⟩ => ⟨I2.kIn, ?_⟩
  rw [hks]
  exact run_fnN (us := []) (vs := []) F hr hb hx I2 .nil rz rfl l2 q2
end
end L2
/-! Lemmas that every law of this program wants: the state of the draws, lists and texts, what a comparison of data tells. -/
namespace GL
open PySem PySem.Spec PyProof.Rows L2
/-! ### the draws' state: a list at S, its cells at C -/
def StOk (H : Hp) (S C : Addr) : Prop := ∃ (cells : List Int) (k m : Int), H S = some (.lst [.ref C, .int k, .int m]) ∧ H C = some (.lst (cells.map V.int)) ∧ 0 < cells.length ∧ cells.length ≤ 63 ∧ (∀ c ∈ cells, 0 ≤ c) ∧ 0 ≤ k ∧ 0 ≤ m ∧ m < 2147483647
/-- all but the state stands as it stood -/
def Mod (S C : Addr) (H H' : Hp) : Prop := ∀ b o, H b = some o → b ≠ S → b ≠ C → H' b = some o
theorem Mod.refl (S C : Addr) (H : Hp) : Mod S C H H := fun _ _ h _ _ => h
theorem Mod.trans {S C : Addr} {H H1 H2 : Hp} (a : Mod S C H H1) (b : Mod S C H1 H2) : Mod S C H H2 := fun x o h n1 n2 => b x o (a x o h n1 n2) n1 n2
theorem Mod.of {S C : Addr} {H H1 : Hp} (a : Same H H1) : Mod S C H H1 := fun x o h _ _ => a x o h
theorem same_new {H : Hp} {p : Addr} {o : HO} (h : H p = none) : Same H (upd H p o) := fun b x e => by
  rw [upd_ne (ne_of_none e h)]
  exact e
/-- a new object of the call's own may change -/
theorem _root_.L2.Same.own {H H1 : Hp} {p : Addr} {o : HO} (s : Same H H1) (h : H p = none) : Same H (upd H1 p o) := fun b x e => by
  rw [upd_ne (ne_of_none e h)]
  exact s b x e
theorem Mod.own {S C : Addr} {H H1 : Hp} {p : Addr} {o : HO} (s : Mod S C H H1) (h : H p = none) : Mod S C H (upd H1 p o) := fun b x e n1 n2 => by
  rw [upd_ne (ne_of_none e h)]
  exact s b x e n1 n2
theorem StOk.ne {H : Hp} {S C : Addr} (h : StOk H S C) : S ≠ C := fun e => by
  obtain ⟨cells, k, m, h1, h2, _⟩ := h
  rw [e, h2] at h1
  cases cells with
  | nil => cases h1
  | cons x r => cases h1
theorem StOk.same {H H' : Hp} {S C : Addr} (h : StOk H S C) (s : Same H H') : StOk H' S C := by
  obtain ⟨cells, k, m, h1, h2, r⟩ := h
  exact ⟨cells, k, m, s _ _ h1, s _ _ h2, r⟩
theorem StOk.upd {H : Hp} {S C p : Addr} {o : HO} (h : StOk H S C) (n1 : p ≠ S) (n2 : p ≠ C) : StOk (upd H p o) S C := by
  obtain ⟨cells, k, m, h1, h2, r⟩ := h
  exact ⟨cells, k, m, by rw [upd_ne n1.symm]; exact h1, by rw [upd_ne n2.symm]; exact h2, r⟩
theorem StOk.neS {H : Hp} {S C p : Addr} (h : StOk H S C) (n : H p = none) : p ≠ S := fun e => by
  obtain ⟨cells, k, m, h1, h2, r⟩ := h
  rw [e, h1] at n
  cases n
theorem StOk.neC {H : Hp} {S C p : Addr} (h : StOk H S C) (n : H p = none) : p ≠ C := fun e => by
  obtain ⟨cells, k, m, h1, h2, r⟩ := h
  rw [e, h2] at n
  cases n
/-- an object of another kind is none of the two -/
theorem StOk.offL {H : Hp} {S C p : Addr} {o : HO} (h : StOk H S C) (e : H p = some o) (k : ∀ xs, o ≠ .lst xs) : p ≠ S ∧ p ≠ C := by
  obtain ⟨cells, i, m, h1, h2, r⟩ := h
  refine ⟨fun z => ?_, fun z => ?_⟩
  · rw [z, h1] at e
    exact k _ (Option.some.inj e).symm
  · rw [z, h2] at e
    exact k _ (Option.some.inj e).symm
theorem StOk.offS {H : Hp} {S C p : Addr} {ys : List Str} (h : StOk H S C) (e : H p = some (.lst (ys.map V.str))) : p ≠ S ∧ p ≠ C := by
  obtain ⟨cells, i, m, h1, h2, h0, r⟩ := h
  refine ⟨fun z => ?_, fun z => ?_⟩
  · rw [z, h1] at e
    cases ys with
    | nil => cases e
    | cons y r => cases e
  · rw [z, h2] at e
    cases ys with
    | nil =>
      cases cells with
      | nil => exact absurd h0 (Nat.lt_irrefl _)
      | cons x r => cases e
    | cons y r =>
      cases cells with
      | nil => cases e
      | cons x r => cases e
theorem Mod.strs {S C p : Addr} {H H' : Hp} {ys : List Str} (m : Mod S C H H') (h : StOk H S C) (e : H p = some (.lst (ys.map V.str))) : H' p = some (.lst (ys.map V.str)) :=
  m _ _ e (h.offS e).1 (h.offS e).2
theorem Mod.other {S C p : Addr} {H H' : Hp} {o : HO} (m : Mod S C H H') (h : StOk H S C) (e : H p = some o) (k : ∀ xs, o ≠ .lst xs) : H' p = some o :=
  m _ _ e (h.offL e k).1 (h.offL e k).2
/-! ### items -/
theorem cell_at {xs : List Int} {z : Int} (h0 : 0 ≤ z) (h : z < (xs.length : Int)) : ∃ (j : Nat) (c : Int), z = (j : Int) ∧ j < xs.length ∧ xs[j]? = some c ∧ (xs.map V.int)[j]? = some (.int c) ∧ c ∈ xs := by
  obtain ⟨j, rfl⟩ := Int.eq_ofNat_of_zero_le h0
  have hj : j < xs.length := by omega
  refine ⟨j, xs[j], rfl, hj, List.getElem?_eq_getElem hj, ?_, List.getElem_mem hj⟩
  rw [List.getElem?_map, List.getElem?_eq_getElem hj]
  rfl
theorem ixN_of {n j : Nat} {z : Int} (e : z = (j : Int)) (h : j < n) : ixN n z = some j := by
  subst e
  unfold ixN
  rw [if_pos (by omega), if_pos (by omega)]
  rfl
theorem lst3_set1 (a b c d : V) : ([a, b, c] : List V).set 1 d = [a, d, c] := rfl
theorem at_some {α : Type} {xs : List α} {d : Int} (h0 : 0 ≤ d) (h : d < (xs.length : Int)) : ∃ j v, d = ((j : Nat) : Int) ∧ xs[j]? = some v ∧ v ∈ xs := by
  obtain ⟨j, rfl⟩ := Int.eq_ofNat_of_zero_le h0
  have hj : j < xs.length := by omega
  exact ⟨j, xs[j], rfl, List.getElem?_eq_getElem hj, List.getElem_mem hj⟩
theorem atI_at {α : Type} {xs : List α} {d : Int} {j : Nat} {v : α} (e : d = ((j : Nat) : Int)) (h : xs[j]? = some v) : atI xs d = some v := by
  subst e
  unfold atI
  rw [ixN_of rfl (List.getElem?_eq_some_iff.mp h).1]
  exact h
theorem strs_at {xs : List Str} {j : Nat} {v : Str} (h : xs[j]? = some v) : (xs.map V.str)[j]? = some (.str v) := by
  rw [List.getElem?_map, h]
  rfl
theorem of_strs_at {xs : List Str} {j : Nat} {v : V} (h : (xs.map V.str)[j]? = some v) : ∃ z, xs[j]? = some z ∧ v = .str z := by
  rw [List.getElem?_map] at h
  cases e : xs[j]? with
  | none => rw [e] at h; cases h
  | some z => rw [e] at h; exact ⟨z, rfl, (Option.some.inj h).symm⟩
theorem of_ints_at {xs : List Int} {j : Nat} {v : V} (h : (xs.map V.int)[j]? = some v) : ∃ z, xs[j]? = some z ∧ v = .int z := by
  rw [List.getElem?_map] at h
  cases e : xs[j]? with
  | none => rw [e] at h; cases h
  | some z => rw [e] at h; exact ⟨z, rfl, (Option.some.inj h).symm⟩
theorem take_snoc {α : Type} {l : List α} {i : Nat} {x : α} (h : l[i]? = some x) : l.take (i + 1) = l.take i ++ [x] := by
  rw [List.take_succ, h]
  rfl
theorem small_nat {n : Nat} (h : n ≤ 100000) : (n : Int).natAbs < 2 ^ 200 := by
  rw [Int.natAbs_natCast]
  exact Nat.lt_of_le_of_lt h (by decide)
theorem small_sz {n : Nat} (h : n ≤ 100000) : n ≤ sizeLine := Nat.le_trans h (by decide)
theorem small_lt {n : Nat} (h : n < 100000) : n < sizeLine := Nat.lt_of_lt_of_le h (by decide)
/-- one taken out -/
theorem erase_perm {α : Type} : ∀ {l : List α} {j : Nat} {x : α}, l[j]? = some x → (x :: l.eraseIdx j).Perm l
  | [], _, _, h => by simp at h
  | a :: r, 0, x, h => by
    have e : a = x := Option.some.inj h
    subst e
    exact .refl _
  | a :: r, j + 1, x, h => by
    have ih := erase_perm (l := r) (j := j) (x := x) h
    show (x :: a :: r.eraseIdx j).Perm (a :: r)
    exact (List.Perm.swap _ _ _).trans (ih.cons a)
theorem erase_map {α β : Type} (f : α → β) : ∀ (l : List α) (j : Nat), (l.map f).eraseIdx j = (l.eraseIdx j).map f
  | [], _ => rfl
  | a :: r, 0 => rfl
  | a :: r, j + 1 => by
    show f a :: (r.map f).eraseIdx j = f a :: (r.eraseIdx j).map f
    rw [erase_map f r j]
theorem take_min {α : Type} (xs : List α) (k : Nat) : xs.take (min k xs.length) = xs.take k := by
  by_cases h : k ≤ xs.length
  · rw [Nat.min_eq_left h]
  · rw [Nat.min_eq_right (by omega), List.take_length, List.take_of_length_le (by omega)]
theorem drop_min {α : Type} (xs : List α) (k : Nat) : xs.drop (min k xs.length) = xs.drop k := by
  by_cases h : k ≤ xs.length
  · rw [Nat.min_eq_left h]
  · rw [Nat.min_eq_right (by omega), List.drop_length, List.drop_of_length_le (by omega)]
theorem cut_take (xs : List V) (k : Nat) : cutV xs none (some (k : Int)) = xs.take k := by
  unfold cutV
  rw [HT.sIx_none, HT.sIx_nat, List.drop_zero, Nat.sub_zero, take_min]
theorem cut_drop (xs : List V) (k : Nat) : cutV xs (some (k : Int)) none = xs.drop k := by
  unfold cutV
  rw [HT.sIx_none, HT.sIx_nat, drop_min, List.take_of_length_le]
  rw [List.length_drop]
  omega
/-! ### texts as data -/
theorem dp_all {K : PySem.W.Frag} {H : Hp} : ∀ ys : List Str, DpAll K H (ys.map V.str) (ys.map PyData.str)
  | [] => .nil
  | y :: r => .cons (.str y) (dp_all r)
theorem dp_list {K : PySem.W.Frag} {H : Hp} {a : Addr} {ys : List Str} (h : H a = some (.lst (ys.map V.str))) : Dp K H (.ref a) (.list (ys.map PyData.str)) := .lst (SqL.of h) (dp_all ys)
theorem dp_tup {K : PySem.W.Frag} {H : Hp} {a : Addr} {ys : List Str} (h : H a = some (.tup (ys.map V.str))) : Dp K H (.ref a) (.tuple (ys.map PyData.str)) := .tup (SqT.of h) (dp_all ys)
theorem can_strs : ∀ ys : List Str, (∀ y ∈ ys, PyData.strOk y = true) → PyData.canLayAll0 (ys.map PyData.str) = true
  | [], _ => by rw [List.map_nil, PyData.canLayAll0]
  | y :: r, h => by
    rw [List.map_cons, PyData.canLayAll0, PyData.canLay0, h y List.mem_cons_self, can_strs r fun z hz => h z (List.mem_cons_of_mem _ hz)]
    rfl
theorem depth_strs : ∀ ys : List Str, PyData.depthAll (ys.map PyData.str) = 0
  | [] => by rw [List.map_nil, PyData.depthAll]
  | y :: r => by
    rw [List.map_cons, PyData.depthAll, depth_strs r, PyData.depth]
    rfl
theorem shaped_list {ys : List Str} (h : ∀ y ∈ ys, PyData.strOk y = true) : SeqAt.shaped (.list (ys.map PyData.str)) = true := by
  unfold SeqAt.shaped
  rw [PyData.canLay0, can_strs ys h, PyData.depth, depth_strs]
  rfl
theorem shaped_tup {ys : List Str} (h : ∀ y ∈ ys, PyData.strOk y = true) : SeqAt.shaped (.tuple (ys.map PyData.str)) = true := by
  unfold SeqAt.shaped
  rw [PyData.canLay0, can_strs ys h, PyData.depth, depth_strs]
  rfl
theorem eqv_strs : ∀ xs ys : List Str, PyData.eqvAll (xs.map PyData.str) (ys.map PyData.str) = decide (xs = ys)
  | [], [] => by rw [List.map_nil, PyData.eqvAll]; rfl
  | [], y :: r => by rw [List.map_nil, List.map_cons, PyData.eqvAll]; rfl
  | x :: r, [] => by rw [List.map_nil, List.map_cons, PyData.eqvAll]; rfl
  | x :: r, y :: s => by
    rw [List.map_cons, List.map_cons, PyData.eqvAll, PyData.eqv, eqv_strs r s, Bool.eq_iff_iff, Bool.and_eq_true, beq_iff_eq, decide_eq_true_iff, decide_eq_true_iff, List.cons.injEq]
theorem eqv_lists (xs ys : List Str) : PyData.eqv (.list (xs.map PyData.str)) (.list (ys.map PyData.str)) = decide (xs = ys) := by rw [PyData.eqv, eqv_strs]
theorem eqv_tups (xs ys : List Str) : PyData.eqv (.tuple (xs.map PyData.str)) (.tuple (ys.map PyData.str)) = decide (xs = ys) := by rw [PyData.eqv, eqv_strs]
/-! ### ints as data -/
theorem dpi_all {K : PySem.W.Frag} {H : Hp} : ∀ ys : List Int, DpAll K H (ys.map V.int) (ys.map PyData.int)
  | [] => .nil
  | y :: r => .cons (.int y) (dpi_all r)
theorem can_ints : ∀ ys : List Int, PyData.canLayAll0 (ys.map PyData.int) = true
  | [] => by rw [List.map_nil, PyData.canLayAll0]
  | y :: r => by rw [List.map_cons, PyData.canLayAll0, PyData.canLay0, can_ints r]; rfl
theorem depth_ints : ∀ ys : List Int, PyData.depthAll (ys.map PyData.int) = 0
  | [] => by rw [List.map_nil, PyData.depthAll]
  | y :: r => by rw [List.map_cons, PyData.depthAll, depth_ints r, PyData.depth]; rfl
theorem shapedi_list (ys : List Int) : SeqAt.shaped (.list (ys.map PyData.int)) = true := by
  unfold SeqAt.shaped
  rw [PyData.canLay0, can_ints ys, PyData.depth, depth_ints]
  rfl
theorem shapedi_tup (ys : List Int) : SeqAt.shaped (.tuple (ys.map PyData.int)) = true := by
  unfold SeqAt.shaped
  rw [PyData.canLay0, can_ints ys, PyData.depth, depth_ints]
  rfl
theorem eqv_ints : ∀ xs ys : List Int, PyData.eqvAll (xs.map PyData.int) (ys.map PyData.int) = decide (xs = ys)
  | [], [] => by rw [List.map_nil, PyData.eqvAll]; rfl
  | [], y :: r => by rw [List.map_nil, List.map_cons, PyData.eqvAll]; rfl
  | x :: r, [] => by rw [List.map_nil, List.map_cons, PyData.eqvAll]; rfl
  | x :: r, y :: s => by
    rw [List.map_cons, List.map_cons, PyData.eqvAll, PyData.eqv, eqv_ints r s, Bool.eq_iff_iff, Bool.and_eq_true, beq_iff_eq, decide_eq_true_iff, decide_eq_true_iff, List.cons.injEq]
theorem eqvi_lists (xs ys : List Int) : PyData.eqv (.list (xs.map PyData.int)) (.list (ys.map PyData.int)) = decide (xs = ys) := by rw [PyData.eqv, eqv_ints]
theorem eqvi_tups (xs ys : List Int) : PyData.eqv (.tuple (xs.map PyData.int)) (.tuple (ys.map PyData.int)) = decide (xs = ys) := by rw [PyData.eqv, eqv_ints]
/-! ### promises of the helpers -/
def spDraw : Sp := fun vs H Q _ => ∃ (S C : Addr) (n : Int), vs = [.ref S, .int n] ∧ 0 < n ∧ n.natAbs < 2 ^ 200 ∧ StOk H S C ∧ ∀ H' d, Mod S C H H' → StOk H' S C → 0 ≤ d → d < n → Q (.int d) H'
/-- one of a list, or one sign of a text -/
def spPick : Sp := fun vs H Q _ => ∃ (S C : Addr) (x : V), vs = [.ref S, x] ∧ StOk H S C ∧
  ((∃ a xs, x = .ref a ∧ a ≠ S ∧ a ≠ C ∧ H a = some (.lst xs) ∧ 0 < xs.length ∧ xs.length ≤ 1000 ∧ ∀ H' v, Mod S C H H' → StOk H' S C → v ∈ xs → Q v H') ∨
   (∃ z : Str, x = .str z ∧ 0 < z.cps.toList.length ∧ z.length ≤ 1000 ∧ ∀ H' c, Mod S C H H' → StOk H' S C → c ∈ z.cps.toList → Q (.str ⟨#[c]⟩) H'))
/-- a new list of the same, in some order -/
def spMixed : Sp := fun vs H Q _ => ∃ (S C a : Addr) (ns : List Str), vs = [.ref S, .ref a] ∧ StOk H S C ∧ H a = some (.lst (ns.map V.str)) ∧ ns.length ≤ 100 ∧ (∀ y ∈ ns, PyData.strOk y = true) ∧
  ∀ H' p ys, Mod S C H H' → StOk H' S C → H p = none → H' p = some (.lst (List.map V.str ys)) → ys.Perm ns → Q (.ref p) H'
/-- a slip of at most 58 figures -/
def spSlip : Sp := fun vs H Q _ => ∃ (S C : Addr), vs = [.ref S] ∧ StOk H S C ∧ ∀ H' z, Mod S C H H' → StOk H' S C → Int.natAbs z < 10 ^ 58 → Q (.int z) H'
def spState (K : PySem.W.Frag) : Sp := fun vs H Q _ => ∃ (a : Addr) (ns : List Int), vs = [.ref a] ∧ SqL K H a (ns.map V.int) ∧ ns.length ≤ 63 ∧ ∀ H' S C, Same H H' → H S = none → H C = none → StOk H' S C → Q (.ref S) H'
def spLaw (K : PySem.W.Frag) : Sp := fun vs H Q _ => ∃ (a : Addr) (ns : List Int), vs = [.ref a] ∧ SqL K H a (ns.map V.int) ∧ ns.length ≤ 63 ∧ ∀ H', Q (.bl true) H'
end GL
/-! Own rule: sorted(d), d a dict whose keys are numbers, however many. -/
namespace L2
open PySem PySem.Spec PyProof.Rows
variable {X : Cx}
theorem keys_nums {us : List Value} {ns : List Int} (h : us.length = ns.length) (g : ∀ (i : Nat) (u : Value) (n : Int), us[i]? = some u → ns[i]? = some n → ∃ t, u = Value.int n t) : IntsAre us ns := by
  refine ints_each h fun i u e => ?_
  have hlt : i < ns.length := by rw [← h]; exact (List.getElem?_eq_some_iff.mp e).1
  obtain ⟨t, rfl⟩ := g i u _ e (List.getElem?_eq_getElem hlt)
  exact ⟨_, t, List.getElem?_eq_getElem hlt, rfl⟩
def rSortKeys : List V → Hp → VK → Prop := fun xs H Q => ∃ (d : Addr) (kvs : List (Key × V)) (ns : List Int), xs = [.ref d] ∧ Rd H d (.dK kvs) ∧ kvs.map (·.1) = ns.map Sum.inl ∧ ns.length ≤ 5000 ∧
  ∀ (ms : List Int) (q : Addr), ms.Perm ns → ms.Pairwise (· ≤ ·) → H q = none → Q (.ref q) (upd H q (.lst (ms.map V.int)))
theorem cr_sortedKeys (calm : X.calm = true) : CallR X (.builtin "sorted") rSortKeys := by
  intro pins s σ H xs us Q I rel hyp
  obtain ⟨d, kvs, ns, rfl, hd, hk, hlen, fin⟩ := hyp
  rw [Vals.ref1 rel]
  obtain ⟨z, lo, raw, krel, dl⟩ := dk_rd I.hok hd
  obtain ⟨ep, at'⟩ := dl.dictAt
  have hraw : raw.map (·.1) = ns.map Sum.inl := krel.keys.symm.trans hk
  have len : raw.length = ns.length := by simpa using congrArg List.length hraw
  have line : ns.length ≤ sizeLine := Nat.le_trans hlen (by decide)
  refine Calls.call_function_entry PyProof.Rows.kind_sorted PyProof.Rows.plain_sorted PyProof.Rows.entry_sorted (PyProof.Rows.args_sorted1 _) ?_
  unfold Builtin.«sorted»
  refine wpAny_bind (m := checkCount "sorted" 1 1 _) (wpAny_pure ?_)
  refine wpAny_bind (PySem.W.kdu_collect (A := X.A.in1) (PySem.W.kdl_dict (knd := mixKind X.prog X.w) (kvs := raw) (ep := ep) lo) (I.ok.hd calm) at' (by rw [len]; exact line) fun h1 tk got kept hgot => ?_)
  have gl : got.toList.length = ns.length := by rw [Array.length_toList, hgot.1, len]
  have nums : IntsAre got.toList ns := keys_nums gl fun i u n e en => by
    obtain ⟨k, w, e1, e2⟩ := hgot.2 i u (by rw [← Array.getElem?_toList]; exact e)
    have e3 : (raw.map (·.1))[i]? = some k := by rw [List.getElem?_map, e1]; rfl
    rw [hraw, List.getElem?_map, en] at e3
    have e4 : Sum.inl n = k := Option.some.inj e3
    subst e4
    rcases keyIs_shape (show keyIs (Sum.inl n) u = true from e2) with ⟨m, t, ek, ev⟩ | ⟨m, t, ek, ev⟩
    · cases ek
      exact ⟨t, ev⟩
    · cases ek
  have I1 : Inv X pins σ H { s with heap := h1, toks := tk } := I.kept kept
  refine wpAny_bind (wpAny_newList ?_ (by rw [gl]; exact line))
  have ob : (h1.push (seqObj "list" got.toList.toArray 0)).get? h1.objs.size = some (seqObj "list" got.toList.toArray 0) := Heap.get?_push_size _ rfl
  show wpAny _ _ _ _ _ { s with heap := h1.push (seqObj "list" got.toList.toArray 0), toks := tk }
  refine wpAny_bind (wpAny_holding (wpAny_call_entry PyProof.Rows.slot_list_sort ⟨_, ob, rfl⟩ PyProof.Rows.entry_list_sort
    (SrtO.list_sort_ord SrtO.swo_int (s := { s with heap := h1.push (seqObj "list" got.toList.toArray 0), toks := tk }) ob (by rw [gl]; exact line) (fun two => SrtO.ints_sortable nums two) fun out g1 g2 => ⟨_, rfl, ?_⟩) (PyProof.Rows.args_list_sort _)))
  obtain ⟨k1, k2, k3⟩ := SrtO.ints_out nums g1 g2
  obtain ⟨ep', at2⟩ := PyProof.Rows.sortedHeap_at (vs := got.toList) (out := out.toArray) ob
  have small : ((out.map SrtO.iv).map V.int).length ≤ sizeLine := by rw [List.length_map, k2.length_eq]; exact line
  refine wpAny_pure ⟨_, rfl, .ref h1.objs.size, upd H h1.objs.size (.lst ((out.map SrtO.iv).map V.int)), I1.laid (t' := tk) (fun b u e => ?_) (Nat.le_refl _)
    (show ObjOk X.prog X.w _ _ _ (.lst ((out.map SrtO.iv).map V.int)) from ⟨small, out, ep', vals_of_ints k1, at2⟩), rfl, fin _ _ k2 k3 (I1.hok.fresh (Nat.le_refl _))⟩
  have lt := Heap.lt_size e
  rw [PyProof.Rows.sortedHeap_old (Nat.ne_of_lt lt) (by rw [size_push']; exact Nat.lt_succ_of_lt lt)]
  exact Heap.get?_push_of_some _ e
/-- a row to be gone through that is a list or a tuple -/
theorem pi_either {tg e : Expr} {w1 w2 : TI} (a : PI X tg e w1) (b : PI X tg e w2) : PI X tg e (fun σ H R => w1 σ H R ∨ w2 σ H R) :=
  ⟨fun pins s σ H R I h => h.elim (a.run pins s σ H R I) (b.run pins s σ H R I)⟩
end L2
/-! Tuples of which it is known that they have no dict of their own: made by tuple(l), t + u, t[i:j]; t.index(x). -/
namespace L2
open PySem PySem.Spec PyProof.Rows
/-- a tuple whose object is known -/
def TupF (H : Hp) (a : Addr) (xs : List V) : Prop := ∃ o : Obj, o.dict = none ∧ H a = some (.frz o (.tup xs))
theorem TupF.same {H H' : Hp} {a : Addr} {xs : List V} (h : TupF H a xs) (s : Same H H') : TupF H' a xs := let ⟨o, e, q⟩ := h; ⟨o, e, s _ _ q⟩
theorem TupF.sq {K : PySem.W.Frag} {H : Hp} {a : Addr} {xs : List V} (h : TupF H a xs) : SqT K H a xs := let ⟨o, _, q⟩ := h; .inl (.inr ⟨o, q⟩)
section
variable {X : Cx}
/-- tuple(l), l a list -/
theorem call_tupleF : CallR X (.type "tuple") (fun xs H Q => ∃ p ys, xs = [.ref p] ∧ SqL X.K H p ys ∧ ∀ l o, H l = none → o.dict = none → Q (.ref l) (upd H l (.frz o (.tup ys)))) := by
  intro pins s σ H xs us Q I r h
  obtain ⟨p, ys, rfl, hq, q⟩ := h
  obtain ⟨u, rfl, rx⟩ := vals1 r
  cases rx
  obtain ⟨its, r', pl, hz⟩ := I.list hq
  have hlen := r'.length
  refine call_tuple_list pl.isList (fun h' kp => ?_) (by simp only [List.size_toArray] <;> omega)
  have I1 : Inv X pins σ H { s with heap := h' } := I.kept (t' := s.toks) kp
  have I2 : Inv X pins σ (upd H h'.objs.size (.frz { cls := .type "tuple", data := .seq its.toArray } (.tup ys))) { s with heap := h'.push { cls := .type "tuple", data := .seq its.toArray } } :=
    I1.laid (t' := s.toks) (fun b o e => Heap.get?_push_of_some _ e) (Nat.le_refl _) (show ObjOk X.prog X.w _ _ _ (.frz { cls := .type "tuple", data := .seq its.toArray } (.tup ys)) from ⟨Heap.get?_push_size _ rfl, hz, its, r', IsTup.new _ _⟩)
  exact ⟨.ref h'.objs.size, _, I2, rfl, q _ _ (I1.hok.fresh (Nat.le_refl _)) rfl⟩
/-- t + u -/
def rCatF (K : PySem.W.Frag) : R2 := fun x y H Q => ∃ a b xs ys, x = .ref a ∧ y = .ref b ∧ SqT K H a xs ∧ SqT K H b ys ∧ xs.length + ys.length ≤ sizeLine ∧
  (xs = [] → Q (.ref b) H) ∧ (xs ≠ [] → ys = [] → Q (.ref a) H) ∧ (xs ≠ [] → ys ≠ [] → ∀ p o, H p = none → o.dict = none → Q (.ref p) (upd H p (.frz o (.tup (xs ++ ys)))))
theorem op_catF : OpR X (binaryOp .Add) (rCatF X.K) := by
  intro pins s σ H x y v u Q I rx ry h
  obtain ⟨a, b, xs, ys, rfl, rfl, ha, hb, hz, q0, q1, q2⟩ := h
  by_cases hx : xs = []
  · subst hx
    exact op_catA pins s σ H _ _ v u Q I rx ry ⟨a, b, [], ys, rfl, rfl, ha, hb, hz, q0, fun e => absurd rfl e, fun e => absurd rfl e⟩
  · cases rx
    cases ry
    obtain ⟨its, r1, p1, _⟩ := I.tuple ha
    obtain ⟨its2, r2, p2, _⟩ := I.tuple hb
    refine HT.cat_tup p1 p2 (fun z => hx (r1.nil_iff.mp z)) (fun z => ⟨.ref a, H, I, rfl, q1 hx (r2.nil_iff.mp z)⟩) (fun z => ?_) (by rw [← r1.length, ← r2.length]; exact hz)
    refine ⟨.ref s.heap.objs.size, _, I.laid (t' := s.toks) (o := .frz { cls := .type "tuple", data := .seq (its ++ its2).toArray } (.tup (xs ++ ys))) (fun b ob q => Heap.get?_push_of_some _ q) (Nat.le_refl _) ?_, rfl, q2 hx (fun w => z (r2.nil_iff.mpr w)) _ _ (I.hok.fresh (Nat.le_refl _)) rfl⟩
    exact ⟨Heap.get?_push_size _ rfl, by rw [List.length_append]; exact hz, _, r1.append r2, IsTup.new _ _⟩
/-- t[lo:hi] -/
def rSlF (K : PySem.W.Frag) : V → Option Int → Option Int → Hp → VK → Prop := fun x lo hi H Q => ∃ a xs, x = .ref a ∧ SqT K H a xs ∧
  (HT.sIx xs.length 0 lo = 0 ∧ HT.sIx xs.length xs.length hi = xs.length → Q (.ref a) H) ∧ (¬ (HT.sIx xs.length 0 lo = 0 ∧ HT.sIx xs.length xs.length hi = xs.length) → ∀ p o, H p = none → o.dict = none → Q (.ref p) (upd H p (.frz o (.tup (cutV xs lo hi)))))
theorem sl_tupF : SlR X (rSlF X.K) := by
  intro pins s σ H x v vl vu lo hi sl Q I rx hs pl pu h
  obtain ⟨a, xs, rfl, hx, q1, q2⟩ := h
  by_cases hw : HT.sIx xs.length 0 lo = 0 ∧ HT.sIx xs.length xs.length hi = xs.length
  · exact sl_tupA pins s σ H _ v vl vu lo hi sl Q I rx hs pl pu ⟨a, xs, rfl, hx, q1, fun e => absurd hw e⟩
  · cases rx
    obtain ⟨its, r, ht, hz⟩ := I.tuple hx
    have hlen : its.toArray.size = xs.length := by rw [List.size_toArray]; exact r.length.symm
    refine ⟨"tuple", _, PyProof.Rows.slot_tuple_getitem.lookup, ht.typeIs, ?_⟩
    refine HT.getItem_tuple_cut ht hs pl pu (by rw [hlen]; exact hw) ?_ (by rw [hlen]; exact hz)
    rw [hlen]
    refine ⟨.ref s.heap.objs.size, _, I.laid (t' := s.toks) (o := .frz { cls := .type "tuple", data := .seq ((its.drop (HT.sIx xs.length 0 lo)).take (HT.sIx xs.length xs.length hi - HT.sIx xs.length 0 lo)).toArray } (.tup (cutV xs lo hi))) (fun b ob q => Heap.get?_push_of_some _ q) (Nat.le_refl _) ?_, rfl, q2 hw _ _ (I.hok.fresh (Nat.le_refl _)) rfl⟩
    exact ⟨Heap.get?_push_size _ rfl, Nat.le_trans (cutV_length xs lo hi) hz, _, (r.drop (HT.sIx xs.length 0 lo)).take (HT.sIx xs.length xs.length hi - HT.sIx xs.length 0 lo), IsTup.new _ _⟩
def tBMF (r : V → List V → Hp → VK → Prop) (to : TE) (t : TA) : TE := fun σ H Q => to σ H fun x H1 => (∃ a xs, x = .ref a ∧ TupF H1 a xs) ∧ t σ H1 fun xs H2 => r x xs H2 Q
variable {o e : Expr} {es : List Expr} {to : TE} {t : TA} {name : Str} {apos cpos : Pos} {id : String} {r : V → List V → Hp → VK → Prop}
/-- t.m(e, ..), t a tuple whose object is known -/
theorem pe_bmF (slot : Slot "tuple" name id) (hty : typeOf (.builtin id) = pure (.type "method_descriptor")) (hm : MtR X id r) (ho : PE X o to) (ha : PA X (e :: es) t)
    (hbase : attributeBase o name X.env (eval o X.env) = eval o X.env := by rfl)
    (hfew : ((backTo cpos (starEach (e :: es) X.env)).all (fun x => !x.1) && (backToKw cpos (keywordEach [] X.env)).all (fun x => x.1.isSome)
      && decide ((e :: es).length + ([] : List Keyword).length + (if ([] : List Keyword).isEmpty then 0 else 1) < 30)) = true := by rfl)
    (hline : (apos.endLine == cpos.line) = true := by rfl) (hs : starEach (e :: es) X.env = (false, eval e X.env) :: starEach es X.env := by rfl) (hplain : (backTo cpos (starEach es X.env)).any (·.1) = false := by rfl) :
    PE X (.Call (.Attribute o name apos) (e :: es) [] cpos) (tBMF r to t) := by
  refine ⟨fun pins s σ H Q I h => ?_⟩
  refine wpAny_Call_method_late hbase hfew hline rfl (thn (ho.run pins s σ H _ I h) fun v s1 ⟨x, H1, I1, r1, ty, q1⟩ => ?_)
  obtain ⟨a, xs, rfl, ob, hd, he⟩ := ty
  cases (show v = Value.ref a from r1)
  obtain ⟨hg, _, its, rv, o', h1, h2, _⟩ := (show ObjOk X.prog X.w H1 s1.heap a (.frz ob (.tup xs)) from I1.hok a _ he)
  refine ⟨"tuple", id, PySem.F.plainAttrs_tuple, slot, hty, ⟨o', h1, h2⟩, fun b eb => ?_, ?_⟩
  · cases eb
    exact ⟨ob, hg, hd⟩
  have hA := ha.run cpos pins s1 σ H1 _ I1 q1
  rw [hs] at hA ⊢
  refine Calls.callWith_builtin (by show (false || (backTo cpos (starEach es X.env)).any (·.1)) = false; rw [hplain] <;> rfl) (Calls.evalArgs_plain ?_)
  exact thn hA fun us s2 ⟨vs, H2, I2, r2, q2⟩ => hm pins s2 σ H2 _ vs _ us Q I2 r1 r2 q2
end
end L2
/-! Names: texts of one to eight small letters. -/
namespace GL
open PySem PySem.Spec PyProof.Rows L2
abbrev abc : Str := ("abcdefghijklmnopqrstuvwxyz" : Str)
def one (c : Nat) : Str := ⟨#[c]⟩
def NameOk (z : Str) : Prop := 1 ≤ z.cps.toList.length ∧ z.cps.toList.length ≤ 8 ∧ ∀ c ∈ z.cps.toList, 97 ≤ c ∧ c ≤ 122
instance (z : Str) : Decidable (NameOk z) := by unfold NameOk; exact inferInstance
theorem NameOk.str {z : Str} (h : NameOk z) : PyData.strOk z = true := by
  unfold PyData.strOk
  rw [← Array.all_toList, List.all_eq_true]
  intro c hc
  have := (h.2.2 c hc).2
  exact decide_eq_true (by omega)
theorem NameOk.len {z : Str} (h : NameOk z) : z.length ≤ 8 := by
  have e : z.cps.toList.length = z.length := Array.length_toList
  have := h.2.1
  omega
theorem NameOk.len1 {z : Str} (h : NameOk z) : 1 ≤ z.length := by
  have e : z.cps.toList.length = z.length := Array.length_toList
  have := h.1
  omega
theorem abc_mem {c : Nat} : c ∈ abc.cps.toList ↔ 97 ≤ c ∧ c ≤ 122 := by
  have h1 : ∀ c ∈ abc.cps.toList, 97 ≤ c ∧ c ≤ 122 := by decide +kernel
  have h2 : ∀ k, k < 26 → (97 + k) ∈ abc.cps.toList := by decide +kernel
  refine ⟨h1 c, fun h => ?_⟩
  have := h2 (c - 97) (by omega)
  rwa [show 97 + (c - 97) = c by omega] at this
theorem one_ok {c : Nat} (h : 97 ≤ c ∧ c ≤ 122) : PyData.strOk (one c) = true := by
  have : NameOk (one c) := ⟨Nat.le_refl _, (by show 1 ≤ 8; decide), fun x hx => by
    rw [show (one c).cps.toList = [c] from rfl, List.mem_singleton] at hx
    rw [hx]
    exact h⟩
  exact this.str
theorem glue_fold : ∀ (ys : List Str) (acc : Array Nat), (ys.foldl (fun a y => a ++ (Str.empty).cps ++ y.cps) acc).toList = acc.toList ++ ys.flatMap fun y => y.cps.toList
  | [], acc => by rw [List.foldl_nil, List.flatMap_nil, List.append_nil]
  | y :: r, acc => by
    rw [List.foldl_cons, glue_fold r, List.flatMap_cons, Array.toList_append, Array.toList_append, show (Str.empty).cps.toList = [] from rfl, List.append_nil, List.append_assoc]
theorem glue_nil (ys : List Str) : (Txt.join ⟨#[]⟩ ys).cps.toList = ys.flatMap fun y => y.cps.toList := by
  show ((ys.drop 1).foldl (fun a y => a ++ (Str.empty).cps ++ y.cps) (ys.headD Str.empty).cps).toList = _
  rw [glue_fold]
  cases ys with
  | nil => rfl
  | cons y r => rfl
theorem glue_ones (cs : List Nat) : (Txt.join ⟨#[]⟩ (cs.map one)).cps.toList = cs := by
  rw [glue_nil]
  induction cs with
  | nil => rfl
  | cons c r ih =>
    rw [List.map_cons, List.flatMap_cons, ih]
    rfl
theorem ones_len : ∀ cs : List Nat, ((cs.map one).map (·.length)).sum = cs.length
  | [] => rfl
  | c :: r => by
    rw [List.map_cons, List.map_cons, List.sum_cons, ones_len r, List.length_cons]
    show 1 + r.length = r.length + 1
    omega
/-- the first seven signs and one more -/
def w7 (z : Str) (c : Nat) : Str := cutS z none (some 7) ++ one c
theorem w7_cps (z : Str) (c : Nat) : (w7 z c).cps.toList = z.cps.toList.take 7 ++ [c] := by
  show ((cutS z none (some 7)).cps ++ (one c).cps).toList = _
  rw [Array.toList_append]
  have e : (cutS z none (some 7)).cps.toList = z.cps.toList.take 7 := by
    show (z.cps.toList.drop (HT.sIx z.length 0 none)).take (HT.sIx z.length z.length (some ((7 : Nat) : Int)) - HT.sIx z.length 0 none) = _
    rw [HT.sIx_none, HT.sIx_nat, List.drop_zero, Nat.sub_zero, show z.length = z.cps.toList.length from Array.length_toList.symm, take_min]
  rw [e]
  rfl
theorem w7_ok {z : Str} {c : Nat} (h : NameOk z) (hc : 97 ≤ c ∧ c ≤ 122) : NameOk (w7 z c) := by
  unfold NameOk
  rw [w7_cps]
  refine ⟨by rw [List.length_append, List.length_singleton]; omega, by rw [List.length_append, List.length_singleton, List.length_take]; omega, fun x hx => ?_⟩
  rcases List.mem_append.mp hx with hx | hx
  · exact h.2.2 x (List.mem_of_mem_take hx)
  · rw [List.mem_singleton] at hx
    rw [hx]
    exact hc
theorem w7_inj {z : Str} {c d : Nat} (h : w7 z c = w7 z d) : c = d := by
  have e := congrArg (fun x : Str => x.cps.toList) h
  rw [w7_cps, w7_cps] at e
  have := List.append_cancel_left e
  exact (List.cons.inj this).1
/-- the word itself, then its turns by the signs -/
def turns27 (z : Str) : List Str := z :: abc.cps.toList.map (w7 z)
theorem turns27_ok {z : Str} (h : NameOk z) : ∀ y ∈ turns27 z, NameOk y := fun y hy => by
  rcases List.mem_cons.mp hy with rfl | hy
  · exact h
  · obtain ⟨c, hc, rfl⟩ := List.mem_map.mp hy
    exact w7_ok h (abc_mem.mp hc)
theorem nodup_map {α β : Type} {f : α → β} (hf : ∀ a b, f a = f b → a = b) : ∀ {l : List α}, l.Nodup → (l.map f).Nodup
  | [], _ => List.nodup_nil
  | a :: r, h => by
    rw [List.nodup_cons] at h
    rw [List.map_cons, List.nodup_cons]
    refine ⟨fun hm => ?_, nodup_map hf h.2⟩
    obtain ⟨b, hb, e⟩ := List.mem_map.mp hm
    rw [hf _ _ e] at hb
    exact h.1 hb
theorem abc_nodup : abc.cps.toList.Nodup := by decide +kernel
/-- of so many one is none of few -/
theorem fresh_one {z : Str} {found : List Str} (h : found.length < 26) : (turns27 z).filter (fun y => !decide (y ∈ found)) ≠ [] := fun e => by
  have sub : abc.cps.toList.map (w7 z) ⊆ found := fun y hy => by
    refine Classical.byContradiction fun hn => ?_
    have : y ∈ (turns27 z).filter (fun y => !decide (y ∈ found)) := List.mem_filter.mpr ⟨List.mem_cons_of_mem _ hy, by rw [decide_eq_false hn]; rfl⟩
    rw [e] at this
    cases this
  have := List.Nodup.length_le_of_subset (nodup_map (fun a b => w7_inj) abc_nodup) sub
  rw [List.length_map, show abc.cps.toList.length = 26 by decide +kernel] at this
  omega
theorem inV_strs (x : Str) : ∀ ys : List Str, inV (.str x) (ys.map V.str) = decide (x ∈ ys)
  | [] => rfl
  | y :: r => by
    have ih := inV_strs x r
    unfold inV at ih ⊢
    rw [List.map_cons, List.any_cons, ih, Bool.eq_iff_iff, Bool.or_eq_true, decide_eq_true_iff, decide_eq_true_iff, List.mem_cons]
    show ((y == x) = true ∨ _) ↔ _
    rw [beq_iff_eq]
    exact ⟨fun h => h.imp Eq.symm id, fun h => h.imp Eq.symm id⟩
def spNames : Sp := fun vs H Q _ => ∃ (S C : Addr) (n : Int), vs = [.ref S, .int n] ∧ 0 ≤ n ∧ n ≤ 14 ∧ StOk H S C ∧
  ∀ H' p ys, Mod S C H H' → StOk H' S C → H p = none → H' p = some (.lst (List.map V.str ys)) → ys.length = n.toNat → ys.Nodup → (∀ y ∈ ys, NameOk y) → Q (.ref p) H'
end GL
namespace GL
open PySem PySem.Spec PyProof.Rows L2
def words13 : List Str := ["ring", "may", "sure", "far", "more", "go", "come", "watch", "round", "anew", "swap", "seat", "undo"]
theorem words13_ok : ∀ y ∈ words13, NameOk y := by decide +kernel
def etao : Str := "etaoinshrdlcumwf"
theorem etao_mem : ∀ c ∈ etao.cps.toList, 97 ≤ c ∧ c ≤ 122 := by decide +kernel
/-- of so many turns one is none of few -/
theorem fresh_w7 {z : Str} {found : List Str} (h : found.length < 26) : (abc.cps.toList.map (w7 z)).filter (fun y => !decide (y ∈ found)) ≠ [] := fun e => by
  have sub : abc.cps.toList.map (w7 z) ⊆ found := fun y hy => by
    refine Classical.byContradiction fun hn => ?_
    have : y ∈ (abc.cps.toList.map (w7 z)).filter (fun y => !decide (y ∈ found)) := List.mem_filter.mpr ⟨hy, by rw [decide_eq_false hn]; rfl⟩
    rw [e] at this
    cases this
  have := List.Nodup.length_le_of_subset (nodup_map (fun a b => w7_inj) abc_nodup) sub
  rw [List.length_map, show abc.cps.toList.length = 26 by decide +kernel] at this
  omega
end GL
/-! Slips by names, rounds. -/
namespace GL
open PySem PySem.Spec PyProof.Rows L2
/-! ### a dict of slips -/
def SlipsAt (H : Hp) (d : Addr) (ns : List Str) (sl : Str → Int) : Prop := ∃ kvs : List (Key × V), H d = some (.dK kvs) ∧ kvs.length = ns.length ∧ (kvs.map (·.1)).Nodup ∧ ∀ n ∈ ns, valV kvs (Sum.inr n : Key) = some (.int (sl n))
theorem SlipsAt.same {H H' : Hp} {d : Addr} {ns : List Str} {sl : Str → Int} (h : SlipsAt H d ns sl) (s : Same H H') : SlipsAt H' d ns sl := by
  obtain ⟨kvs, h1, r⟩ := h
  exact ⟨kvs, s _ _ h1, r⟩
theorem SlipsAt.mod {H H' : Hp} {d S C : Addr} {ns : List Str} {sl : Str → Int} (h : SlipsAt H d ns sl) (s : Mod S C H H') (st : StOk H S C) : SlipsAt H' d ns sl := by
  obtain ⟨kvs, h1, r⟩ := h
  exact ⟨kvs, s.other st h1 (fun _ z => nomatch z), r⟩
theorem valV_mem {κ : Type} [DecidableEq κ] : ∀ {kvs : List (κ × V)} {k : κ}, k ∈ kvs.map (·.1) → ∃ v, valV kvs k = some v ∧ (k, v) ∈ kvs
  | [], _, h => nomatch h
  | (k0, v0) :: r, k, h => by
    by_cases e : k0 = k
    · subst e
      exact ⟨v0, valV_pos rfl, List.mem_cons_self⟩
    · rw [List.map_cons, List.mem_cons] at h
      rcases h with h | h
      · exact absurd h.symm e
      · obtain ⟨v, h1, h2⟩ := valV_mem h
        exact ⟨v, by rw [valV_neg e]; exact h1, List.mem_cons_of_mem _ h2⟩
theorem valV_none {κ : Type} [DecidableEq κ] : ∀ {kvs : List (κ × V)} {k : κ}, k ∉ kvs.map (·.1) → valV kvs k = none
  | [], _, _ => rfl
  | (k0, v0) :: r, k, h => by
    rw [List.map_cons, List.mem_cons, not_or] at h
    rw [valV_neg (fun e => h.1 e.symm)]
    exact valV_none h.2
theorem merge_new : ∀ (more kvs : List (Key × V)), ((kvs ++ more).map (·.1)).Nodup → mergeK kvs more = kvs ++ more
  | [], kvs, _ => by rw [List.append_nil]; rfl
  | (k, v) :: r, kvs, h => by
    show mergeK (putK kvs k v) r = _
    have hk : k ∉ kvs.map (·.1) := fun hm => by
      rw [List.map_append, List.nodup_append] at h
      exact h.2.2 k hm k (by rw [List.map_cons]; exact List.mem_cons_self) rfl
    have e1 : kvs ++ (k, v) :: r = (kvs ++ [(k, v)]) ++ r := by rw [List.append_assoc]; rfl
    rw [putK_new v (valV_none hk), e1]
    exact merge_new r _ (by rw [← e1]; exact h)
theorem put_old_len {κ : Type} [DecidableEq κ] {kvs : List (κ × V)} {k : κ} {x v : V} (h : valV kvs k = some x) : (putK kvs k v).length = kvs.length ∧ (putK kvs k v).map (·.1) = kvs.map (·.1) := by
  have a : (kvs.any fun kv => decide (kv.1 = k)) = true := by rw [valV_any, h]; rfl
  unfold putK
  rw [if_pos a]
  refine ⟨List.length_map _, ?_⟩
  rw [List.map_map]
  refine List.map_congr_left fun p _ => ?_
  show (if p.1 = k then (p.1, v) else p).1 = p.1
  split <;> rfl
def setSl (sl : Str → Int) (n : Str) (z : Int) : Str → Int := fun x => if x = n then z else sl x
theorem SlipsAt.put {H : Hp} {d : Addr} {ns : List Str} {sl : Str → Int} {kvs : List (Key × V)} {n : Str} {z : Int} (hl : kvs.length = ns.length) (hn : (kvs.map (·.1)).Nodup) (hv : ∀ n ∈ ns, valV kvs (Sum.inr n : Key) = some (.int (sl n))) (hm : n ∈ ns) :
    SlipsAt (upd H d (.dK (putK kvs (Sum.inr n : Key) (.int z)))) d ns (setSl sl n z) := by
  have q := put_old_len (v := .int z) (hv n hm)
  refine ⟨_, upd_same, q.1.trans hl, by rw [q.2]; exact hn, fun m hmm => ?_⟩
  rw [valV_put]
  unfold setSl
  by_cases e : m = n
  · rw [if_pos (congrArg Sum.inr e), if_pos e]
  · rw [if_neg (fun h => e (Sum.inr.inj h)), if_neg e]
    exact hv m hmm
/-! ### rounds -/
def nexts (sl : Str → Int) : Nat → Str → List Str → List Str
  | 0, _, _ => []
  | n + 1, g, row => row.getD (sl g % (row.length : Int)).toNat Str.empty :: nexts sl n (row.getD (sl g % (row.length : Int)).toNat Str.empty) (row.drop ((sl g % (row.length : Int)).toNat + 1) ++ row.take (sl g % (row.length : Int)).toNat)
/-- those behind b, round and round, without b -/
def behind (ns : List Str) (b : Str) : List Str := ns.drop (ns.idxOf b + 1) ++ ns.take (ns.idxOf b)
def orderOf (ns : List Str) (sl : Str → Int) (b : Str) : List Str := b :: nexts sl (ns.length - 1) b (behind ns b)
theorem idx_lt {ns : List Str} {b : Str} (h : b ∈ ns) : ns.idxOf b < ns.length := List.idxOf_lt_length_iff.mpr h
theorem idx_at {ns : List Str} {b : Str} (h : b ∈ ns) : ns[ns.idxOf b]? = some b := by
  rw [List.getElem?_eq_getElem (idx_lt h), List.getElem_idxOf]
theorem idx_first {b : Str} : ∀ {ns : List Str} {m : Nat}, m < ns.idxOf b → ns[m]? ≠ some b
  | [], m, h => by simp at h
  | x :: r, m, h => by
    rw [List.idxOf_cons] at h
    by_cases e : x = b
    · rw [show (x == b) = true from beq_iff_eq.mpr e] at h
      exact absurd h (Nat.not_lt_zero _)
    · rw [show (x == b) = false from beq_eq_false_iff_ne.mpr e] at h
      cases m with
      | zero =>
        intro q
        exact e (Option.some.inj q)
      | succ m =>
        exact idx_first (ns := r) (Nat.lt_of_succ_lt_succ h)
theorem behind_len {ns : List Str} {b : Str} (h : b ∈ ns) : (behind ns b).length = ns.length - 1 := by
  have := idx_lt h
  unfold behind
  rw [List.length_append, List.length_drop, List.length_take]
  omega
/-- at the place that the slip leaves -/
theorem spot {row : List Str} (z : Int) (h : row ≠ []) : ∃ j, z % (row.length : Int) = ((j : Nat) : Int) ∧ j < row.length ∧ (z % (row.length : Int)).toNat = j ∧ row[j]? = some (row.getD j Str.empty) := by
  have hp := List.length_pos_iff.mpr h
  have h0 := Int.emod_nonneg z (show (row.length : Int) ≠ 0 by omega)
  have h1 := Int.emod_lt_of_pos z (show (0 : Int) < (row.length : Int) by omega)
  obtain ⟨j, hj⟩ := Int.eq_ofNat_of_zero_le h0
  refine ⟨j, hj, by omega, by omega, ?_⟩
  rw [List.getD_eq_getElem?_getD, List.getElem?_eq_getElem (by omega)]
  rfl
theorem nexts_step {sl : Str → Int} {n j : Nat} {g : Str} {row : List Str} (hj : (sl g % (row.length : Int)).toNat = j) : nexts sl (n + 1) g row = row.getD j Str.empty :: nexts sl n (row.getD j Str.empty) (row.drop (j + 1) ++ row.take j) := by
  subst hj
  rfl
theorem cut_len {row : List Str} {j : Nat} (h : j < row.length) : (row.drop (j + 1) ++ row.take j).length = row.length - 1 := by
  rw [List.length_append, List.length_drop, List.length_take]
  omega
/-- all of them, from behind x on, x itself last -/
def rot (ns : List Str) (x : Str) : List Str := ns.drop (ns.idxOf x + 1) ++ ns.take (ns.idxOf x + 1)
theorem idx_mid {x : Str} : ∀ {U : List Str} (V : List Str), x ∉ U → (U ++ x :: V).idxOf x = U.length
  | [], V, _ => by rw [List.nil_append, List.idxOf_cons, show (x == x) = true from beq_self_eq_true x]; rfl
  | u :: U, V, h => by
    rw [List.mem_cons, not_or] at h
    rw [List.cons_append, List.idxOf_cons, show (u == x) = false from beq_eq_false_iff_ne.mpr fun e => h.1 e.symm, List.length_cons]
    show (U ++ x :: V).idxOf x + 1 = _
    rw [idx_mid V h.2]
theorem rot_mid {U V : List Str} {x : Str} (h : x ∉ U) : rot (U ++ x :: V) x = V ++ U ++ [x] := by
  unfold rot
  have e : U ++ x :: V = (U ++ [x]) ++ V := by rw [List.append_assoc]; rfl
  have l : U.length + 1 = (U ++ [x]).length := by rw [List.length_append]; rfl
  rw [idx_mid V h, e, l, List.drop_left, List.take_left, List.append_assoc]
theorem behind_mid {U V : List Str} {x : Str} (h : x ∉ U) : behind (U ++ x :: V) x = V ++ U := by
  unfold behind
  have e : U ++ x :: V = (U ++ [x]) ++ V := by rw [List.append_assoc]; rfl
  have l : U.length + 1 = (U ++ [x]).length := by rw [List.length_append]; rfl
  rw [idx_mid V h, List.take_left, e, l, List.drop_left]
theorem nd_mid {U V : List Str} {x : Str} (h : (U ++ x :: V).Nodup) : x ∉ U ∧ x ∉ V := by
  rw [List.nodup_append, List.nodup_cons] at h
  exact ⟨fun hm => h.2.2 x hm x List.mem_cons_self rfl, h.2.1.1⟩
/-- counting on: from behind g to behind x -/
theorem rot_on {ns : List Str} {g x : Str} {A B : List Str} (hn : ns.Nodup) (hg : g ∈ ns) (e : rot ns g = A ++ x :: B) : rot ns x = B ++ A ++ [x] := by
  obtain ⟨U, V, rfl⟩ := List.append_of_mem hg
  obtain ⟨hU, hV⟩ := nd_mid hn
  rw [rot_mid hU] at e
  have hnr : (V ++ U ++ [g]).Nodup := by
    have p : (V ++ U ++ [g]).Perm (U ++ g :: V) := by
      rw [List.append_assoc]
      refine List.perm_append_comm.trans ?_
      rw [List.append_assoc]
      exact .refl _
    exact p.nodup_iff.mpr hn
  have hx : x ∈ V ++ U ++ [g] := by rw [e]; exact List.mem_append_right _ List.mem_cons_self
  have uniq : ∀ {A' B' : List Str}, V ++ U ++ [g] = A' ++ x :: B' → A' = A ∧ B' = B := fun {A' B'} e' => by
    have h1 := nd_mid (e ▸ hnr)
    have h2 := nd_mid (e' ▸ hnr)
    have e2 : A' ++ x :: B' = A ++ x :: B := e'.symm.trans e
    have l : A'.length = A.length := by
      have i1 := idx_mid B' h2.1
      have i2 := idx_mid B h1.1
      rw [← i1, ← i2, e2]
    have := List.append_inj e2 l
    exact ⟨this.1, (List.cons.inj this.2).2⟩
  rw [List.append_assoc, List.mem_append] at hx
  rcases hx with hx | hx
  · obtain ⟨V1, V2, rfl⟩ := List.append_of_mem hx
    obtain ⟨rfl, rfl⟩ := uniq (A' := V1) (B' := V2 ++ U ++ [g]) (by simp)
    have hx1 : x ∉ U ++ g :: V1 := by
      have : (U ++ g :: (V1 ++ x :: V2)) = (U ++ g :: V1) ++ x :: V2 := by simp
      rw [this] at hn
      exact (nd_mid hn).1
    have : U ++ g :: (V1 ++ x :: V2) = (U ++ g :: V1) ++ x :: V2 := by simp
    rw [this, rot_mid hx1]
    simp
  · rw [List.mem_append, List.mem_singleton] at hx
    rcases hx with hx | rfl
    · obtain ⟨U1, U2, rfl⟩ := List.append_of_mem hx
      obtain ⟨rfl, rfl⟩ := uniq (A' := V ++ U1) (B' := U2 ++ [g]) (by simp)
      have this : U1 ++ x :: U2 ++ g :: V = U1 ++ x :: (U2 ++ g :: V) := by simp
      rw [this] at hn ⊢
      rw [rot_mid (nd_mid hn).1]
      simp
    · obtain ⟨rfl, rfl⟩ := uniq (A' := V ++ U) (B' := []) rfl
      rw [rot_mid hU]
      simp
/-- who still sits, listed from behind the latest goer: the shrinking row -/
def sitting (ns goers : List Str) (g : Str) : List Str := (rot ns g).filter fun x => !decide (x ∈ goers)
theorem sitting_first {ns : List Str} {b : Str} (hn : ns.Nodup) (hb : b ∈ ns) : sitting ns [b] b = behind ns b := by
  obtain ⟨U, V, rfl⟩ := List.append_of_mem hb
  obtain ⟨hU, hV⟩ := nd_mid hn
  unfold sitting
  rw [rot_mid hU, behind_mid hU, List.filter_append, List.filter_eq_self.mpr]
  · simp
  · intro x hx
    have : x ≠ b := fun e => by
      rw [e] at hx
      rcases List.mem_append.mp hx with hx | hx
      · exact hV hx
      · exact hU hx
    simp [this]
theorem sitting_next {ns goers : List Str} {g : Str} {j : Nat} (hn : ns.Nodup) (hg : g ∈ ns) (hj : j < (sitting ns goers g).length) :
    sitting ns (goers ++ [(sitting ns goers g).getD j Str.empty]) ((sitting ns goers g).getD j Str.empty) = (sitting ns goers g).drop (j + 1) ++ (sitting ns goers g).take j ∧ (sitting ns goers g).getD j Str.empty ∈ ns := by
  generalize hx : (sitting ns goers g).getD j Str.empty = x
  have hget : (sitting ns goers g)[j]? = some x := by
    rw [← hx, List.getD_eq_getElem?_getD, List.getElem?_eq_getElem hj]
    rfl
  have hsplit : sitting ns goers g = (sitting ns goers g).take j ++ x :: (sitting ns goers g).drop (j + 1) := by
    have e1 := List.getElem_of_getElem? hget
    obtain ⟨h1, e1⟩ := e1
    rw [← e1, List.getElem_cons_drop, List.take_append_drop]
  unfold sitting at hsplit ⊢
  obtain ⟨A, B, eAB, eA, eB⟩ : ∃ A B, rot ns g = A ++ x :: B ∧ A.filter (fun y => !decide (y ∈ goers)) = ((rot ns g).filter fun y => !decide (y ∈ goers)).take j ∧ B.filter (fun y => !decide (y ∈ goers)) = ((rot ns g).filter fun y => !decide (y ∈ goers)).drop (j + 1) := by
    obtain ⟨A, R, e1, e2, e3⟩ := List.filter_eq_append_iff.mp hsplit
    obtain ⟨A1, B1, f1, f2, f3, f4⟩ := List.filter_eq_cons_iff.mp e3
    refine ⟨A ++ A1, B1, by rw [e1, f1, List.append_assoc], ?_, f4⟩
    rw [List.filter_append, e2, List.filter_eq_nil_iff.mpr f2, List.append_nil]
  have hr := rot_on hn hg eAB
  have hxn : x ∈ ns := by
    obtain ⟨U, V, rfl⟩ := List.append_of_mem hg
    obtain ⟨hU, hV⟩ := nd_mid hn
    rw [rot_mid hU] at eAB
    have : x ∈ V ++ U ++ [g] := by rw [eAB]; exact List.mem_append_right _ List.mem_cons_self
    simp only [List.mem_append, List.mem_singleton, List.mem_cons, List.not_mem_nil, or_false] at this ⊢
    rcases this with (h | h) | h
    · exact .inr (.inr h)
    · exact .inl h
    · exact .inr (.inl h)
  have hnd : (A ++ x :: B).Nodup := by
    rw [← eAB]
    obtain ⟨U, V, rfl⟩ := List.append_of_mem hg
    obtain ⟨hU, hV⟩ := nd_mid hn
    rw [rot_mid hU]
    have p : (V ++ U ++ [g]).Perm (U ++ g :: V) := by
      rw [List.append_assoc]
      refine List.perm_append_comm.trans ?_
      rw [List.append_assoc]
      exact .refl _
    exact p.nodup_iff.mpr hn
  obtain ⟨hA, hB⟩ := nd_mid hnd
  refine ⟨?_, hxn⟩
  rw [hr, List.filter_append, List.filter_append, ← eA, ← eB]
  have drop1 : ∀ L : List Str, x ∉ L → L.filter (fun y => !decide (y ∈ goers ++ [x])) = L.filter fun y => !decide (y ∈ goers) := fun L hL => by
    refine List.filter_congr fun y hy => ?_
    have : y ≠ x := fun e => hL (e ▸ hy)
    simp [this]
  rw [drop1 B hB, drop1 A hA]
  simp
end GL
namespace GL
open PySem PySem.Spec PyProof.Rows L2
theorem Paired.mapF {α β : Type} {F G : α → β → Prop} (h : ∀ a b, F a b → G a b) : ∀ {xs : List α} {ys : List β}, Paired F xs ys → Paired G xs ys
  | _, _, .nil => .nil
  | _, _, .cons a r => .cons (h _ _ a) (Paired.mapF h r)
def slOf (kvs : List (Key × V)) (n : Str) : Int := match valV kvs (Sum.inr n : Key) with
  | some (.int z) => z
  | _ => 0
def spSlips : Sp := fun vs H Q _ => ∃ (S C a : Addr) (ns : List Str), vs = [.ref S, .ref a] ∧ StOk H S C ∧ H a = some (.lst (ns.map V.str)) ∧ ns.length ≤ 100 ∧ ns.Nodup ∧ (∀ y ∈ ns, PyData.strOk y = true) ∧
  ∀ H' d sl, Mod S C H H' → StOk H' S C → H d = none → SlipsAt H' d ns sl → (∀ n ∈ ns, Int.natAbs (sl n) < 10 ^ 58) → Q (.ref d) H'
def spOrder : Sp := fun vs H Q _ => ∃ (a d : Addr) (ns : List Str) (sl : Str → Int) (b : Str), vs = [.ref a, .ref d, .str b] ∧ H a = some (.lst (ns.map V.str)) ∧ SlipsAt H d ns sl ∧ ns.length ≤ 100 ∧ ns.Nodup ∧ (∀ y ∈ ns, PyData.strOk y = true) ∧ b ∈ ns ∧
  ∀ H' t, Same H H' → H t = none → H' t = some (.tup ((orderOf ns sl b).map V.str)) → Q (.ref t) H'
theorem cut_drop_s (ns : List Str) (j : Nat) : cutV (ns.map V.str) (some ((j : Int) + 1)) none = (ns.drop (j + 1)).map V.str := by
  rw [show (some ((j : Int) + 1)) = some ((j + 1 : Nat) : Int) from rfl, cut_drop, List.map_drop]
theorem cut_take_s (ns : List Str) (j : Nat) : cutV (ns.map V.str) none (some (j : Int)) = (ns.take j).map V.str := by
  rw [cut_take, List.map_take]
theorem last_s (found : List Str) (g : Str) : atI ((found ++ [g]).map V.str) (-1) = some (.str g) := by
  rw [List.map_append]
  exact atI_last _ _
theorem len_s {ns : List Str} (h : ns.length ≤ 1000) : (ns.map V.str).length ≤ sizeLine := by
  rw [List.length_map]
  exact small_sz (by omega)
/-! ### rings -/
structure GoodNs (ns : List Str) : Prop where
  two : 2 ≤ ns.length
  twelve : ns.length ≤ 12
  nd : ns.Nodup
  ok : ∀ y ∈ ns, NameOk y
theorem GoodNs.str {ns : List Str} (g : GoodNs ns) : ∀ y ∈ ns, PyData.strOk y = true := fun y hy => (g.ok y hy).str
/-- the attributes as __init__ stores them -/
def rflds (nl sd : Addr) : List (Str × V) := putF "_slips" (.ref sd) (putF "_names" (.ref nl) [])
theorem rk : ¬ (("_names" : Str) = "_slips") := by decide +kernel
theorem rflds_names (nl sd : Addr) : (rflds nl sd).lookup ("_names" : Str) = some (.ref nl) := by
  unfold rflds
  rw [lookup_putF, if_neg rk, lookup_putF, if_pos rfl]
theorem rflds_slips (nl sd : Addr) : (rflds nl sd).lookup ("_slips" : Str) = some (.ref sd) := by
  unfold rflds
  rw [lookup_putF, if_pos rfl]
theorem rflds_no (nl sd : Addr) {m : Str} (h1 : ¬ m = "_names") (h2 : ¬ m = "_slips") : (rflds nl sd).lookup m = none := by
  unfold rflds
  rw [lookup_putF, if_neg h2, lookup_putF, if_neg h1]
  all_goals rfl
structure RingAt (aR : Addr) (H : Hp) (p : Addr) (ns : List Str) (sl : Str → Int) : Prop where
  ex : ∃ dx nl sd, H p = some (.ins aR dx (rflds nl sd)) ∧ H nl = some (.lst (ns.map V.str)) ∧ SlipsAt H sd ns sl
  good : GoodNs ns
theorem RingAt.same {aR p : Addr} {H H' : Hp} {ns : List Str} {sl : Str → Int} (h : RingAt aR H p ns sl) (s : Same H H') : RingAt aR H' p ns sl := by
  obtain ⟨⟨dx, nl, sd, h1, h2, h3⟩, g⟩ := h
  exact ⟨⟨dx, nl, sd, s _ _ h1, s _ _ h2, h3.same s⟩, g⟩
theorem RingAt.mod {aR p S C : Addr} {H H' : Hp} {ns : List Str} {sl : Str → Int} (h : RingAt aR H p ns sl) (s : Mod S C H H') (st : StOk H S C) : RingAt aR H' p ns sl := by
  obtain ⟨⟨dx, nl, sd, h1, h2, h3⟩, g⟩ := h
  exact ⟨⟨dx, nl, sd, s.other st h1 (fun _ z => nomatch z), s.strs st h2, h3.mod s st⟩, g⟩
def spIsName : Sp := fun vs H Q _ => ∃ z : Str, vs = [.str z] ∧ NameOk z ∧ ∀ H', Same H H' → Q (.bl true) H'
def spIsNumber : Sp := fun vs H Q _ => ∃ z : Int, vs = [.int z] ∧ Q (.bl true) H
/-- a list, or a tuple whose object is known -/
def SqAt (b : Bool) (H : Hp) (a : Addr) (xs : List V) : Prop := match b with
  | true => TupF H a xs
  | false => H a = some (.lst xs)
theorem SqAt.same {b : Bool} {H H' : Hp} {a : Addr} {xs : List V} (h : SqAt b H a xs) (s : Same H H') : SqAt b H' a xs := match b, h with
  | true, h => TupF.same h s
  | false, h => s _ _ h
theorem SqAt.seq {K : PySem.W.Frag} {b : Bool} {H : Hp} {a : Addr} {xs : List V} (h : SqAt b H a xs) : SqL K H a xs ∨ SqT K H a xs := match b, h with
  | true, h => .inr (TupF.sq h)
  | false, h => .inl (SqL.of h)
theorem SqAt.l {K : PySem.W.Frag} {H : Hp} {a : Addr} {xs : List V} (h : SqAt false H a xs) : SqL K H a xs := SqL.of (show H a = some (.lst xs) from h)
theorem SqAt.t {K : PySem.W.Frag} {H : Hp} {a : Addr} {xs : List V} (h : SqAt true H a xs) : SqT K H a xs := TupF.sq h
theorem SqAt.tyl {K : PySem.W.Frag} {H : Hp} {a : Addr} {xs : List V} (h : SqAt false H a xs) : TyX K H (.ref a) (.type "list") := .base (.lst (show H a = some (.lst xs) from h))
theorem SqAt.tyt {K : PySem.W.Frag} {H : Hp} {a : Addr} {xs : List V} (h : SqAt true H a xs) : TyX K H (.ref a) (.type "tuple") := let ⟨_, _, e⟩ := h; .fTuple e
/-- a list or a tuple, to be read -/
def SeqR (H : Hp) (a : Addr) (xs : List V) : Prop := H a = some (.lst xs) ∨ H a = some (.tup xs) ∨ TupF H a xs
theorem SeqR.same {H H' : Hp} {a : Addr} {xs : List V} (h : SeqR H a xs) (s : Same H H') : SeqR H' a xs := h.imp (s _ _ ·) (Or.imp (s _ _ ·) (·.same s))
theorem SeqR.seq {K : PySem.W.Frag} {H : Hp} {a : Addr} {xs : List V} (h : SeqR H a xs) : SqL K H a xs ∨ SqT K H a xs := h.imp SqL.of (·.elim SqT.of TupF.sq)
theorem SqAt.rd {b : Bool} {H : Hp} {a : Addr} {xs : List V} (h : SqAt b H a xs) : SeqR H a xs := match b, h with
  | true, h => .inr (.inr h)
  | false, h => .inl h
theorem TupF.mod {S C p : Addr} {H H' : Hp} {xs : List V} (m : TupF H p xs) (s : Mod S C H H') (st : StOk H S C) : TupF H' p xs := let ⟨o, d, e⟩ := m; ⟨o, d, s.other st e (fun _ z => nomatch z)⟩
theorem slF {K : PySem.W.Frag} {H : Hp} {a : Addr} {xs : List V} {lo hi : Option Int} {Q : VK} (ha : TupF H a xs) (q : ∀ H' p, Same H H' → TupF H' p (cutV xs lo hi) → Q (.ref p) H') : rSlF K (.ref a) lo hi H Q := by
  refine ⟨a, xs, rfl, ha.sq, fun ⟨h1, h2⟩ => q H a (fun _ _ h => h) ?_, fun _ p o np e => q _ p (same_new np) ⟨o, e, upd_same⟩⟩
  unfold cutV
  rw [h1, h2, List.drop_zero, Nat.sub_zero, List.take_length]
  exact ha
theorem slF' {K : PySem.W.Frag} {H : Hp} {a : Addr} {xs : List V} {lo hi : Option Int} {Q : VK} (ha : SqT K H a xs) (hw : ¬ (HT.sIx xs.length 0 lo = 0 ∧ HT.sIx xs.length xs.length hi = xs.length)) (q : ∀ H' p, Same H H' → H p = none → TupF H' p (cutV xs lo hi) → Q (.ref p) H') : rSlF K (.ref a) lo hi H Q :=
  ⟨a, xs, rfl, ha, fun e => absurd e hw, fun _ p o np e => q _ p (same_new np) np ⟨o, e, upd_same⟩⟩
theorem slA {K : PySem.W.Frag} {H : Hp} {a : Addr} {xs : List V} {lo hi : Option Int} {Q : VK} (ha : H a = some (.tup xs)) (q : ∀ H' p, Same H H' → H' p = some (.tup (cutV xs lo hi)) → Q (.ref p) H') : rSlA K (.ref a) lo hi H Q := by
  refine ⟨a, xs, rfl, SqT.of ha, fun ⟨h1, h2⟩ => q H a (fun _ _ h => h) ?_, fun _ p np => q _ p (same_new np) upd_same⟩
  rw [ha]
  unfold cutV
  rw [h1, h2, List.drop_zero, Nat.sub_zero, List.take_length]
theorem catA {K : PySem.W.Frag} {H : Hp} {a b : Addr} {xs ys : List V} {Q : VK} (ha : H a = some (.tup xs)) (hb : H b = some (.tup ys)) (hl : xs.length + ys.length ≤ sizeLine) (q : ∀ H' p, Same H H' → H' p = some (.tup (xs ++ ys)) → Q (.ref p) H') : rCatA K (.ref a) (.ref b) H Q := by
  refine ⟨a, b, xs, ys, rfl, rfl, SqT.of ha, SqT.of hb, hl, fun e => q H b (fun _ _ h => h) ?_, fun _ e => q H a (fun _ _ h => h) ?_, fun _ _ p np => q _ p (same_new np) upd_same⟩
  · rw [hb, e]; rfl
  · rw [ha, e, List.append_nil]
theorem catF {K : PySem.W.Frag} {H : Hp} {a b : Addr} {xs ys : List V} {Q : VK} (ha : TupF H a xs) (hb : TupF H b ys) (hl : xs.length + ys.length ≤ sizeLine) (q : ∀ H' p, Same H H' → TupF H' p (xs ++ ys) → Q (.ref p) H') : rCatF K (.ref a) (.ref b) H Q := by
  refine ⟨a, b, xs, ys, rfl, rfl, ha.sq, hb.sq, hl, fun e => q H b (fun _ _ h => h) ?_, fun _ e => q H a (fun _ _ h => h) ?_, fun _ _ p o np d => q _ p (same_new np) ⟨o, d, upd_same⟩⟩
  · rw [e]; exact hb
  · rw [e, List.append_nil]; exact ha
theorem ixSeq {K : PySem.W.Frag} {H : Hp} {a : Addr} {xs : List V} {i : Int} {v : V} {Q : VK} (ha : SeqR H a xs) (e : atI xs i = some v) (q : Q v H) : rIx K (.ref a) (.int i) H Q :=
  (ha.seq (K := K)).elim (fun h => .inl ⟨a, xs, i, v, rfl, rfl, h, e, q⟩) (fun h => .inr (.inl ⟨a, xs, i, v, rfl, rfl, h, e, q⟩))
def spIsNames : Sp := fun vs H Q _ => ∃ (c : Bool) (a : Addr) (ns : List Str), vs = [.ref a] ∧ SqAt c H a (ns.map V.str) ∧ GoodNs ns ∧ ∀ H', Same H H' → Q (.bl true) H'
def spChkNames : Sp := fun vs H Q _ => ∃ (c : Bool) (a : Addr) (ns : List Str), vs = [.ref a] ∧ SqAt c H a (ns.map V.str) ∧ GoodNs ns ∧ ∀ H', Same H H' → Q .non H'
def spChkName : Sp := fun vs H Q _ => ∃ (c : Bool) (a : Addr) (ns : List Str) (x : Str), vs = [.ref a, .str x] ∧ SqAt c H a (ns.map V.str) ∧ x ∈ ns ∧ Q .non H
def spIsSlips : Sp := fun vs H Q _ => ∃ (a d : Addr) (ns : List Str) (sl : Str → Int), vs = [.ref a, .ref d] ∧ H a = some (.lst (ns.map V.str)) ∧ SlipsAt H d ns sl ∧ ns.length ≤ 100 ∧ ∀ H', Same H H' → Q (.bl true) H'
def spBehind : Sp := fun vs H Q _ => ∃ (c : Bool) (a : Addr) (ns : List Str) (x : Str), vs = [.ref a, .str x] ∧ SqAt c H a (ns.map V.str) ∧ ns.length ≤ 100 ∧ x ∈ ns ∧ ∀ H' p, Same H H' → SqAt c H' p ((rot ns x).map V.str) → Q (.ref p) H'
def spSit : Sp := fun vs H Q _ => ∃ (c : Bool) (a g : Addr) (ns found : List Str) (x : Str), vs = [.ref a, .ref g] ∧ SqAt c H a (ns.map V.str) ∧ SeqR H g ((found ++ [x]).map V.str) ∧ ns.length ≤ 100 ∧ x ∈ ns ∧
  ∀ H' p, Same H H' → H p = none → H' p = some (.lst ((sitting ns (found ++ [x]) x).map V.str)) → Q (.ref p) H'
def spInit (aR : Addr) : Sp := fun vs H Q _ => ∃ (p dx a d : Addr) (ns : List Str) (sl : Str → Int), vs = [.ref p, .ref a, .ref d] ∧ H p = some (.ins aR dx []) ∧ H a = some (.lst (ns.map V.str)) ∧ SlipsAt H d ns sl ∧ GoodNs ns ∧
  ∀ H', (∀ b o, H b = some o → b ≠ p → H' b = some o) → RingAt aR H' p ns sl → Q .non H'
def spCounted (aR : Addr) : Sp := fun vs H Q _ => ∃ (p r : Addr) (ns row : List Str) (sl : Str → Int) (g : Str), vs = [.ref p, .str g, .ref r] ∧ RingAt aR H p ns sl ∧ g ∈ ns ∧ H r = some (.lst (row.map V.str)) ∧ row ≠ [] ∧ row.length ≤ 100 ∧
  Q (.str (row.getD (sl g % (row.length : Int)).toNat Str.empty)) H
def spROrder (aR : Addr) : Sp := fun vs H Q _ => ∃ (p : Addr) (ns : List Str) (sl : Str → Int) (b : Str), vs = [.ref p, .str b] ∧ RingAt aR H p ns sl ∧ b ∈ ns ∧ ∀ H' t, Same H H' → H t = none → H' t = some (.tup ((orderOf ns sl b).map V.str)) → Q (.ref t) H'
def spWith (aR : Addr) : Sp := fun vs H Q _ => ∃ (p : Addr) (ns : List Str) (sl : Str → Int) (n : Str) (z : Int), vs = [.ref p, .str n, .int z] ∧ RingAt aR H p ns sl ∧ n ∈ ns ∧ ∀ H' q, Same H H' → H q = none → RingAt aR H' q ns (setSl sl n z) → Q (.ref q) H'
theorem rot_len {ns : List Str} {x : Str} : (rot ns x).length = ns.length := by
  unfold rot
  rw [List.length_append, List.length_drop, List.length_take]
  omega
theorem sitting_len {ns goers : List Str} {x : Str} : (sitting ns goers x).length ≤ ns.length := by
  unfold sitting
  exact Nat.le_trans (List.length_filter_le _ _) (Nat.le_of_eq rot_len)
theorem all_true {α : Type} (f : α → Bool) : ∀ xs : List α, (∀ x ∈ xs, f x = true) → (xs.map f).all id = true
  | [], _ => rfl
  | x :: r, h => by
    rw [List.map_cons, List.all_cons, h x List.mem_cons_self, all_true f r fun y hy => h y (List.mem_cons_of_mem _ hy)]
    rfl
theorem all_rep (n : Nat) : (List.replicate n true).all id = true := by
  rw [List.all_eq_true]
  intro x hx
  exact List.eq_of_mem_replicate hx
theorem nexts_mem {sl : Str → Int} : ∀ (n : Nat) (g : Str) (row : List Str), row.length = n → ∀ y ∈ nexts sl n g row, y ∈ row
  | 0, _, _, _, y, h => nomatch h
  | n + 1, g, row, hl, y, h => by
    have hne : row ≠ [] := fun e => by rw [e] at hl; cases hl
    obtain ⟨j, ej, hj, hjn, hget⟩ := spot (sl g) hne
    rw [nexts_step hjn] at h
    rcases List.mem_cons.mp h with rfl | h
    · exact List.mem_of_getElem? hget
    · have := nexts_mem n _ _ (by rw [cut_len hj]; omega) y h
      rcases List.mem_append.mp this with h | h
      · exact List.mem_of_mem_drop h
      · exact List.mem_of_mem_take h
theorem order_mem {ns : List Str} {sl : Str → Int} {b : Str} (hb : b ∈ ns) : ∀ y ∈ orderOf ns sl b, y ∈ ns := fun y hy => by
  rcases List.mem_cons.mp hy with rfl | hy
  · exact hb
  · have := nexts_mem _ b (behind ns b) (behind_len hb) y hy
    unfold behind at this
    rcases List.mem_append.mp this with h | h
    · exact List.mem_of_mem_drop h
    · exact List.mem_of_mem_take h
theorem GoodNs.ostr {ns : List Str} (g : GoodNs ns) {sl : Str → Int} {b : Str} (hb : b ∈ ns) : ∀ y ∈ orderOf ns sl b, PyData.strOk y = true := fun y hy => g.str y (order_mem hb y hy)
theorem RingAt.noM {aR p : Addr} {H : Hp} {ns : List Str} {sl : Str → Int} (h : RingAt aR H p ns sl) {m : Str} (h1 : ¬ m = "_names") (h2 : ¬ m = "_slips") : ∃ dx fs, H p = some (.ins aR dx fs) ∧ fs.lookup m = none := by
  obtain ⟨⟨dx, nl, sd, e, _⟩, _⟩ := h
  exact ⟨dx, _, e, rflds_no nl sd h1 h2⟩
end GL
/-! Orders and places: who sits, who goes at which place, the row of places, one to one. -/
namespace GL
open PySem PySem.Spec PyProof.Rows L2
theorem rotP_perm (ns : List Str) (x : Str) : (rot ns x).Perm ns := by
  unfold rot
  refine List.perm_append_comm.trans ?_
  rw [List.take_append_drop]
theorem sit_mem {ns found : List Str} {g y : Str} : y ∈ sitting ns found g ↔ y ∈ ns ∧ y ∉ found := by
  unfold sitting
  rw [List.mem_filter, (rotP_perm ns g).mem_iff]
  simp
theorem sit_nd {ns found : List Str} {g : Str} (hn : ns.Nodup) : (sitting ns found g).Nodup := by
  unfold sitting
  exact ((rotP_perm ns g).nodup_iff.mpr hn).filter _
theorem filt_len {L : List Str} (hn : L.Nodup) : ∀ {found : List Str}, found.Nodup → (∀ y ∈ found, y ∈ L) → (L.filter fun x => !decide (x ∈ found)).length + found.length = L.length
  | [], _, _ => by
    rw [List.filter_eq_self.mpr (fun x _ => by simp)]
    rfl
  | y :: r, hd, hs => by
    rw [List.nodup_cons] at hd
    have ih := filt_len hn hd.2 (fun z hz => hs z (List.mem_cons_of_mem _ hz))
    have e : (L.filter fun x => !decide (x ∈ y :: r)) = (L.filter fun x => !decide (x ∈ r)).erase y := by
      rw [List.Nodup.erase_eq_filter (hn.filter _), List.filter_filter]
      refine List.filter_congr fun x _ => ?_
      by_cases h1 : x = y
      · subst h1; simp
      · simp [h1, List.mem_cons]
    have hm : y ∈ L.filter fun x => !decide (x ∈ r) := List.mem_filter.mpr ⟨hs y List.mem_cons_self, by simp [hd.1]⟩
    have l1 := List.length_erase_of_mem hm
    have l2 := List.length_pos_of_mem hm
    rw [e, l1, List.length_cons]
    omega
theorem sit_len {ns found : List Str} {g : Str} (hn : ns.Nodup) (hf : found.Nodup) (hs : ∀ y ∈ found, y ∈ ns) : (sitting ns found g).length + found.length = ns.length := by
  unfold sitting
  rw [filt_len ((rotP_perm ns g).nodup_iff.mpr hn) hf (fun y hy => (rotP_perm ns g).mem_iff.mpr (hs y hy))]
  exact rot_len
/-- who goes, place by place -/
def goTail (ns : List Str) : List Str → Str → List Nat → List Str
  | _, _, [] => []
  | found, g, p :: r => (sitting ns found g).getD p Str.empty :: goTail ns (found ++ [(sitting ns found g).getD p Str.empty]) ((sitting ns found g).getD p Str.empty) r
/-- the places, goer by goer -/
def told (ns : List Str) : List Str → Str → List Str → List Nat
  | _, _, [] => []
  | found, g, x :: r => (sitting ns found g).idxOf x :: told ns (found ++ [x]) x r
def PlOk : Nat → List Nat → Prop
  | _, [] => True
  | m, p :: r => p < m ∧ PlOk (m - 1) r
def orderBy (ns : List Str) (b : Str) (ps : List Nat) : List Str := b :: goTail ns [b] b ps
theorem getD_mem {L : List Str} {p : Nat} (h : p < L.length) : L.getD p Str.empty ∈ L := by
  rw [List.getD_eq_getElem?_getD, List.getElem?_eq_getElem h]
  exact List.getElem_mem h
theorem getD_at {L : List Str} {p : Nat} (h : p < L.length) : L[p]? = some (L.getD p Str.empty) := by
  rw [List.getD_eq_getElem?_getD, List.getElem?_eq_getElem h]
  rfl
theorem goTail_len {ns : List Str} : ∀ {ps : List Nat} {found : List Str} {g : Str}, (goTail ns found g ps).length = ps.length
  | [], _, _ => rfl
  | p :: r, found, g => congrArg (· + 1) (goTail_len (ns := ns))
theorem told_len {ns : List Str} : ∀ {rest found : List Str} {g : Str}, (told ns found g rest).length = rest.length
  | [], _, _ => rfl
  | p :: r, found, g => congrArg (· + 1) (told_len (ns := ns))
theorem idxOf_mid {x : Str} : ∀ {A B : List Str}, x ∉ A → (A ++ x :: B).idxOf x = A.length := fun {A B} h => idx_mid B h
theorem idxOf_getD {L : List Str} (hn : L.Nodup) {p : Nat} (h : p < L.length) : L.idxOf (L.getD p Str.empty) = p := by
  have hg := getD_at h
  have hsplit : L = L.take p ++ L.getD p Str.empty :: L.drop (p + 1) := by
    obtain ⟨h1, e1⟩ := List.getElem?_eq_some_iff.mp hg
    rw [← e1, List.getElem_cons_drop, List.take_append_drop]
  have hd : (L.take p ++ L.getD p Str.empty :: L.drop (p + 1)).Nodup := hsplit ▸ hn
  have hx := (nd_mid hd).1
  have e := idx_mid (L.drop (p + 1)) hx
  rw [← hsplit, List.length_take, Nat.min_eq_left (Nat.le_of_lt h)] at e
  exact e
theorem snoc_nd {found : List Str} {x : Str} (hf : found.Nodup) (hx : x ∉ found) : (found ++ [x]).Nodup := by
  rw [List.nodup_append]
  refine ⟨hf, List.nodup_cons.mpr ⟨List.not_mem_nil, List.nodup_nil⟩, fun u hu v hv e => ?_⟩
  rw [List.mem_singleton] at hv
  exact hx (by rw [← hv, ← e]; exact hu)
theorem snoc_sub {ns found : List Str} {x : Str} (hs : ∀ y ∈ found, y ∈ ns) (hx : x ∈ ns) : ∀ y ∈ found ++ [x], y ∈ ns := fun y hy => by
  rcases List.mem_append.mp hy with h | h
  · exact hs y h
  · rw [List.mem_singleton.mp h]; exact hx
/-- places of a row of goers lead to it -/
theorem go_told {ns : List Str} (hn : ns.Nodup) : ∀ {rest found : List Str} {g : Str}, (found ++ rest).Nodup → (∀ y ∈ found ++ rest, y ∈ ns) → goTail ns found g (told ns found g rest) = rest ∧ PlOk (ns.length - found.length) (told ns found g rest)
  | [], _, _, _, _ => ⟨rfl, trivial⟩
  | x :: r, found, g, hd, hs => by
    have hx : x ∉ found := (nd_mid hd).1
    have hxn : x ∈ ns := hs x (List.mem_append_right _ List.mem_cons_self)
    have hm : x ∈ sitting ns found g := sit_mem.mpr ⟨hxn, hx⟩
    have hf : found.Nodup := (List.nodup_append.mp hd).1
    have hfs : ∀ y ∈ found, y ∈ ns := fun y hy => hs y (List.mem_append_left _ hy)
    have e : (sitting ns found g).getD ((sitting ns found g).idxOf x) Str.empty = x := by
      have := getD_at (idx_lt hm)
      rw [idx_at hm] at this
      exact (Option.some.inj this).symm
    have e2 : found ++ x :: r = (found ++ [x]) ++ r := by rw [List.append_assoc]; rfl
    rw [e2] at hd hs
    obtain ⟨i1, i2⟩ := go_told hn (g := x) hd hs
    refine ⟨?_, ?_, ?_⟩
    · show (sitting ns found g).getD ((sitting ns found g).idxOf x) Str.empty :: goTail ns (found ++ [(sitting ns found g).getD ((sitting ns found g).idxOf x) Str.empty]) ((sitting ns found g).getD ((sitting ns found g).idxOf x) Str.empty) (told ns (found ++ [x]) x r) = x :: r
      rw [e, i1]
    · have := idx_lt hm
      have := sit_len (g := g) hn hf hfs
      omega
    · rw [List.length_append] at i2
      exact (show ns.length - found.length - 1 = ns.length - (found.length + [x].length) from by simp only [List.length_singleton]; omega) ▸ i2
/-- and the places of whom they lead to are they -/
theorem told_go {ns : List Str} (hn : ns.Nodup) : ∀ {ps : List Nat} {found : List Str} {g : Str}, found.Nodup → (∀ y ∈ found, y ∈ ns) → PlOk (ns.length - found.length) ps →
    told ns found g (goTail ns found g ps) = ps ∧ (found ++ goTail ns found g ps).Nodup ∧ ∀ y ∈ found ++ goTail ns found g ps, y ∈ ns
  | [], found, _, hf, hs, _ => ⟨rfl, by rw [show goTail ns found _ [] = [] from rfl, List.append_nil]; exact hf, fun y hy => by rw [show goTail ns found _ [] = [] from rfl, List.append_nil] at hy; exact hs y hy⟩
  | p :: r, found, g, hf, hs, hp => by
    obtain ⟨hp1, hp2⟩ := hp
    have hl := sit_len (g := g) hn hf hs
    have hlt : p < (sitting ns found g).length := by omega
    generalize hx : (sitting ns found g).getD p Str.empty = x
    have hm : x ∈ sitting ns found g := by rw [← hx]; exact getD_mem hlt
    obtain ⟨hm1, hm2⟩ := sit_mem.mp hm
    have hi : (sitting ns found g).idxOf x = p := by rw [← hx]; exact idxOf_getD (sit_nd hn) hlt
    have hp3 : PlOk (ns.length - (found ++ [x]).length) r := by
      rw [List.length_append, List.length_singleton]
      exact (show ns.length - found.length - 1 = ns.length - (found.length + 1) by omega) ▸ hp2
    obtain ⟨i1, i2, i3⟩ := told_go hn (g := x) (snoc_nd hf hm2) (snoc_sub hs hm1) hp3
    have e : goTail ns found g (p :: r) = x :: goTail ns (found ++ [x]) x r := by
      show (sitting ns found g).getD p Str.empty :: _ = _
      rw [hx]
    have e2 : found ++ x :: goTail ns (found ++ [x]) x r = (found ++ [x]) ++ goTail ns (found ++ [x]) x r := by rw [List.append_assoc]; rfl
    rw [e, e2]
    refine ⟨?_, i2, i3⟩
    show (sitting ns found g).idxOf x :: told ns (found ++ [x]) x _ = p :: r
    rw [hi, i1]
/-- stepping from seat to seat -/
theorem rotP_at {ns : List Str} {g : Str} {k : Nat} (hg : g ∈ ns) (hk : k < ns.length) : (rot ns g)[k]? = ns[(ns.idxOf g + 1 + k) % ns.length]? := by
  have hi := idx_lt hg
  unfold rot
  rw [List.getElem?_append]
  split
  · next h =>
    rw [List.length_drop] at h
    rw [List.getElem?_drop, Nat.mod_eq_of_lt (by omega)]
  · next h =>
    rw [List.length_drop] at h ⊢
    rw [List.getElem?_take, if_pos (by omega), show ns.idxOf g + 1 + k = (k - (ns.length - (ns.idxOf g + 1))) + ns.length by omega, Nat.add_mod_right, Nat.mod_eq_of_lt (by omega)]
/-- how many of the first k sit -/
def cnt (ns fd : List Str) (g : Str) (k : Nat) : Nat := (((rot ns g).take k).filter fun x => !decide (x ∈ fd)).length
theorem cnt_zero {ns fd : List Str} {g : Str} : cnt ns fd g 0 = 0 := rfl
theorem cnt_step {ns fd : List Str} {g y : Str} {k : Nat} (h : (rot ns g)[k]? = some y) : cnt ns fd g (k + 1) = cnt ns fd g k + (if y ∈ fd then 0 else 1) := by
  unfold cnt
  rw [take_snoc h, List.filter_append, List.length_append, List.filter_cons]
  by_cases e : y ∈ fd
  · rw [decide_eq_true e, if_pos e]; rfl
  · rw [decide_eq_false e, if_neg e]; rfl
theorem cnt_split {ns fd : List Str} {g y : Str} {k : Nat} (h : (rot ns g)[k]? = some y) (hy : y ∉ fd) : ∃ A B, sitting ns fd g = A ++ y :: B ∧ A.length = cnt ns fd g k := by
  obtain ⟨h1, e1⟩ := List.getElem?_eq_some_iff.mp h
  have e : rot ns g = (rot ns g).take k ++ y :: (rot ns g).drop (k + 1) := by rw [← e1, List.getElem_cons_drop, List.take_append_drop]
  refine ⟨((rot ns g).take k).filter (fun x => !decide (x ∈ fd)), ((rot ns g).drop (k + 1)).filter (fun x => !decide (x ∈ fd)), ?_, rfl⟩
  unfold sitting
  conv => lhs; rw [e]
  rw [List.filter_append, List.filter_cons, decide_eq_false hy]
  rfl
theorem cnt_hit {ns fd : List Str} {g y : Str} {k p : Nat} (h : (rot ns g)[k]? = some y) (hy : y ∉ fd) (hp : cnt ns fd g k = p) : (sitting ns fd g).getD p Str.empty = y := by
  obtain ⟨A, B, e, l⟩ := cnt_split h hy
  rw [List.getD_eq_getElem?_getD, e, List.getElem?_append_right (by omega), l, hp, Nat.sub_self]
  rfl
theorem cnt_more {ns fd : List Str} {g : Str} {k p : Nat} (h : cnt ns fd g k ≤ p) (hp : p < (sitting ns fd g).length) : k < ns.length := by
  refine Nat.lt_of_not_le fun hk => ?_
  unfold cnt at h
  rw [List.take_of_length_le (by rw [rot_len]; exact hk)] at h
  unfold sitting at hp
  omega
theorem cnt_idx {ns fd : List Str} {g y : Str} {k : Nat} (hn : ns.Nodup) (h : (rot ns g)[k]? = some y) (hy : y ∉ fd) : cnt ns fd g k = (sitting ns fd g).idxOf y := by
  obtain ⟨A, B, e, l⟩ := cnt_split h hy
  have hd : (A ++ y :: B).Nodup := e ▸ sit_nd hn
  rw [e, idx_mid B (nd_mid hd).1, l]
theorem idx_of_at {ns : List Str} {x : Str} {j : Nat} (hn : ns.Nodup) (h : ns[j]? = some x) : ns.idxOf x = j := by
  obtain ⟨h1, e1⟩ := List.getElem?_eq_some_iff.mp h
  have hg : ns.getD j Str.empty = x := by rw [List.getD_eq_getElem?_getD, h]; rfl
  rw [← hg]
  exact idxOf_getD hn h1
theorem seat_next {a n : Nat} : ((a % n : Nat) + 1 : Int) % (n : Int) = (((a + 1) % n : Nat) : Int) := by
  rw [← Nat.mod_add_mod a n 1]
  rfl
/-- one for who sits, nought for who went -/
def sd01 (fd : List Str) : Str → Int := fun y => if y ∈ fd then 0 else 1
theorem SlipsAt.congr {H : Hp} {d : Addr} {ns : List Str} {sl sl' : Str → Int} (h : SlipsAt H d ns sl) (e : ∀ n ∈ ns, sl n = sl' n) : SlipsAt H d ns sl' := by
  obtain ⟨kvs, h1, h2, h3, h4⟩ := h
  exact ⟨kvs, h1, h2, h3, fun n hn => by rw [← e n hn]; exact h4 n hn⟩
theorem sd01_put {fd : List Str} {x : Str} (n : Str) : setSl (sd01 fd) x 0 n = sd01 (fd ++ [x]) n := by
  unfold setSl sd01
  by_cases e : n = x
  · rw [if_pos e, if_pos (by rw [e]; exact List.mem_append_right _ (List.mem_singleton.mpr rfl))]
  · rw [if_neg e]
    by_cases h : n ∈ fd
    · rw [if_pos h, if_pos (List.mem_append_left _ h)]
    · rw [if_neg h, if_neg (fun hm => (List.mem_append.mp hm).elim h fun q => e (List.mem_singleton.mp q))]
/-! ### the rests told -/
def toldAt (ns os : List Str) (i : Nat) : Nat × Nat := ((sitting ns (os.take (i + 1)) (os.getD i Str.empty)).idxOf (os.getD (i + 1) Str.empty), (sitting ns (os.take (i + 1)) (os.getD i Str.empty)).length)
def toldP (ns os : List Str) : List (Nat × Nat) := (List.range (os.length - 1)).map (toldAt ns os)
theorem told_idx {ns : List Str} : ∀ (rest pre : List Str) (g : Str), told ns (pre ++ [g]) g rest = (List.range rest.length).map fun j => (toldAt ns (pre ++ g :: rest) (pre.length + j)).1
  | [], _, _ => rfl
  | x :: r, pre, g => by
    have ih := told_idx (ns := ns) r (pre ++ [g]) x
    have e0 : pre ++ [g] ++ x :: r = pre ++ g :: x :: r := by rw [List.append_assoc]; rfl
    rw [List.length_cons, List.range_succ_eq_map, List.map_cons, List.map_map]
    show (sitting ns (pre ++ [g]) g).idxOf x :: told ns (pre ++ [g] ++ [x]) x r = _
    rw [ih]
    congr 1
    · unfold toldAt
      have t1 : (pre ++ g :: x :: r).take (pre.length + 0 + 1) = pre ++ [g] := by
        rw [← e0, show pre.length + 0 + 1 = (pre ++ [g]).length by rw [List.length_append]; rfl, List.take_left]
      have t2 : (pre ++ g :: x :: r).getD (pre.length + 0) Str.empty = g := by
        rw [List.getD_eq_getElem?_getD, List.getElem?_append_right (by omega), show pre.length + 0 - pre.length = 0 by omega]; rfl
      have t3 : (pre ++ g :: x :: r).getD (pre.length + 0 + 1) Str.empty = x := by
        rw [List.getD_eq_getElem?_getD, List.getElem?_append_right (by omega), show pre.length + 0 + 1 - pre.length = 1 by omega]; rfl
      rw [t1, t2, t3]
    · refine List.map_congr_left fun j _ => ?_
      show (toldAt ns (pre ++ [g] ++ x :: r) ((pre ++ [g]).length + j)).1 = (toldAt ns (pre ++ g :: x :: r) (pre.length + (j + 1))).1
      rw [e0, List.length_append, List.length_singleton, Nat.add_assoc, Nat.add_comm 1 j]
theorem toldP_fst {ns : List Str} {b : Str} {rest : List Str} : (toldP ns (b :: rest)).map (·.1) = told ns [b] b rest := by
  have := told_idx (ns := ns) rest [] b
  rw [List.nil_append] at this
  rw [this]
  unfold toldP
  rw [List.map_map, List.length_cons, Nat.add_sub_cancel]
  refine List.map_congr_left fun j _ => ?_
  show (toldAt ns (b :: rest) j).1 = (toldAt ns (b :: rest) (0 + j)).1
  rw [Nat.zero_add]
theorem toldAt_snd {ns os : List Str} {i : Nat} (hn : ns.Nodup) (hd : os.Nodup) (hs : ∀ y ∈ os, y ∈ ns) (hi : i < os.length) : (toldAt ns os i).2 = ns.length - 1 - i := by
  have := sit_len (ns := ns) (found := os.take (i + 1)) (g := os.getD i Str.empty) hn (hd.sublist (List.take_sublist _ _)) (fun y hy => hs y (List.mem_of_mem_take hy))
  rw [List.length_take, Nat.min_eq_left (by omega)] at this
  show (sitting ns (os.take (i + 1)) (os.getD i Str.empty)).length = _
  omega
def PairL (H : Hp) (rs : List Addr) (xs : List (Nat × Nat)) : Prop := Paired (fun (p : Addr) (x : Nat × Nat) => H p = some (.tup [.int (x.1 : Nat), .int (x.2 : Nat)])) rs xs
theorem PairL.same {H H' : Hp} {rs : List Addr} {xs : List (Nat × Nat)} (h : PairL H rs xs) (s : Same H H') : PairL H' rs xs := Paired.mapF (fun _ _ e => s _ _ e) h
theorem PairL.mod {H H' : Hp} {S C : Addr} {rs : List Addr} {xs : List (Nat × Nat)} (h : PairL H rs xs) (s : Mod S C H H') (st : StOk H S C) : PairL H' rs xs := Paired.mapF (F := fun (p : Addr) (x : Nat × Nat) => H p = some (.tup [.int (x.1 : Nat), .int (x.2 : Nat)])) (fun p x e => s.other st e (fun _ z => nomatch z)) h
def nz (ps : List Nat) : List Int := List.map (fun p : Nat => (p : Int)) ps
def spRestsTold : Sp := fun vs H Q _ => ∃ (c : Bool) (a t : Addr) (ns os : List Str), vs = [.ref a, .ref t] ∧ SqAt c H a (ns.map V.str) ∧ H t = some (.tup (os.map V.str)) ∧ GoodNs ns ∧ os.Nodup ∧ (∀ y ∈ os, y ∈ ns) ∧ os ≠ [] ∧
  ∀ H' l rs, Same H H' → H l = none → H' l = some (.lst (rs.map V.ref)) → PairL H' rs (toldP ns os) → Q (.ref l) H'
def spRestsOf : Sp := fun vs H Q _ => ∃ (c : Bool) (a t : Addr) (ns os : List Str), vs = [.ref a, .ref t] ∧ SqAt c H a (ns.map V.str) ∧ H t = some (.tup (os.map V.str)) ∧ GoodNs ns ∧ os.Perm ns ∧
  ∀ H' l rs, Same H H' → H l = none → H' l = some (.tup (rs.map V.ref)) → PairL H' rs (toldP ns os) → Q (.ref l) H'
def spIsOrder : Sp := fun vs H Q _ => ∃ (c : Bool) (a t : Addr) (ns os : List Str), vs = [.ref a, .ref t] ∧ SqAt c H a (ns.map V.str) ∧ H t = some (.tup (os.map V.str)) ∧ ns.length ≤ 100 ∧ os.Perm ns ∧ ∀ H', Same H H' → Q (.bl true) H'
def spChkOrder : Sp := fun vs H Q _ => ∃ (c : Bool) (a t : Addr) (ns os : List Str), vs = [.ref a, .ref t] ∧ SqAt c H a (ns.map V.str) ∧ H t = some (.tup (os.map V.str)) ∧ ns.length ≤ 100 ∧ os.Perm ns ∧ ∀ H', Same H H' → Q .non H'
def spIsPlaces : Sp := fun vs H Q _ => ∃ (n : Nat) (t : Addr) (ps : List Nat), vs = [.int (n : Nat), .ref t] ∧ H t = some (.tup ((nz ps).map V.int)) ∧ 1 ≤ n ∧ n ≤ 100 ∧ ps.length = n - 1 ∧ PlOk (n - 1) ps ∧ ∀ H', Same H H' → Q (.bl true) H'
def spOrderBy : Sp := fun vs H Q _ => ∃ (c : Bool) (a t : Addr) (ns : List Str) (b : Str) (ps : List Nat), vs = [.ref a, .str b, .ref t] ∧ SqAt c H a (ns.map V.str) ∧ GoodNs ns ∧ b ∈ ns ∧ H t = some (.tup ((nz ps).map V.int)) ∧ ps.length = ns.length - 1 ∧ PlOk (ns.length - 1) ps ∧
  ∀ H' r, Same H H' → H r = none → H' r = some (.tup ((orderBy ns b ps).map V.str)) → Q (.ref r) H'
def spDecoded : Sp := fun vs H Q _ => ∃ (a t : Addr) (ns : List Str) (b : Str) (ps : List Nat), vs = [.ref a, .str b, .ref t] ∧ H a = some (.lst (ns.map V.str)) ∧ GoodNs ns ∧ b ∈ ns ∧ H t = some (.tup ((nz ps).map V.int)) ∧ PlOk (ns.length - 1) ps ∧
  ∀ H' r, Same H H' → H r = none → H' r = some (.tup ((orderBy ns b ps).map V.str)) → Q (.ref r) H'
def spIndexes : Sp := fun vs H Q _ => ∃ (a t : Addr) (ns : List Str) (b : Str) (rest : List Str), vs = [.ref a, .ref t] ∧ H a = some (.lst (ns.map V.str)) ∧ GoodNs ns ∧ H t = some (.tup ((b :: rest).map V.str)) ∧ (b :: rest).Nodup ∧ (∀ y ∈ b :: rest, y ∈ ns) ∧
  ∀ H' r, Same H H' → H r = none → H' r = some (.tup ((nz (told ns [b] b rest)).map V.int)) → Q (.ref r) H'
end GL
namespace GL
open PySem PySem.Spec PyProof.Rows L2
/-- two ways that come together -/
theorem ite2R {β : Type} {c : Bool} {A : Prop} {R : Hp → β → Prop} (Pr : Hp → β → Prop) (H : Hp) (y : β) (h0 : ¬ c = true → Pr H y) (h1 : c = true → (∀ H y, Pr H y → R H y) → A) (k : ∀ H y, Pr H y → R H y) : if c = true then A else R H y := by
  by_cases h : c = true
  · rw [if_pos h]; exact h1 h k
  · rw [if_neg h]; exact k H y (h0 h)
end GL
namespace GL
open PySem PySem.Spec PyProof.Rows L2
theorem PlOk.at : ∀ {ps : List Nat} {m j p : Nat}, PlOk m ps → ps[j]? = some p → p < m - j
  | [], _, _, _, _, h => nomatch h
  | q :: r, m, 0, p, h, e => by
    have e : q = p := Option.some.inj e
    rw [← e]; exact h.1
  | q :: r, m, j + 1, p, h, e => by
    have := PlOk.at h.2 (show r[j]? = some p from e)
    omega
end GL
namespace GL
open PySem PySem.Spec PyProof.Rows L2
theorem nz_snoc (ps : List Nat) (p : Nat) : (nz (ps ++ [p])).map V.int = (nz ps).map V.int ++ [.int (p : Nat)] := by
  unfold nz
  rw [List.map_append, List.map_append]
  rfl
end GL
namespace GL
open PySem PySem.Spec PyProof.Rows L2
/-! ### rows of pairs as data -/
def pairD (x : Nat × Nat) : PyData := .tuple [.int (x.1 : Nat), .int (x.2 : Nat)]
theorem dp_pairs {K : PySem.W.Frag} {H : Hp} : ∀ {rs : List Addr} {xs : List (Nat × Nat)}, PairL H rs xs → DpAll K H (rs.map V.ref) (xs.map pairD)
  | _, _, .nil => .nil
  | _, _, .cons a r => .cons (.tup (SqT.of a) (.cons (.int _) (.cons (.int _) .nil))) (dp_pairs r)
theorem pairD_self (x : Nat × Nat) : PyData.eqv (pairD x) (pairD x) = true := (eqvi_tups [(x.1 : Int), (x.2 : Int)] [(x.1 : Int), (x.2 : Int)]).trans (decide_eq_true rfl)
theorem pairs_self : ∀ rs : List (Nat × Nat), PyData.eqvAll (rs.map pairD) (rs.map pairD) = true
  | [] => by simp [PyData.eqvAll]
  | x :: r => by rw [List.map_cons, PyData.eqvAll, pairD_self, pairs_self r]; rfl
theorem pairs_eqv (rs : List (Nat × Nat)) : PyData.eqv (.tuple (rs.map pairD)) (.tuple (rs.map pairD)) = true := by rw [PyData.eqv, pairs_self]
theorem pairs_can : ∀ rs : List (Nat × Nat), PyData.canLayAll0 (rs.map pairD) = true
  | [] => by simp [PyData.canLayAll0]
  | x :: r => by
    rw [List.map_cons, PyData.canLayAll0, pairs_can r]
    simp [pairD, PyData.canLay0, PyData.canLayAll0]
theorem pairs_depth : ∀ rs : List (Nat × Nat), PyData.depthAll (rs.map pairD) ≤ 3
  | [] => by simp [PyData.depthAll]
  | x :: r => by
    have b := pairs_depth r
    rw [List.map_cons, PyData.depthAll]
    exact Nat.max_le.mpr ⟨by simp [pairD, PyData.depth, PyData.depthAll], b⟩
theorem pairs_shaped (rs : List (Nat × Nat)) : SeqAt.shaped (.tuple (rs.map pairD)) = true := by
  have a := pairs_can rs
  have b := pairs_depth rs
  unfold SeqAt.shaped
  rw [Bool.and_eq_true, decide_eq_true_eq]
  refine ⟨by rw [PyData.canLay0]; exact a, ?_⟩
  rw [PyData.depth]
  omega
theorem iteQ {d e : PyData} {A B : Prop} (h : PyData.eqv d e = true) (b : B) : if (!PyData.eqv d e) = true then A else B := by
  rw [h]
  exact iteF b
theorem PairL.get {H : Hp} {rs : List Addr} {xs : List (Nat × Nat)} (h : PairL H rs xs) {i : Nat} {v : V} (hv : (rs.map V.ref)[i]? = some v) : ∃ p x, v = .ref p ∧ xs[i]? = some x ∧ H p = some (.tup [.int (x.1 : Nat), .int (x.2 : Nat)]) := by
  unfold PairL at h
  induction h generalizing i with
  | nil => cases hv
  | @cons p x rs xs a r ih =>
    cases i with
    | zero => exact ⟨p, x, (Option.some.inj hv).symm, rfl, a⟩
    | succ i => exact ih hv
theorem PairL.len {H : Hp} {rs : List Addr} {xs : List (Nat × Nat)} (h : PairL H rs xs) : rs.length = xs.length := Paired.length h
def wantP (n : Nat) (ps : List Nat) : List (Nat × Nat) := (List.range ps.length).map fun i => (ps.getD i 0, n - 1 - i)
theorem told_want {ns : List Str} {b : Str} {rest : List Str} (hn : ns.Nodup) (hd : (b :: rest).Nodup) (hs : ∀ y ∈ b :: rest, y ∈ ns) : toldP ns (b :: rest) = wantP ns.length (told ns [b] b rest) := by
  have hf := toldP_fst (ns := ns) (b := b) (rest := rest)
  have e1 : toldP ns (b :: rest) = (List.range rest.length).map (toldAt ns (b :: rest)) := by rw [toldP, List.length_cons, Nat.add_sub_cancel]
  unfold wantP
  rw [told_len, e1]
  refine List.map_congr_left fun i hi => ?_
  rw [List.mem_range] at hi
  have e2 : (told ns [b] b rest).getD i 0 = (toldAt ns (b :: rest) i).1 := by
    rw [← hf, e1, List.map_map, List.getD_eq_getElem?_getD, List.getElem?_map, List.getElem?_range hi]
    rfl
  have e3 := toldAt_snd (i := i) hn hd hs (by rw [List.length_cons]; omega)
  rw [e2, ← e3]
theorem PlOk.set : ∀ {ps : List Nat} {m j q : Nat}, PlOk m ps → q < m - j → PlOk m (ps.set j q)
  | [], _, _, _, _, _ => trivial
  | p :: r, m, 0, q, h, e => ⟨by omega, h.2⟩
  | p :: r, m, j + 1, q, h, e => ⟨h.1, PlOk.set h.2 (by omega)⟩
/-- with one place otherwise, the same ones go till then, and another one there -/
theorem goTail_set {ns : List Str} : ∀ {ps : List Nat} {j p q : Nat} {found : List Str} {g : Str}, ps[j]? = some p → ∃ G, (goTail ns found g (ps.set j q)).take j = (goTail ns found g ps).take j ∧
    (goTail ns found g ps)[j]? = some ((sitting ns (found ++ (goTail ns found g ps).take j) G).getD p Str.empty) ∧ (goTail ns found g (ps.set j q))[j]? = some ((sitting ns (found ++ (goTail ns found g ps).take j) G).getD q Str.empty)
  | [], _, _, _, _, _, h => nomatch h
  | p0 :: r, 0, p, q, found, g, h => by
    obtain rfl : p0 = p := Option.some.inj h
    refine ⟨g, rfl, ?_, ?_⟩
    · rw [List.take_zero, List.append_nil]; rfl
    · rw [List.take_zero, List.append_nil]; rfl
  | p0 :: r, j + 1, p, q, found, g, h => by
    generalize hx : (sitting ns found g).getD p0 Str.empty = x
    obtain ⟨G, i1, i2, i3⟩ := goTail_set (ns := ns) (ps := r) (j := j) (p := p) (q := q) (found := found ++ [x]) (g := x) h
    have e1 : goTail ns found g (p0 :: r) = x :: goTail ns (found ++ [x]) x r := by
      show (sitting ns found g).getD p0 Str.empty :: _ = _
      rw [hx]
    have e2 : goTail ns found g ((p0 :: r).set (j + 1) q) = x :: goTail ns (found ++ [x]) x (r.set j q) := by
      show (sitting ns found g).getD p0 Str.empty :: _ = _
      rw [hx]
    rw [e1, e2]
    have e3 : found ++ (x :: goTail ns (found ++ [x]) x r).take (j + 1) = found ++ [x] ++ (goTail ns (found ++ [x]) x r).take j := by
      rw [List.take_succ_cons, List.append_assoc found [x]]
      rfl
    rw [e3]
    exact ⟨G, by rw [List.take_succ_cons, List.take_succ_cons, i1], i2, i3⟩
theorem perm_of {ns os : List Str} (hn : ns.Nodup) (hd : os.Nodup) (hs : ∀ y ∈ os, y ∈ ns) (hl : os.length = ns.length) : os.Perm ns := by
  refine (List.perm_ext_iff_of_nodup hd hn).mpr fun y => ⟨hs y, fun hy => Classical.byContradiction fun hn2 => ?_⟩
  have := List.Nodup.length_le_of_subset (List.nodup_cons.mpr ⟨hn2, hd⟩) (fun z hz => (List.mem_cons.mp hz).elim (fun e => e ▸ hy) (hs z) : ∀ z ∈ y :: os, z ∈ ns)
  rw [List.length_cons] at this
  omega
theorem order_of {ns : List Str} {b : Str} {ps : List Nat} (g : GoodNs ns) (hb : b ∈ ns) (hl : ps.length = ns.length - 1) (hp : PlOk (ns.length - 1) ps) :
    told ns [b] b (goTail ns [b] b ps) = ps ∧ (orderBy ns b ps).Nodup ∧ (∀ y ∈ orderBy ns b ps, y ∈ ns) ∧ (orderBy ns b ps).Perm ns := by
  obtain ⟨h1, h2, h3⟩ := told_go (ns := ns) (ps := ps) (found := [b]) (g := b) g.nd (List.nodup_cons.mpr ⟨List.not_mem_nil, List.nodup_nil⟩) (fun y hy => by rw [List.mem_singleton.mp hy]; exact hb) hp
  refine ⟨h1, h2, h3, perm_of g.nd h2 h3 ?_⟩
  have := g.two
  show (goTail ns [b] b ps).length + 1 = ns.length
  rw [goTail_len]
  omega
theorem orderBy_set {ns : List Str} {b : Str} {ps : List Nat} {j p q : Nat} (g : GoodNs ns) (hb : b ∈ ns) (hl : ps.length = ns.length - 1) (hp : PlOk (ns.length - 1) ps) (hj : ps[j]? = some p) (hq : q < ns.length - 1 - j) (hpq : p ≠ q) :
    (orderBy ns b (ps.set j q)).take (j + 1) = (orderBy ns b ps).take (j + 1) ∧ ∃ x y, (orderBy ns b (ps.set j q))[j + 1]? = some x ∧ (orderBy ns b ps)[j + 1]? = some y ∧ x ≠ y := by
  obtain ⟨G, i1, i2, i3⟩ := goTail_set (ns := ns) (q := q) (found := [b]) (g := b) hj
  obtain ⟨_, hd, hs, _⟩ := order_of g hb hl hp
  refine ⟨?_, _, _, i3, i2, fun e => hpq ?_⟩
  · show (b :: goTail ns [b] b (ps.set j q)).take (j + 1) = (b :: goTail ns [b] b ps).take (j + 1)
    rw [List.take_succ_cons, List.take_succ_cons, i1]
  · have hjl := (List.getElem?_eq_some_iff.mp hj).1
    have e0 : [b] ++ (goTail ns [b] b ps).take j = (orderBy ns b ps).take (j + 1) := by
      show _ = (b :: goTail ns [b] b ps).take (j + 1)
      rw [List.take_succ_cons]
      rfl
    rw [e0] at e
    have hsl := sit_len (ns := ns) (found := (orderBy ns b ps).take (j + 1)) (g := G) g.nd (hd.sublist (List.take_sublist _ _)) (fun y hy => hs y (List.mem_of_mem_take hy))
    have hol : (orderBy ns b ps).length = ps.length + 1 := by
      show (goTail ns [b] b ps).length + 1 = _
      rw [goTail_len]
    rw [List.length_take, hol, Nat.min_eq_left (by omega)] at hsl
    have hpl := hp.at hj
    have hnd := sit_nd (ns := ns) (found := (orderBy ns b ps).take (j + 1)) (g := G) g.nd
    have a1 := idxOf_getD hnd (p := p) (by omega)
    have a2 := idxOf_getD hnd (p := q) (by omega)
    rw [← a1, ← a2, e]
def spExactP : Sp := fun vs H Q _ => ∃ (l w : Addr) (rs qs : List Addr) (xs : List (Nat × Nat)), vs = [.ref l, .ref w] ∧ H l = some (.tup (rs.map V.ref)) ∧ PairL H rs xs ∧ H w = some (.tup (qs.map V.ref)) ∧ PairL H qs xs ∧ ∀ H', Same H H' → Q (.bl true) H'
def spOther : Sp := fun vs H Q _ => ∃ (S C a t : Addr) (ns : List Str) (b : Str) (ps : List Nat), vs = [.ref S, .ref a, .str b, .ref t] ∧ StOk H S C ∧ H a = some (.lst (ns.map V.str)) ∧ GoodNs ns ∧ b ∈ ns ∧ H t = some (.tup ((nz ps).map V.int)) ∧ ps.length = ns.length - 1 ∧ PlOk (ns.length - 1) ps ∧
  ∀ H', Mod S C H H' → StOk H' S C → Q (.bl true) H'
end GL
namespace GL
open PySem PySem.Spec PyProof.Rows L2
theorem PlOk.snoc : ∀ {ps : List Nat} {m d : Nat}, PlOk m ps → d < m - ps.length → PlOk m (ps ++ [d])
  | [], m, d, _, h => ⟨h, trivial⟩
  | p :: r, m, d, h, e => ⟨h.1, PlOk.snoc h.2 (by rw [List.length_cons] at e; omega)⟩
end GL
/-! enumerate of a tuple: each item in a new pair. -/
namespace PySem
open Sem (wp)
set_option maxHeartbeats 1000000 in
theorem g_meets_enum1 {v : Value} {o : Obj} {H : Heap → Prop} (B : Begins v o H) :
    Meets (Builtin.«enumerate.__new__» ⟨[.type "enumerate", v], []⟩) (fun _ R s => H s.heap ∧
      R (.ok (.ret (.ref (s.heap.push o).objs.size))) { s with heap := (s.heap.push o).push { cls := .type "enumerate", data := .fields #[.none, .bool false, .ref s.heap.objs.size, rawInt 0, .none, .none] } }) :=
  .of_wp fun prog w A R s h => by
    obtain ⟨hp, g, d, tk, os⟩ := s; obtain ⟨h1, h⟩ := h
    have hsub := sub_enumerate
    have q1 : ∀ {A' : Around} {E : Value → Shared → Prop} {Q : Value → Shared → Prop}, Q (.ref hp.objs.size) ⟨hp.push o, g, d, tk, os⟩ → wpAny (model prog w) A' (pyIter v) Q E ⟨hp, g, d, tk, os⟩ :=
      fun q => B.iter prog w _ _ ⟨hp, g, d, tk, os⟩ _ h1 q
    wp_walk using q1
    refine wpAny_stack_any fun st => wpAny_pure ?_
    split
    · rename_i c _ _ _ _ _
      cases (c == Value.type "enumerate")
      · wp_walk using q1
        exact ⟨_, rfl, h⟩
      · wp_walk using q1
        exact ⟨_, rfl, h⟩
    · wp_walk using q1
      exact ⟨_, rfl, h⟩
section
variable {prog : Program} {w : World} {A : Around} {E : Value → Shared → Prop} {s : Shared}
theorem g_call_enum {v : Value} {o : Obj} {H : Heap → Prop} {Q : Value → Shared → Prop} (B : Begins v o H) (h1 : H s.heap)
    (h : ∀ h', IsEnum h' (s.heap.objs.size + 1) s.heap.objs.size 0 .none → h'.get? s.heap.objs.size = some o → h'.objs.size = s.heap.objs.size + 2 →
      (∀ b o, s.heap.get? b = some o → h'.get? b = some o) → Q (.ref (s.heap.objs.size + 1)) { s with heap := h' }) :
    wpAny (model prog w) A (call (.type "enumerate") [v]) Q E s := by
  refine callType_new F.called_enumerate (by decide) (F.typeCall_enumerate_1 _) (F.newCall_enumerate_1 _) (fun obj => F.args_object_init_2 obj _) F.entry_enumerate_new
    (g_meets_enum1 B) ⟨h1, ?_⟩
  have hz : (s.heap.push o).objs.size = s.heap.objs.size + 1 := Heap.size_push ..
  show _ ∧ _
  rw [hz]
  have he : IsEnum ((s.heap.push o).push { cls := .type "enumerate", data := .fields #[.none, .bool false, .ref s.heap.objs.size, rawInt 0, .none, .none] }) (s.heap.objs.size + 1) s.heap.objs.size 0 .none := by
    have := Heap.get?_push_size (s.heap.push o) (o := { cls := .type "enumerate", data := .fields #[.none, .bool false, .ref s.heap.objs.size, rawInt 0, .none, .none] }) rfl
    rw [hz] at this; exact this
  exact ⟨⟨_, he, rfl⟩, h _ he (Heap.get?_push_of_some _ (Heap.get?_push_size _ B.free)) (by rw [Heap.size_push, hz]) fun b o x => Heap.get?_push_of_some _ (Heap.get?_push_of_some _ x)⟩
end
end PySem
namespace L2
open PySem PySem.Spec PyProof.Rows
def IteT (K : PySem.W.Frag) (a : Addr) : It :=
  ⟨fun i H => ∃ (xs : List V) (x : V), SqT K H a xs ∧ xs[i]? = some x, fun i H v H' => ∃ T x, v = .ref T ∧ H T = none ∧ H' = upd H T (.tup [.int (i : Nat), x]) ∧ ∀ xs, SqT K H a xs → xs[i]? = some x, fun i H => ∃ xs : List V, SqT K H a xs ∧ xs.length ≤ i⟩
theorem turn_enumT {P : Program} {w : World} {K : PySem.W.Frag} {elts : List Expr} {kk : Nat} {tpos : Pos} (a e it : Addr) (hae : a ≠ e) (hai : a ≠ it) :
    Turn P w K (.Tuple elts kk tpos) (IteT K a) [e, it] e (fun i h => (∃ old, IsEnum h e it ((i : Nat) : Int) old) ∧ h.IsTupleIter it a i ∧ e ≠ it) where
  mem := by simp
  obj := fun i h st b hb => by
    obtain ⟨⟨old, he⟩, ⟨o, ho, hc, hd⟩, _⟩ := st
    have e' : b = e ∨ b = it := by simpa using hb
    rcases e' with z | z
    · rw [z]; exact ⟨_, he, fun v q => nomatch q⟩
    · rw [z]; exact ⟨o, ho, fun v q => by rw [hd] at q; cases q⟩
  keep := fun i h h' st k => let ⟨⟨old, he⟩, hi, hne⟩ := st; ⟨⟨old, k e (by simp) _ he⟩, hi.at fun o q => k it (by simp) o q, hne⟩
  item := by
    intro X hP hw hK hc i pins s σ H E I hf st hg
    subst hP hw hK
    obtain ⟨⟨old, he⟩, hit, hne⟩ := st
    obtain ⟨xs, x, hq, hx⟩ := hg
    obtain ⟨its, rv, p, hz⟩ := I.tuple hq
    obtain ⟨u, hu, ru⟩ := rv.get hx
    have hel : e < s.heap.objs.size := Heap.lt_size he
    have hil : it < s.heap.objs.size := by obtain ⟨_, q, _⟩ := hit; exact Heap.lt_size q
    have hT0 : s.heap.IsTuple a its.toArray := p
    have hul : i < its.toArray.size := by
      rw [List.size_toArray]
      exact (List.getElem?_eq_some_iff.mp hu).1
    refine wpAny_pyNext_enum_itemD (Draws.tuple (A := X.A.in1) (I.ok.hd hc) it a hai its.toArray) he ⟨hit, hT0⟩ hul hne (by simp only [List.mem_cons, List.not_mem_nil, or_false]; exact fun z => z.elim hne fun z => hae z.symm) fun u' h' tk pu ho hst hT hsz hk => ?_
    obtain rfl : u' = u := by
      have e1 : its.toArray[i]? = some u' := pu
      have e2 : its.toArray[i]? = some u := by simpa using hu
      exact Option.some.inj (e1.symm.trans e2)
    refine ⟨_, rfl, wpAny_letOwnedTupleGo_enum (s := { s with heap := h', toks := tk + 1 }) ho fun h'' he' sb => ?_⟩
    have hT2 : h''.get? s.heap.objs.size = some { cls := .type "tuple", data := .seq #[.int i tk, u'] } := (sb.2 _ (Nat.ne_of_gt hel)).trans hT
    have new : ObjOk X.prog X.w (upd H s.heap.objs.size (.tup [.int (i : Nat), x])) h'' s.heap.objs.size (.tup [.int (i : Nat), x]) :=
      ⟨by show 2 ≤ sizeLine; decide, [.int i tk, u'], .cons ⟨_, rfl⟩ (.cons ru .nil), ⟨_, hT2, rfl, _, rfl⟩⟩
    have I1 : Inv X pins σ (upd H s.heap.objs.size (.tup [.int (i : Nat), x])) { s with heap := h'', toks := tk + 1 } :=
      I.turnedNew (ch := [e, it]) (fun b ob hb q => (sb.2 b (fun z => hb (by simp [z]))).trans (hk b ob (fun z => hb (by simp [z])) (fun z => hb (by simp [z])) q)) hf (Nat.le_refl _) new
    refine ⟨.ref s.heap.objs.size, _, I1, rfl, ⟨_, x, rfl, I.hok.fresh (Nat.le_refl _), rfl, fun ys hy => by rw [I.tuple_inj hy hq]; exact hx⟩, ⟨⟨u', ?_⟩, hst.1.at fun o q => (sb.2 it (Ne.symm hne)).trans q, hne⟩, fun b hb => ?_⟩
    · have e1 : ((i + 1 : Nat) : Int) = (i : Int) + 1 := by omega
      rw [e1]; exact he'
    · have hb' : b < s.heap.objs.size := by
        have e' : b = e ∨ b = it := by simpa using hb
        rcases e' with z | z
        · rw [z]; exact hel
        · rw [z]; exact hil
      rw [upd_ne (Nat.ne_of_lt hb')]
      exact (hf b hb).1
  done := by
    intro X hP hw hK hc i pins s σ H E I hf st hg
    subst hP hw hK
    obtain ⟨⟨old, he⟩, hit, hne⟩ := st
    obtain ⟨xs, hq, hx⟩ := hg
    obtain ⟨its, rv, p, hz⟩ := I.tuple hq
    obtain ⟨f0, f1, f2, f3, f4, f5⟩ := hf it (by simp)
    have hl := rv.length
    have hT0 : s.heap.IsTuple a its.toArray := p
    have hT : s.TypeIs (.ref e) "enumerate" := ⟨_, he, rfl⟩
    unfold pyNext
    refine wpAny_bind (wpAny_attempt (wpAny_callSpecial?_slot (name := Str.ofString "__next__") hT F.slot_enumerate_next
      (wpAny_call_entry F.slot_enumerate_next hT F.entry_enumerate_next ?_ (F.args_enumerate_next_1 _))))
    show wpAny _ _ (field (.ref e) 2 >>= _) _ _ _
    refine wpAny_bind (wpAny_field he rfl (x := .ref it) rfl ?_)
    refine wpAny_bind (RZ.nextOf_tuple_end (I.ok.hd hc) hit hT0 (by simp; omega) fun h' x he' hx' => ?_)
    obtain ⟨o, ho, hcc⟩ := hx'
    refine wpAny_bind (wpAny_isInstance (T := "StopIteration") (b := true) ⟨o, ho, hcc⟩ isSubtype_stop ?_)
    exact wpAny_pure ⟨rfl, I.turned (t' := s.toks) (fun b o hb q => he' b o hb q) f0 f1 f3 f4 f5⟩
  self := fun A i s Q E st h => let ⟨⟨_, he⟩, _⟩ := st; wpAny_pyIter_enum he h
def iEnumT (K : PySem.W.Frag) (ta : TA) : TI := fun σ H R => ta σ H fun vs H1 => ∃ a xs, vs = [.ref a] ∧ SqT K H1 a xs ∧ R (IteT K a) H1
theorem pi_enumT {X : Cx} {e : Expr} {ta : TA} {p pos tpos : Pos} {elts : List Expr} {kk : Nat} (hg : Gl X "enumerate") (hm : X.mg "enumerate" = none) (ha : PA X [e] ta) (hs : starEach [e] X.env = [(false, eval e X.env)] := by rfl) :
    PI X (.Tuple elts kk tpos) (.Call (.Name "enumerate" p) [e] [] pos) (iEnumT X.K ta) := by
  refine ⟨fun pins s σ H R I h => ?_⟩
  refine Call_ (ld_blt I hg hm boot_enumerate (PyProof.Rows.callWith_type1 (thn (ha.run pos pins s σ H _ I h) fun us s1 ⟨vs, H1, I1, r1, q1⟩ => ?_) hs rfl))
  obtain ⟨a, xs, ex, hq, q⟩ := q1
  subst ex
  cases r1 with
  | cons r rr =>
    cases rr
    cases r
    obtain ⟨its, rv, p', hz⟩ := I1.tuple hq
    have hT0 : s1.heap.IsTuple a its.toArray := p'
    have hal : a < s1.heap.objs.size := by obtain ⟨o, ho, _⟩ := hT0; exact Heap.lt_size ho
    refine g_call_enum (begins_tuple a its.toArray) hT0 fun h' he hit hsz hk => wpAny_pyIter_enum he ?_
    have I2 : Inv X pins σ H1 { s1 with heap := h' } := I1.kept (t' := s1.toks) hk
    refine ⟨s1.heap.objs.size + 1, [s1.heap.objs.size + 1, s1.heap.objs.size], _, _, H1, rfl, I2, turn_enumT a (s1.heap.objs.size + 1) s1.heap.objs.size (Nat.ne_of_lt (Nat.lt_succ_of_lt hal)) (Nat.ne_of_lt hal), ⟨⟨.none, he⟩, ⟨_, hit, rfl, rfl⟩, Nat.succ_ne_self _⟩, fun b hb => ?_, q⟩
    have e' : b = s1.heap.objs.size + 1 ∨ b = s1.heap.objs.size := by simpa using hb
    have hle : s1.heap.objs.size ≤ b := by
      rcases e' with z | z
      · rw [z]; exact Nat.le_add_right _ _
      · rw [z]; exact Nat.le_refl _
    exact I1.fpOk hle (I1.hok.fresh hle)
theorem walk_enumT {K : PySem.W.Frag} {a : Addr} {xs : List V} : Walk (IteT K a) xs.length (fun H => SqT K H a xs) (YPair (fun i => some (.int (i : Nat))) (fun i => xs[i]?)) := by
  refine ⟨fun i _ hi q => ⟨xs, xs[i], q, by simp [hi]⟩, fun _ q => ⟨xs, q, Nat.le_refl _⟩, fun i H v H' _ q y => ?_⟩
  obtain ⟨T, x, h1, h2, h3, h4⟩ := y
  exact ⟨T, .int (i : Nat), x, h1, h2, h3, rfl, h4 xs q⟩
end L2
namespace K05
open PySem PySem.Spec PyProof.Rows L2
def topS (i : Nat) : Stmt := PySem.Challenge.pw_goersay_k05_orders_and_places_one_to_one.main.body.getD i (.Pass ⟨0, 0, 0, 0⟩)
abbrev s_is_number : Stmt := topS 8
abbrev N_is_number : List Str := ["thing"]
abbrev P_is_number : List Str := ["thing"]
theorem sc_is_number : FnScope N_is_number P_is_number (defScope s_is_number) := ⟨rfl, rfl, rfl, by decide +kernel, rfl, by decide +kernel, by decide +kernel⟩
abbrev s_is_name : Stmt := topS 9
abbrev N_is_name : List Str := ["thing", "sign"]
abbrev P_is_name : List Str := ["thing"]
theorem sc_is_name : FnScope N_is_name P_is_name (defScope s_is_name) := ⟨rfl, rfl, rfl, by decide +kernel, rfl, by decide +kernel, by decide +kernel⟩
abbrev s_is_names : Stmt := topS 13
abbrev N_is_names : List Str := ["thing", "name"]
abbrev P_is_names : List Str := ["thing"]
theorem sc_is_names : FnScope N_is_names P_is_names (defScope s_is_names) := ⟨rfl, rfl, rfl, by decide +kernel, rfl, by decide +kernel, by decide +kernel⟩
abbrev s_check_names : Stmt := topS 14
abbrev N_check_names : List Str := ["thing"]
abbrev P_check_names : List Str := ["thing"]
theorem sc_check_names : FnScope N_check_names P_check_names (defScope s_check_names) := ⟨rfl, rfl, rfl, by decide +kernel, rfl, by decide +kernel, by decide +kernel⟩
abbrev s_check_name : Stmt := topS 15
abbrev N_check_name : List Str := ["names", "thing"]
abbrev P_check_name : List Str := ["names", "thing"]
theorem sc_check_name : FnScope N_check_name P_check_name (defScope s_check_name) := ⟨rfl, rfl, rfl, by decide +kernel, rfl, by decide +kernel, by decide +kernel⟩
abbrev s_listed_behind : Stmt := topS 16
abbrev N_listed_behind : List Str := ["names", "name", "seat"]
abbrev P_listed_behind : List Str := ["names", "name"]
theorem sc_listed_behind : FnScope N_listed_behind P_listed_behind (defScope s_listed_behind) := ⟨rfl, rfl, rfl, by decide +kernel, rfl, by decide +kernel, by decide +kernel⟩
abbrev s_who_sit : Stmt := topS 17
abbrev N_who_sit : List Str := ["names", "goers", "name"]
abbrev P_who_sit : List Str := ["names", "goers"]
theorem sc_who_sit : FnScope N_who_sit P_who_sit (defScope s_who_sit) := ⟨rfl, rfl, rfl, by decide +kernel, rfl, by decide +kernel, by decide +kernel⟩
abbrev s_is_order : Stmt := topS 19
abbrev N_is_order : List Str := ["names", "thing", "name"]
abbrev P_is_order : List Str := ["names", "thing"]
theorem sc_is_order : FnScope N_is_order P_is_order (defScope s_is_order) := ⟨rfl, rfl, rfl, by decide +kernel, rfl, by decide +kernel, by decide +kernel⟩
abbrev s_check_order : Stmt := topS 20
abbrev N_check_order : List Str := ["names", "thing"]
abbrev P_check_order : List Str := ["names", "thing"]
theorem sc_check_order : FnScope N_check_order P_check_order (defScope s_check_order) := ⟨rfl, rfl, rfl, by decide +kernel, rfl, by decide +kernel, by decide +kernel⟩
abbrev s_rests_told : Stmt := topS 21
abbrev N_rests_told : List Str := ["names", "goers", "rests", "t", "sitting"]
abbrev P_rests_told : List Str := ["names", "goers"]
theorem sc_rests_told : FnScope N_rests_told P_rests_told (defScope s_rests_told) := ⟨rfl, rfl, rfl, by decide +kernel, rfl, by decide +kernel, by decide +kernel⟩
abbrev s_rests_of : Stmt := topS 22
abbrev N_rests_of : List Str := ["names", "order"]
abbrev P_rests_of : List Str := ["names", "order"]
theorem sc_rests_of : FnScope N_rests_of P_rests_of (defScope s_rests_of) := ⟨rfl, rfl, rfl, by decide +kernel, rfl, by decide +kernel, by decide +kernel⟩
abbrev s_order_by : Stmt := topS 23
abbrev N_order_by : List Str := ["names", "begin", "places", "goers", "place"]
abbrev P_order_by : List Str := ["names", "begin", "places"]
theorem sc_order_by : FnScope N_order_by P_order_by (defScope s_order_by) := ⟨rfl, rfl, rfl, by decide +kernel, rfl, by decide +kernel, by decide +kernel⟩
abbrev s_is_places : Stmt := topS 24
abbrev N_is_places : List Str := ["n", "thing", "at", "place"]
abbrev P_is_places : List Str := ["n", "thing"]
theorem sc_is_places : FnScope N_is_places P_is_places (defScope s_is_places) := ⟨rfl, rfl, rfl, by decide +kernel, rfl, by decide +kernel, by decide +kernel⟩
abbrev s_l_state : Stmt := topS 26
abbrev N_l_state : List Str := ["_law_script", "_law_cell"]
abbrev P_l_state : List Str := ["_law_script"]
theorem sc_l_state : FnScope N_l_state P_l_state (defScope s_l_state) := ⟨rfl, rfl, rfl, by decide +kernel, rfl, by decide +kernel, by decide +kernel⟩
abbrev s_l_draw : Stmt := topS 27
abbrev N_l_draw : List Str := ["_law_state_here", "_law_many", "_law_cells", "_law_at", "_law_cell"]
abbrev P_l_draw : List Str := ["_law_state_here", "_law_many"]
theorem sc_l_draw : FnScope N_l_draw P_l_draw (defScope s_l_draw) := ⟨rfl, rfl, rfl, by decide +kernel, rfl, by decide +kernel, by decide +kernel⟩
abbrev s_l_pick : Stmt := topS 28
abbrev N_l_pick : List Str := ["_law_state_here", "_law_some"]
abbrev P_l_pick : List Str := ["_law_state_here", "_law_some"]
theorem sc_l_pick : FnScope N_l_pick P_l_pick (defScope s_l_pick) := ⟨rfl, rfl, rfl, by decide +kernel, rfl, by decide +kernel, by decide +kernel⟩
abbrev s_l_labels : Stmt := topS 29
abbrev N_l_labels : List Str := ["_law_state_here", "_law_many", "_law_own", "_law_found", "_law_turn", "_law_label", "_law_k", "_law_sign"]
abbrev P_l_labels : List Str := ["_law_state_here", "_law_many"]
theorem sc_l_labels : FnScope N_l_labels P_l_labels (defScope s_l_labels) := ⟨rfl, rfl, rfl, by decide +kernel, rfl, by decide +kernel, by decide +kernel⟩
abbrev s_l_shuffled : Stmt := topS 30
abbrev N_l_shuffled : List Str := ["_law_state_here", "_law_some", "_law_left", "_law_found"]
abbrev P_l_shuffled : List Str := ["_law_state_here", "_law_some"]
theorem sc_l_shuffled : FnScope N_l_shuffled P_l_shuffled (defScope s_l_shuffled) := ⟨rfl, rfl, rfl, by decide +kernel, rfl, by decide +kernel, by decide +kernel⟩
abbrev s_l_decoded : Stmt := topS 31
abbrev N_l_decoded : List Str := ["_law_labels_here", "_law_first", "_law_indexes_here", "_law_seated", "_law_at", "_law_found", "_law_place", "_law_left", "_law_label"]
abbrev P_l_decoded : List Str := ["_law_labels_here", "_law_first", "_law_indexes_here"]
theorem sc_l_decoded : FnScope N_l_decoded P_l_decoded (defScope s_l_decoded) := ⟨rfl, rfl, rfl, by decide +kernel, rfl, by decide +kernel, by decide +kernel⟩
abbrev s_l_indexes : Stmt := topS 32
abbrev N_l_indexes : List Str := ["_law_labels_here", "_law_row", "_law_seated", "_law_at", "_law_found", "_law_label", "_law_passed"]
abbrev P_l_indexes : List Str := ["_law_labels_here", "_law_row"]
theorem sc_l_indexes : FnScope N_l_indexes P_l_indexes (defScope s_l_indexes) := ⟨rfl, rfl, rfl, by decide +kernel, rfl, by decide +kernel, by decide +kernel⟩
abbrev s_l_exact : Stmt := topS 33
abbrev N_l_exact : List Str := ["_law_told", "_law_want", "_law_pair"]
abbrev P_l_exact : List Str := ["_law_told", "_law_want"]
theorem sc_l_exact : FnScope N_l_exact P_l_exact (defScope s_l_exact) := ⟨rfl, rfl, rfl, by decide +kernel, rfl, by decide +kernel, by decide +kernel⟩
abbrev s_l_otherwise : Stmt := topS 34
abbrev N_l_otherwise : List Str := ["_law_state_here", "_law_labels_here", "_law_first", "_law_indexes_here", "_law_at", "_law_sitting", "_law_later", "_law_some", "_law_told", "_law_elder"]
abbrev P_l_otherwise : List Str := ["_law_state_here", "_law_labels_here", "_law_first", "_law_indexes_here"]
theorem sc_l_otherwise : FnScope N_l_otherwise P_l_otherwise (defScope s_l_otherwise) := ⟨rfl, rfl, rfl, by decide +kernel, rfl, by decide +kernel, by decide +kernel⟩
abbrev s_law : Stmt := topS 35
abbrev N_law : List Str := ["_law_script", "_law_state_here", "_law_turn", "_law_many", "_law_labels_here", "_law_row", "_law_kept", "_law_indexes_here", "_law_want", "_law_drawn", "_law_told", "_law_at", "_law_place", "_law_size"]
abbrev P_law : List Str := ["_law_script"]
theorem sc_law : FnScope N_law P_law (defScope s_law) := ⟨rfl, rfl, rfl, by decide +kernel, rfl, by decide +kernel, by decide +kernel⟩
/-- what the top has written -/
structure Tx (K : PySem.W.Frag) (mg : Str → Option Value) where
  a_is_number : Addr
  fd_is_number : FuncData
  F_is_number : Fun K "is_number" "is_number" s_is_number a_is_number fd_is_number
  b_is_number : Binds K fd_is_number P_is_number []
  g_is_number : mg "is_number" = some (.ref a_is_number)
  a_is_name : Addr
  fd_is_name : FuncData
  F_is_name : Fun K "is_name" "is_name" s_is_name a_is_name fd_is_name
  b_is_name : Binds K fd_is_name P_is_name []
  g_is_name : mg "is_name" = some (.ref a_is_name)
  a_is_names : Addr
  fd_is_names : FuncData
  F_is_names : Fun K "is_names" "is_names" s_is_names a_is_names fd_is_names
  b_is_names : Binds K fd_is_names P_is_names []
  g_is_names : mg "is_names" = some (.ref a_is_names)
  a_check_names : Addr
  fd_check_names : FuncData
  F_check_names : Fun K "check_names" "check_names" s_check_names a_check_names fd_check_names
  b_check_names : Binds K fd_check_names P_check_names []
  g_check_names : mg "check_names" = some (.ref a_check_names)
  a_check_name : Addr
  fd_check_name : FuncData
  F_check_name : Fun K "check_name" "check_name" s_check_name a_check_name fd_check_name
  b_check_name : Binds K fd_check_name P_check_name []
  g_check_name : mg "check_name" = some (.ref a_check_name)
  a_listed_behind : Addr
  fd_listed_behind : FuncData
  F_listed_behind : Fun K "listed_behind" "listed_behind" s_listed_behind a_listed_behind fd_listed_behind
  b_listed_behind : Binds K fd_listed_behind P_listed_behind []
  g_listed_behind : mg "listed_behind" = some (.ref a_listed_behind)
  a_who_sit : Addr
  fd_who_sit : FuncData
  F_who_sit : Fun K "who_sit" "who_sit" s_who_sit a_who_sit fd_who_sit
  b_who_sit : Binds K fd_who_sit P_who_sit []
  g_who_sit : mg "who_sit" = some (.ref a_who_sit)
  a_is_order : Addr
  fd_is_order : FuncData
  F_is_order : Fun K "is_order" "is_order" s_is_order a_is_order fd_is_order
  b_is_order : Binds K fd_is_order P_is_order []
  g_is_order : mg "is_order" = some (.ref a_is_order)
  a_check_order : Addr
  fd_check_order : FuncData
  F_check_order : Fun K "check_order" "check_order" s_check_order a_check_order fd_check_order
  b_check_order : Binds K fd_check_order P_check_order []
  g_check_order : mg "check_order" = some (.ref a_check_order)
  a_rests_told : Addr
  fd_rests_told : FuncData
  F_rests_told : Fun K "rests_told" "rests_told" s_rests_told a_rests_told fd_rests_told
  b_rests_told : Binds K fd_rests_told P_rests_told []
  g_rests_told : mg "rests_told" = some (.ref a_rests_told)
  a_rests_of : Addr
  fd_rests_of : FuncData
  F_rests_of : Fun K "rests_of" "rests_of" s_rests_of a_rests_of fd_rests_of
  b_rests_of : Binds K fd_rests_of P_rests_of []
  g_rests_of : mg "rests_of" = some (.ref a_rests_of)
  kb_rests_of : KBn K fd_rests_of P_rests_of 0 ["order", "names"] (byPl [1, 0]) (byPl [1, 0])
  a_order_by : Addr
  fd_order_by : FuncData
  F_order_by : Fun K "order_by" "order_by" s_order_by a_order_by fd_order_by
  b_order_by : Binds K fd_order_by P_order_by []
  g_order_by : mg "order_by" = some (.ref a_order_by)
  kb_order_by : KBn K fd_order_by P_order_by 0 ["begin", "places", "names"] (byPl [2, 0, 1]) (byPl [2, 0, 1])
  a_is_places : Addr
  fd_is_places : FuncData
  F_is_places : Fun K "_is_places" "_is_places" s_is_places a_is_places fd_is_places
  b_is_places : Binds K fd_is_places P_is_places []
  g_is_places : mg "_is_places" = some (.ref a_is_places)
  a_l_state : Addr
  fd_l_state : FuncData
  F_l_state : Fun K "_law_state" "_law_state" s_l_state a_l_state fd_l_state
  b_l_state : Binds K fd_l_state P_l_state []
  g_l_state : mg "_law_state" = some (.ref a_l_state)
  a_l_draw : Addr
  fd_l_draw : FuncData
  F_l_draw : Fun K "_law_draw" "_law_draw" s_l_draw a_l_draw fd_l_draw
  b_l_draw : Binds K fd_l_draw P_l_draw []
  g_l_draw : mg "_law_draw" = some (.ref a_l_draw)
  a_l_pick : Addr
  fd_l_pick : FuncData
  F_l_pick : Fun K "_law_pick" "_law_pick" s_l_pick a_l_pick fd_l_pick
  b_l_pick : Binds K fd_l_pick P_l_pick []
  g_l_pick : mg "_law_pick" = some (.ref a_l_pick)
  a_l_labels : Addr
  fd_l_labels : FuncData
  F_l_labels : Fun K "_law_labels" "_law_labels" s_l_labels a_l_labels fd_l_labels
  b_l_labels : Binds K fd_l_labels P_l_labels []
  g_l_labels : mg "_law_labels" = some (.ref a_l_labels)
  a_l_shuffled : Addr
  fd_l_shuffled : FuncData
  F_l_shuffled : Fun K "_law_shuffled" "_law_shuffled" s_l_shuffled a_l_shuffled fd_l_shuffled
  b_l_shuffled : Binds K fd_l_shuffled P_l_shuffled []
  g_l_shuffled : mg "_law_shuffled" = some (.ref a_l_shuffled)
  a_l_decoded : Addr
  fd_l_decoded : FuncData
  F_l_decoded : Fun K "_law_decoded" "_law_decoded" s_l_decoded a_l_decoded fd_l_decoded
  b_l_decoded : Binds K fd_l_decoded P_l_decoded []
  g_l_decoded : mg "_law_decoded" = some (.ref a_l_decoded)
  a_l_indexes : Addr
  fd_l_indexes : FuncData
  F_l_indexes : Fun K "_law_indexes" "_law_indexes" s_l_indexes a_l_indexes fd_l_indexes
  b_l_indexes : Binds K fd_l_indexes P_l_indexes []
  g_l_indexes : mg "_law_indexes" = some (.ref a_l_indexes)
  a_l_exact : Addr
  fd_l_exact : FuncData
  F_l_exact : Fun K "_law_exact" "_law_exact" s_l_exact a_l_exact fd_l_exact
  b_l_exact : Binds K fd_l_exact P_l_exact []
  g_l_exact : mg "_law_exact" = some (.ref a_l_exact)
  a_l_otherwise : Addr
  fd_l_otherwise : FuncData
  F_l_otherwise : Fun K "_law_otherwise" "_law_otherwise" s_l_otherwise a_l_otherwise fd_l_otherwise
  b_l_otherwise : Binds K fd_l_otherwise P_l_otherwise []
  g_l_otherwise : mg "_law_otherwise" = some (.ref a_l_otherwise)
  a_law : Addr
  fd_law : FuncData
  F_law : Fun K "law" "law" s_law a_law fd_law
  b_law : Binds K fd_law P_law []
  g_law : mg "law" = some (.ref a_law)
  tk_LETTERS : Tok
  g_LETTERS : mg "LETTERS" = some (.str "abcdefghijklmnopqrstuvwxyz" tk_LETTERS)
  tk_LONGEST_NAME : Tok
  g_LONGEST_NAME : mg "LONGEST_NAME" = some (.int 8 tk_LONGEST_NAME)
  tk_FEWEST : Tok
  g_FEWEST : mg "FEWEST" = some (.int 2 tk_FEWEST)
  tk_MOST : Tok
  g_MOST : mg "MOST" = some (.int 12 tk_MOST)
  m_abs : mg "abs" = none
  m_all : mg "all" = none
  m_bool : mg "bool" = none
  m_dict : mg "dict" = none
  m_enumerate : mg "enumerate" = none
  m_int : mg "int" = none
  m_isinstance : mg "isinstance" = none
  m_len : mg "len" = none
  m_list : mg "list" = none
  m_range : mg "range" = none
  m_set : mg "set" = none
  m_str : mg "str" = none
  m_tuple : mg "tuple" = none
end K05
namespace K05
open PySem PySem.Spec PyProof.Rows L2 GL
section
variable {P : Program} {w : World} {K : PySem.W.Frag} {mg : Str → Option Value} {base : Heap}
theorem ok_l_draw (T : Tx K mg) : FnOk P w K mg base CX0 1 T.a_l_draw T.fd_l_draw P_l_draw spDraw := by
  refine T.F_l_draw.ok sc_l_draw (fun vs H Q E h => ?_) (fun cdv A outer s H vs Q E hr h => ?_)
  · obtain ⟨S, C, n, rfl, _⟩ := h
    rfl
  · obtain ⟨S, C, n, rfl, hn, hn2, hst, q⟩ := h
    have hSC := hst.ne
    obtain ⟨cells, k, m, hS, hC, hc0, hc63, hpos, hk, hm, hm2⟩ := hst
    have hz : (0 : Int) < ((cells.map V.int).length : Int) := by rw [List.length_map]; omega
    have b1 := Int.emod_nonneg k (Int.ne_of_gt hz)
    have b2 := Int.emod_lt_of_pos k hz
    obtain ⟨j, c, ej, hj, _, hcj, hcm⟩ := cell_at (xs := cells) b1 (by rw [List.length_map] at b2 ⊢; exact b2)
    have c0 := hpos c hcm
    refine ⟨_, (pss_cons (ps_set (i := 2) sc_l_draw.nd rfl (.inl rfl) (pe_ix ix_list (pv 0) pe_int (fun _ _ => rfl)))
      (pss_cons (ps_set (i := 3) sc_l_draw.nd rfl (.inl rfl) (pe_op op_mod (pe_ix ix_list (pv 0) pe_int (fun _ _ => rfl)) (pe_callB call_len_seq (by rfl) T.m_len (by decide +kernel) (pa_cons (pv 2) pa_nil))))
      (pss_cons (ps_set (i := 4) sc_l_draw.nd rfl (.inl rfl) (pe_ix ix_list (pv 2) (pv 3) (fun _ _ => rfl)))
      (pss_cons (ps_if (pt_cmpR op_ge (pv 4) pe_int (nomark _))
       (pss_cons (ps_asg (pe_op op_fdivW (pv 4) (pv 1)) (pg_sub (pv 2) (pv 3) set_list))
        (pss_one (ps_ret (pe_op op_mod (pv 4) (pv 1)))))
       pss_nil)
      (pss_cons (ps_asg (pe_op op_add (pe_ix ix_list (pv 0) pe_int (fun _ _ => rfl)) pe_int) (pg_sub (pv 0) pe_int set_list))
      (pss_cons (ps_asg (pe_op op_mod (pe_op op_add (pe_op op_add (pe_op op_add (pe_op op_mul (pe_ix ix_list (pv 0) pe_int (fun _ _ => rfl)) pe_int) (pv 4)) (pe_op op_mul pe_int (pe_ix ix_list (pv 0) pe_int (fun _ _ => rfl)))) pe_int) pe_int) (pg_sub (pv 0) pe_int set_list))
      (pss_one (ps_ret (pe_op op_mod (pe_op op_fdiv (pe_op op_mod (pe_op op_mul (pe_ix ix_list (pv 0) pe_int (fun _ _ => rfl)) (pe_ix ix_list (pv 0) pe_int (fun _ _ => rfl))) pe_int) pe_int) (pv 1)))))))))), ?_⟩
    refine ⟨_, rfl, _, _, _, _, rfl, rfl, SqL.of hS, rfl, ?_⟩
    refine ⟨_, rfl, _, _, _, _, rfl, rfl, SqL.of hS, rfl, _, rfl, C, _, rfl, .inl (SqL.of hC), _, _, rfl, rfl, hz, ?_⟩
    refine ⟨_, rfl, _, rfl, _, _, _, _, rfl, rfl, SqL.of hC, at_of ej hcj, ?_⟩
    refine ⟨_, rfl, _, _, rfl, rfl, _, rfl, ite2 (fun hbig => ?_) (fun hsmall => ?_)⟩
    · refine ⟨_, rfl, _, rfl, _, _, rfl, rfl, wide_div hn hn2 (by decide) (by decide), _, rfl, _, rfl, C, _, _, j, rfl, rfl, hC, ixN_of ej (by rw [List.length_map]; exact hj), ?_⟩
      refine ⟨_, rfl, _, rfl, _, _, rfl, rfl, hn, ?_⟩
      refine q _ _ (fun b o e n1 n2 => by rw [upd_ne n2]; exact e) ⟨cells.set j (c / n), k, m, by rw [upd_ne hSC]; exact hS, by rw [upd_same, List.map_set], by rw [List.length_set]; exact hc0, by rw [List.length_set]; exact hc63, fun x hx => ?_, hk, hm, hm2⟩ (Int.emod_nonneg _ (Int.ne_of_gt hn)) (Int.emod_lt_of_pos _ hn)
      rcases List.mem_or_eq_of_mem_set hx with hx | rfl
      · exact hpos x hx
      · exact Int.ediv_nonneg c0 (Int.le_of_lt hn)
    · refine ⟨_, rfl, _, _, _, _, rfl, rfl, SqL.of hS, rfl, _, _, rfl, rfl, _, rfl, S, _, _, 1, rfl, rfl, hS, rfl, ?_⟩
      rw [lst3_set1]
      refine ⟨_, rfl, _, _, _, _, rfl, rfl, SqL.of upd_same, rfl, _, _, rfl, rfl, .inl (by omega), _, rfl, _, _, rfl, rfl, _, rfl, _, _, _, _, rfl, rfl, SqL.of upd_same, rfl, _, _, rfl, rfl, .inl ⟨by decide, by decide⟩, _, _, rfl, rfl, _, _, rfl, rfl, _, _, rfl, rfl, (by show (0 : Int) < 2147483647; decide), _, rfl, S, _, _, 2, rfl, rfl, upd_same, rfl, ?_⟩
      have n1 := Int.emod_nonneg (m * 48271 + c + 7919 * (k + 1) + 12345) (show (2147483647 : Int) ≠ 0 by decide)
      have n2 := Int.emod_lt_of_pos (m * 48271 + c + 7919 * (k + 1) + 12345) (show (0 : Int) < 2147483647 by decide)
      refine ⟨_, rfl, _, _, _, _, rfl, rfl, SqL.of upd_same, rfl, _, rfl, _, _, _, _, rfl, rfl, SqL.of upd_same, rfl, _, _, rfl, rfl, .inl (by omega), _, _, rfl, rfl, (by show (0 : Int) < 2147483629; decide), _, _, rfl, rfl, ⟨by decide, by decide⟩, _, rfl, _, _, rfl, rfl, hn, ?_⟩
      refine q _ _ (fun b o e n1 n2 => by rw [upd_ne n1, upd_ne n1]; exact e) ⟨cells, k + 1, _, upd_same, by rw [upd_ne hSC.symm, upd_ne hSC.symm]; exact hC, hc0, hc63, hpos, by omega, n1, n2⟩ (Int.emod_nonneg _ (Int.ne_of_gt hn)) (Int.emod_lt_of_pos _ hn)
theorem ok_l_state (T : Tx K mg) : FnOk P w K mg base CX0 1 T.a_l_state T.fd_l_state P_l_state (spState K) := by
  refine T.F_l_state.ok sc_l_state (fun vs H Q E h => ?_) (fun cdv A outer s H vs Q E hr h => ?_)
  · obtain ⟨a, ns, rfl, _⟩ := h
    rfl
  · obtain ⟨a, ns, rfl, ha, hl, q⟩ := h
    refine ⟨_, (pss_one (ps_ret (pe_lst (pa_cons (pe_orT (pe_lc (own := [("_law_cell", 1)]) (g := gName 1) (tt := tYes) rfl sc_l_state.nd (pi_list (pe_slice sl_list (pv 0) po_none (po_some pe_int))) (blkOk_by (N := N_l_state) (sc := defScope s_l_state) (by decide +kernel)) (fun _ _ _ _ _ => pg_name (i := 1) sc_l_state.nd rfl (Or.inl rfl)) (fun _ _ _ _ _ => pts_nil) (fun _ _ _ _ _ => (pe_callB call_abs (by rfl) T.m_abs (by decide +kernel) (pa_cons (pv 1) pa_nil)))) (pe_one (pe_lst (pa_cons pe_int pa_nil)))) (pa_cons pe_int (pa_cons pe_int pa_nil)))))), ?_⟩
    refine ⟨_, rfl, 63, rfl, a, _, rfl, ha, fun c nc => ?_⟩
    rw [show cutV (ns.map V.int) none (some 63) = ns.map V.int from (cut_take _ 63).trans (List.take_of_length_le (by rw [List.length_map]; exact hl))]
    have Dn : ∀ D, (upd H c (.lst (ns.map V.int))) D = none → D ≠ c ∧ H D = none := fun D nD => by
      have k : D ≠ c := fun e => by rw [e, upd_same] at nD; cases nD
      exact ⟨k, by rw [upd_ne k] at nD; exact nD⟩
    refine ⟨c, rfl, ⟨_, SqL.of upd_same⟩, fun D nD => ?_⟩
    obtain ⟨nDc, nD0⟩ := Dn D nD
    refine lc_list (K := K) (a := c) (xs := ns.map V.int) (fun i H' => Same H H' ∧ H' c = some (.lst (ns.map V.int)) ∧ H' D = some (.lst (((ns.take i).map fun n => if n < 0 then -n else n).map V.int))) ⟨(same_new nc).own nD0, by rw [upd_ne nDc.symm, upd_same], upd_same⟩ (fun i H' _ p => SqL.of p.2.1) (fun i x H' hx p => ?_) (fun H' p => ?_)
    · obtain ⟨sm, hc, hD⟩ := p
      obtain ⟨z, hz, rfl⟩ := of_ints_at hx
      have hlt := (List.getElem?_eq_some_iff.mp hz).1
      refine ⟨rfl, ?_⟩
      refine ⟨_, rfl, z, rfl, _, hD, by rw [List.length_map, List.length_map, List.length_take]; exact small_lt (by omega), ?_⟩
      refine ⟨L2.Same.own sm nD0, by rw [upd_ne nDc.symm]; exact hc, ?_⟩
      rw [upd_same, take_snoc hz, List.map_append, List.map_append]
      rfl
    · obtain ⟨sm, hc, hD⟩ := p
      rw [List.length_map, List.take_length] at hD
      generalize hcs : (ns.map fun n => if n < 0 then -n else n) = cs at hD
      have hpos : ∀ z ∈ cs, 0 ≤ z := fun z hz => by
        rw [← hcs] at hz
        obtain ⟨n, _, rfl⟩ := List.mem_map.mp hz
        split <;> omega
      have hcl : cs.length ≤ 63 := by rw [← hcs, List.length_map]; exact hl
      refine ⟨!cs.isEmpty, .inl ⟨_, SqL.of hD, by cases cs <;> rfl⟩, ?_⟩
      cases cs with
      | nil =>
        refine ⟨(by show 1 ≤ sizeLine; decide), fun p np => ?_⟩
        refine ⟨(by show 3 ≤ sizeLine; decide), fun S nS => ?_⟩
        have nSp : S ≠ p := fun z => by rw [z, upd_same] at nS; cases nS
        have nS0 : H S = none := sm.free (by rw [upd_ne nSp] at nS; exact nS)
        exact q _ S p ((sm.trans (same_new np)).trans (same_new nS)) nS0 (sm.free np) ⟨[7], 0, 1, upd_same, by rw [upd_ne nSp.symm, upd_same]; rfl, by decide, by decide, by decide, by decide, by decide, by decide⟩
      | cons c0 cr =>
        refine ⟨(by show 3 ≤ sizeLine; decide), fun S nS => ?_⟩
        have nS0 : H S = none := sm.free nS
        have hSD : S ≠ D := fun z => by rw [z, hD] at nS; cases nS
        exact q _ S D (sm.trans (same_new nS)) nS0 nD0 ⟨c0 :: cr, 0, 1, upd_same, by rw [upd_ne hSD.symm]; exact hD, Nat.succ_pos _, hcl, hpos, by decide, by decide, by decide⟩
theorem ok_l_pick (T : Tx K mg) : FnOk P w K mg base CX0 2 T.a_l_pick T.fd_l_pick P_l_pick spPick := by
  refine T.F_l_pick.ok sc_l_pick (fun vs H Q E h => ?_) (fun cdv A outer s H vs Q E hr h => ?_)
  · obtain ⟨S, C, n, rfl, _⟩ := h
    rfl
  · obtain ⟨S, C, x, rfl, hst, h⟩ := h
    refine ⟨_, (pss_one (ps_ret (pe_ix ix_seq (pv 1) (pe_call (ok_l_draw T) (hr.mono (by decide)) (by rfl) T.g_l_draw T.F_l_draw.kp T.b_l_draw .nil pass0 (pa_cons (pv 0) (pa_cons (pe_callB call_len (by rfl) T.m_len (by decide +kernel) (pa_cons (pv 1) pa_nil)) pa_nil))) (fun _ _ => rfl)))), ?_⟩
    rcases h with ⟨a, xs, rfl, na, nc, ha, h0, hl, q⟩ | ⟨z, rfl, h0, hl, q⟩
    · refine ⟨_, rfl, _, rfl, _, rfl, _, xs.length, rfl, .inl ⟨xs, SqL.of ha, rfl⟩, S, C, _, rfl, by omega, small_nat (by omega), hst, fun H' d m st d0 d1 => ?_⟩
      obtain ⟨j, v, ej, hj, hv⟩ := at_some d0 d1
      exact .inl ⟨a, xs, d, v, rfl, rfl, SqL.of (m _ _ ha na nc), atI_at ej hj, q _ _ m st hv⟩
    · have hz : z.cps.toList.length = z.length := Array.length_toList
      refine ⟨_, rfl, _, rfl, _, rfl, _, z.length, rfl, ⟨Nat.le_trans hl (by decide), rfl⟩, S, C, _, rfl, by omega, small_nat (by omega), hst, fun H' d m st d0 d1 => ?_⟩
      obtain ⟨j, v, ej, hj, hv⟩ := at_some (xs := z.cps.toList) d0 (by omega)
      exact .inr (.inr ⟨z, d, v, rfl, rfl, Nat.le_trans hl (by decide), atI_at ej hj, q _ _ m st hv⟩)
def WShuf (S C a l f : Addr) (ns : List Str) (H : Hp) (m : Nat) (σ : L2.St) (H1 : Hp) : Prop := ∃ ls fs : List Str, m = ls.length ∧ σ = [some (.ref S), some (.ref a), some (.ref l), some (.ref f)] ∧ Mod S C H H1 ∧ StOk H1 S C ∧
  H1 l = some (.lst (ls.map V.str)) ∧ H1 f = some (.lst (fs.map V.str)) ∧ (fs ++ ls).Perm ns
theorem ok_l_shuffled (T : Tx K mg) : FnOk P w K mg base CX0 2 T.a_l_shuffled T.fd_l_shuffled P_l_shuffled spMixed := by
  refine T.F_l_shuffled.ok sc_l_shuffled (fun vs H Q E h => ?_) (fun cdv A outer s H vs Q E hr h => ?_)
  · obtain ⟨S, C, a, n, rfl, _⟩ := h
    rfl
  · obtain ⟨S, C, a, ns, rfl, hst, ha, hl, hok, q⟩ := h
    refine ⟨_, (pss_cons (ps_par (i := 2) (j := 3) (by rfl) sc_l_shuffled.nd rfl rfl (by decide) rfl rfl (pa_cons (pe_callTy call_list_of (by rfl) T.m_list (by decide +kernel) (pa_cons (pv 1) pa_nil)) (pa_cons (pe_lst pa_nil) pa_nil)) (by rfl))
      (pss_cons (ps_while PassesOwn.never (pt_cmpR (op_neD hr.units) (pv 2) (pe_lst pa_nil) (nomark _))
       (pss_one (ps_expr (pe_bm PySem.F.plainAttrs_list PySem.F.slot_list_append PySem.F.type_list_append mt_append (pv 3) (pa_cons (pe_bm PySem.F.plainAttrs_list PySem.F.slot_list_pop PySem.F.type_list_pop mt_popAt (pv 2) (pa_cons (pe_call (ok_l_draw T) (hr.mono (by decide)) (by rfl) T.g_l_draw T.F_l_draw.kp T.b_l_draw .nil pass0 (pa_cons (pv 0) (pa_cons (pe_callB call_len_seq (by rfl) T.m_len (by decide +kernel) (pa_cons (pv 2) pa_nil)) pa_nil))) pa_nil)) pa_nil)))))
      (pss_one (ps_ret (pv 3))))), ?_⟩
    refine ⟨_, rfl, a, _, rfl, .inl (SqL.of ha), fun l nl => ?_⟩
    refine ⟨Nat.zero_le _, fun f nf => ?_⟩
    have nfl : f ≠ l := fun e => by rw [e, upd_same] at nf; cases nf
    have nf0 : H f = none := by rw [upd_ne nfl] at nf; exact nf
    refine ⟨_, _, rfl, WShuf S C a l f ns H, ⟨ns.length, ns, [], rfl, rfl, (Mod.of (same_new nl)).own nf0, (hst.same (same_new nl)).same (same_new nf), by rw [upd_ne nfl.symm, upd_same], upd_same, .refl _⟩, fun m σ H1 hW => ?_⟩
    obtain ⟨ls, fs, rfl, rfl, m1, st1, hl1, hf1, pm⟩ := hW
    have hlen : fs.length + ls.length = ns.length := by rw [← List.length_append]; exact pm.length_eq
    have okl : ∀ y ∈ ls, PyData.strOk y = true := fun y hy => hok y (pm.mem_iff.mp (List.mem_append_right _ hy))
    refine ⟨_, rfl, Nat.zero_le _, fun e ne => ?_⟩
    have hl2 : (upd H1 e (.lst [])) l = some (.lst (ls.map V.str)) := same_new ne _ _ hl1
    have hf2 : (upd H1 e (.lst [])) f = some (.lst (fs.map V.str)) := same_new ne _ _ hf1
    have m2 : Mod S C H (upd H1 e (.lst [])) := m1.trans (Mod.of (same_new ne))
    have st2 : StOk (upd H1 e (.lst [])) S C := st1.same (same_new ne)
    refine ⟨_, .list [], dp_list hl2, .lst (SqL.of upd_same) .nil, shaped_list okl, shaped_list (ys := []) (fun _ h => nomatch h), _, rfl, ?_⟩
    rw [show PyData.list [] = .list (([] : List Str).map PyData.str) from rfl, eqv_lists]
    by_cases hne : ls = []
    · rw [decide_eq_true hne]
      refine iteF ?_
      subst hne
      rw [List.append_nil] at pm
      exact ⟨_, rfl, q _ f fs m2 st2 nf0 hf2 pm⟩
    · rw [decide_eq_false hne]
      have hp : 0 < ls.length := List.length_pos_iff.mpr hne
      refine iteT ⟨fun σ' H' => ∃ m', m' < ls.length ∧ WShuf S C a l f ns H m' σ' H', fun _ _ h => h, ?_⟩
      refine ⟨_, rfl, .inl ⟨rfl, _, SqL.of hf2⟩, _, rfl, .inl ⟨rfl, _, SqL.of hl2⟩, _, rfl, _, rfl, l, _, rfl, .inl (SqL.of hl2), S, C, _, rfl, by rw [List.length_map]; omega, by rw [List.length_map]; exact small_nat (by omega), st2, fun H3 d m3 st3 d0 d1 => ?_⟩
      rw [List.length_map] at d1
      obtain ⟨j, v, ej, hj, hv⟩ := at_some d0 d1
      have hl3 := m3.strs st2 hl2
      have hf3 := m3.strs st2 hf2
      have hlf : l ≠ f := nfl.symm
      have hjl := (List.getElem?_eq_some_iff.mp hj).1
      refine ⟨l, _, d, j, .str v, rfl, rfl, hl3, by omega, by omega, ?_, strs_at hj, ?_⟩
      · subst ej
        rw [List.length_map, seqIndex_of d0 d1]
        rfl
      · refine ⟨f, _, .str v, rfl, rfl, by rw [upd_ne nfl]; exact hf3, by rw [List.length_map]; exact small_lt (by omega), ?_⟩
        have ofl := st3.offS hl3
        have off := st3.offS hf3
        refine ⟨(ls.eraseIdx j).length, by rw [List.length_eraseIdx, if_pos hjl]; omega, ls.eraseIdx j, fs ++ [v], rfl, rfl, ((m2.trans m3).own nl).own nf0, (st3.upd ofl.1 ofl.2).upd off.1 off.2, ?_, ?_, ?_⟩
        · rw [upd_ne hlf, upd_same, erase_map]
        · rw [upd_same, List.map_append]
          rfl
        · rw [List.append_assoc]
          exact ((List.Perm.refl fs).append (erase_perm hj)).trans pm
end
end K05
namespace K05
open PySem PySem.Spec PyProof.Rows L2 GL
section
variable {P : Program} {w : World} {K : PySem.W.Frag} {mg : Str → Option Value} {base : Heap}
theorem ok_l_labels (T : Tx K mg) : FnOk P w K mg base CX0 3 T.a_l_labels T.fd_l_labels P_l_labels spNames := by
  refine T.F_l_labels.ok sc_l_labels (fun vs H Q E h => ?_) (fun cdv A outer s H vs Q E hr h => ?_)
  · obtain ⟨S, C, n, rfl, _⟩ := h
    rfl
  · obtain ⟨S, C, n, rfl, hn0, hn1, hst, q⟩ := h
    refine ⟨_, (pss_cons (ps_set (i := 2) sc_l_labels.nd rfl (.inl rfl) (pe_lst (pa_cons pe_str (pa_cons pe_str (pa_cons pe_str (pa_cons pe_str (pa_cons pe_str (pa_cons pe_str (pa_cons pe_str (pa_cons pe_str (pa_cons pe_str (pa_cons pe_str (pa_cons pe_str (pa_cons pe_str (pa_cons pe_str pa_nil)))))))))))))))
      (pss_cons (ps_set (i := 3) sc_l_labels.nd rfl (.inr rfl) (pe_lst pa_nil))
      (pss_cons (ps_for PassesOwn.never rfl (pi_range1 (by rfl) T.m_range (pa_cons (pv 1) pa_nil)) (pg_name (i := 4) sc_l_labels.nd rfl (.inl rfl))
       (pss_cons (ps_set (i := 5) sc_l_labels.nd rfl (.inr rfl) (pe_call (ok_l_pick T) (hr.mono (by decide)) (by rfl) T.g_l_pick T.F_l_pick.kp T.b_l_pick .nil pass0 (pa_cons (pv 0) (pa_cons (pv 2) pa_nil))))
        (pss_cons (ps_if (pt_cmpR op_gt (pe_call (ok_l_draw T) (hr.mono (by decide)) (by rfl) T.g_l_draw T.F_l_draw.kp T.b_l_draw .nil pass0 (pa_cons (pv 0) (pa_cons pe_int pa_nil))) pe_int (nomark _))
         (pss_one (ps_set (i := 5) sc_l_labels.nd rfl (.inr rfl) (pe_join pe_str (pe_lc (own := [("_law_k", 6)]) (g := gName 6) (tt := tYes) rfl sc_l_labels.nd (pi_range1 (by rfl) T.m_range (pa_cons (pe_op op_add pe_int (pe_call (ok_l_draw T) (hr.mono (by decide)) (by rfl) T.g_l_draw T.F_l_draw.kp T.b_l_draw .nil pass0 (pa_cons (pv 0) (pa_cons pe_int pa_nil)))) pa_nil)) (blkOk_by (N := N_l_labels) (sc := defScope s_l_labels) (by decide +kernel)) (fun _ _ _ _ _ => pg_name (i := 6) sc_l_labels.nd rfl (Or.inl rfl)) (fun _ _ _ _ _ => pts_nil) (fun _ _ _ _ _ => (pe_call (ok_l_pick T) (hr.mono (by decide)) (by rfl) T.g_l_pick T.F_l_pick.kp T.b_l_pick .nil pass0 (pa_cons (pv 0) (pa_cons pe_str pa_nil))))))))
         pss_nil)
        (pss_cons (ps_if (pt_cmpR op_in_seq (pv 5) (pv 3) (by rfl))
         (pss_one (ps_set (i := 5) sc_l_labels.nd rfl (.inr rfl) (pe_ix ix_list (pe_lc (own := [("_law_sign", 7)]) (g := gName 7)  rfl sc_l_labels.nd (pi_str pe_str) (blkOk_by (N := N_l_labels) (sc := defScope s_l_labels) (by decide +kernel)) (fun _ _ _ _ _ => pg_name (i := 7) sc_l_labels.nd rfl (Or.inl rfl)) (fun _ _ _ _ _ => pts_one (pt_cmpR (show OpR _ (compareOp .NotIn) (rIn K true) from op_notIn_seq) (pe_op op_add_str (pe_slice sl_str (pv 5) po_none (po_some pe_int)) (pv 7)) (pv 3) (by rfl))) (fun _ _ _ _ _ => (pe_op op_add_str (pe_slice sl_str (pv 5) po_none (po_some pe_int)) (pv 7)))) pe_int (fun _ _ => rfl))))
         pss_nil)
        (pss_one (ps_expr (pe_bm PySem.F.plainAttrs_list PySem.F.slot_list_append PySem.F.type_list_append mt_append (pv 3) (pa_cons (pv 5) pa_nil))))))))
      (pss_one (ps_ret (pv 3)))))), ?_⟩
    refine ⟨(by show 13 ≤ sizeLine; decide), fun ow now => ⟨Nat.zero_le _, fun f nf => ?_⟩⟩
    have fow : f ≠ ow := fun e => by rw [e, upd_same] at nf; cases nf
    have nf0 : H f = none := by rw [upd_ne fow] at nf; exact nf
    refine ⟨_, rfl, n, rfl, by omega, by omega, ?_⟩
    have how0 : (upd (upd H ow (.lst (words13.map V.str))) f (.lst [])) ow = some (.lst (words13.map V.str)) := by rw [upd_ne fow.symm, upd_same]
    have st0 : StOk (upd (upd H ow (.lst (words13.map V.str))) f (.lst [])) S C := (hst.same (same_new now)).same (same_new nf)
    refine for_range (lo := 0) (n := n.toNat) (fun i σ H1 => (∃ a b, σ = [some (.ref S), some (.int n), some (.ref ow), some (.ref f), a, b, none, none]) ∧ Mod S C H H1 ∧ StOk H1 S C ∧ H1 ow = some (.lst (words13.map V.str)) ∧ ∃ ys : List Str, H1 f = some (.lst (ys.map V.str)) ∧ ys.length = i ∧ ys.Nodup ∧ ∀ y ∈ ys, NameOk y)
      ⟨⟨none, none, rfl⟩, (Mod.of (same_new now)).own nf0, st0, how0, [], upd_same, rfl, List.nodup_nil, fun _ h => nomatch h⟩ (fun i σ H1 hi hP => ?_) (fun σ H1 hP => ?_)
    · obtain ⟨⟨a, b, rfl⟩, m1, st1, how, ys, hf, hlen, hnd, hok⟩ := hP
      have hi14 : i < 14 := by omega
      have off := st1.offS how
      refine ⟨_, rfl, _, rfl, S, C, _, rfl, st1, .inl ⟨ow, _, rfl, off.1, off.2, how, by decide, by decide, fun H2 v m2 st2 hv => ?_⟩⟩
      obtain ⟨y, rfl, hy⟩ : ∃ y, v = .str y ∧ NameOk y := by
        obtain ⟨y, hy, rfl⟩ := List.mem_map.mp hv
        exact ⟨y, rfl, words13_ok y hy⟩
      clear hv
      refine ⟨_, rfl, S, C, _, rfl, by decide, by decide, st2, fun H3 d m3 st3 d0 d1 => ?_⟩
      refine ⟨_, _, rfl, rfl, _, rfl, ?_⟩
      dsimp only
      refine ite2R (R := fun H4 z => tNext _ (([some (V.ref S), some (V.int n), some (V.ref ow), some (V.ref f), a, b, none, none].set 4 (some (V.int (0 + ((i : Nat) : Int))))).set 5 (some (V.str z))) H4) (fun H4 z => Mod S C H1 H4 ∧ StOk H4 S C ∧ NameOk z) H3 y (fun _ => ⟨m2.trans m3, st3, hy⟩) (fun _ key => ?_) (fun H4 z hz => ?_)
      · -- a word
        refine ⟨⟨_, rfl⟩, _, rfl, S, C, _, rfl, by decide, by decide, st3, fun H4 e m4 st4 e0 e1 => ?_⟩
        refine ⟨_, _, rfl, rfl, _, rfl, by omega, by omega, fun D nD => ?_⟩
        refine lc_range (lo := 0) (n := (1 + e).toNat) (fun j H5 => Mod S C H4 H5 ∧ StOk H5 S C ∧ ∃ cs : List Nat, cs.length = j ∧ (∀ x ∈ cs, 97 ≤ x ∧ x ≤ 122) ∧ H5 D = some (.lst ((cs.map one).map V.str)))
          ⟨Mod.of (same_new nD), st4.same (same_new nD), [], rfl, (fun _ h => nomatch h), upd_same⟩ (fun j H5 hj hP => ?_) (fun H5 hP => ?_)
        · obtain ⟨m5, st5, cs, hcl, hcs, hD⟩ := hP
          refine ⟨rfl, _, rfl, S, C, _, rfl, st5, .inr ⟨etao, rfl, by decide +kernel, by decide +kernel, fun H6 x m6 st6 hx => ?_⟩⟩
          have hD6 := m6.strs st5 hD
          have off6 := st6.offS hD6
          refine ⟨_, hD6, by rw [List.length_map, List.length_map]; exact small_lt (by omega), (m5.trans m6).own nD, st6.upd off6.1 off6.2, cs ++ [x], by rw [List.length_append, hcl]; rfl, fun y hy => ?_, ?_⟩
          · rcases List.mem_append.mp hy with hy | hy
            · exact hcs y hy
            · rw [List.mem_singleton] at hy
              rw [hy]
              exact etao_mem x hx
          · rw [upd_same, List.map_append, List.map_append]
            rfl
        · obtain ⟨m5, st5, cs, hcl, hcs, hD⟩ := hP
          have hcl8 : cs.length ≤ 8 := by omega
          refine ⟨_, D, cs.map one, rfl, rfl, .inl (SqL.of hD), by rw [ones_len]; show cs.length + (cs.map one).length * 0 ≤ 16777216; omega, ?_⟩
          have hw : NameOk (Txt.join ("" : Str) (cs.map one)) := by
            rw [show ("" : Str) = ⟨#[]⟩ by decide +kernel]
            unfold NameOk
            rw [glue_ones]
            exact ⟨by omega, hcl8, hcs⟩
          exact key H5 _ ⟨((m2.trans m3).trans m4).trans m5, st5, hw⟩
      · obtain ⟨m4, st4, hz⟩ := hz
        have hf4 := m4.strs st1 hf
        have how4 := m4.strs st1 how
        refine ⟨_, rfl, _, rfl, f, _, rfl, .inl (SqL.of hf4), rfl, flat_strs ys, decide (z ∈ ys), by rw [inV_strs]; rfl, ?_⟩
        dsimp only
        refine ite2R (R := fun H5 y => tNext _ (([some (V.ref S), some (V.int n), some (V.ref ow), some (V.ref f), a, b, none, none].set 4 (some (V.int (0 + ((i : Nat) : Int))))).set 5 (some (V.str y))) H5) (fun H5 y => Mod S C H1 H5 ∧ StOk H5 S C ∧ NameOk y ∧ y ∉ ys) H4 z (fun h => ⟨m4, st4, hz, fun hm => h (decide_eq_true hm)⟩) (fun _ key => ?_) (fun H5 y hy => ?_)
        · refine ⟨_, rfl, fun D nD => ?_⟩
          refine lc_it (walk_str (z := abc)) (fun j H5 => Same H4 H5 ∧ H5 D = some (.lst ((((abc.cps.toList.take j).map (w7 z)).filter fun x => !decide (x ∈ ys)).map V.str))) ⟨same_new nD, by rw [upd_same]; rfl⟩ (fun _ _ _ _ => trivial) (fun j x H5 H6 hj hP hY => ?_) (fun H5 hP => ?_)
          · obtain ⟨sm5, hD⟩ := hP
            obtain ⟨rfl, ch, hch, rfl⟩ := hY
            have hch2 : abc.cps.toList[j]? = some ch := by rw [Array.getElem?_toList]; exact hch
            have hsz : (cutS z none (some 7)).length + 1 ≤ sizeLine := by
              have := cutS_length z none (some 7)
              have h8 := hz.len
              exact small_sz (by omega)
            refine ⟨rfl, _, rfl, 7, rfl, z, rfl, Nat.le_trans hz.len (by decide), _, rfl, _, _, rfl, rfl, hsz, _, rfl, f, _, rfl, .inl (SqL.of (sm5 _ _ hf4)), rfl, flat_strs ys, _, rfl, ?_⟩
            show if (!inV (.str (w7 z ch)) (ys.map V.str)) = true then _ else _
            rw [inV_strs]
            by_cases hxy : w7 z ch ∈ ys
            · rw [decide_eq_true hxy]
              refine iteF ⟨sm5, ?_⟩
              rw [hD, take_snoc hch2, List.map_append, List.filter_append, List.map_cons, List.filter_cons, decide_eq_true hxy]
              simp
            · rw [decide_eq_false hxy]
              refine ⟨_, rfl, 7, rfl, z, rfl, Nat.le_trans hz.len (by decide), _, rfl, _, _, rfl, rfl, hsz, _, hD, ?_, sm5.own nD, ?_⟩
              · rw [List.length_map]
                refine small_lt (Nat.lt_of_le_of_lt (List.length_filter_le _ _) ?_)
                rw [List.length_map, List.length_take]
                have : abc.cps.toList.length = 26 := by decide +kernel
                omega
              · rw [upd_same, take_snoc hch2, List.map_append, List.filter_append, List.map_cons, List.filter_cons, decide_eq_false hxy]
                simp
                rfl
          · obtain ⟨sm5, hD⟩ := hP
            have e26 : abc.cps.size = 26 := by decide +kernel
            have e26' : abc.cps.toList.length = 26 := by decide +kernel
            rw [List.take_of_length_le (by omega)] at hD
            have hne := fresh_w7 (z := z) (found := ys) (by omega)
            cases hfl : (abc.cps.toList.map (w7 z)).filter (fun x => !decide (x ∈ ys)) with
            | nil => exact absurd hfl hne
            | cons x r =>
              rw [hfl] at hD
              have hxm : x ∈ (abc.cps.toList.map (w7 z)).filter (fun x => !decide (x ∈ ys)) := by rw [hfl]; exact List.mem_cons_self
              obtain ⟨hx1, hx2⟩ := List.mem_filter.mp hxm
              have hxy : x ∉ ys := by simpa using hx2
              have hxo : NameOk x := by
                obtain ⟨c, hc, rfl⟩ := List.mem_map.mp hx1
                exact w7_ok hz (abc_mem.mp hc)
              refine ⟨D, _, 0, .str x, rfl, rfl, SqL.of hD, atI_nat (j := 0) rfl, ?_⟩
              exact key H5 x ⟨m4.trans (Mod.of sm5), st4.same sm5, hxo, hxy⟩
        · obtain ⟨m5, st5, hyo, hys⟩ := hy
          have hf5 := m5.strs st1 hf
          have how5 := m5.strs st1 how
          have off5 := st5.offS hf5
          have fow5 : ow ≠ f := fow.symm
          refine ⟨_, rfl, .inl ⟨rfl, _, SqL.of hf5⟩, _, rfl, f, _, _, rfl, rfl, hf5, by rw [List.length_map]; exact small_lt (by omega), ?_⟩
          refine ⟨⟨_, _, rfl⟩, (m1.trans m5).own nf0, st5.upd off5.1 off5.2, by rw [upd_ne fow5]; exact how5, ys ++ [y], by rw [upd_same, List.map_append]; rfl, by rw [List.length_append, hlen]; rfl, snoc_nd hnd hys, fun u hu => ?_⟩
          rcases List.mem_append.mp hu with hu | hu
          · exact hok u hu
          · rw [List.mem_singleton.mp hu]
            exact hyo
    · obtain ⟨⟨a, b, rfl⟩, m1, st1, how, ys, hf, hlen, hnd, hok⟩ := hP
      exact ⟨_, rfl, q H1 f ys m1 st1 nf0 hf hlen hnd hok⟩
end
end K05
namespace K05
open PySem PySem.Spec PyProof.Rows L2 GL
section
variable {P : Program} {w : World} {K : PySem.W.Frag} {mg : Str → Option Value} {base : Heap}
theorem ok_is_number (T : Tx K mg) : FnOk P w K mg base CX0 1 T.a_is_number T.fd_is_number P_is_number spIsNumber := by
  refine T.F_is_number.ok sc_is_number (fun vs H Q E h => ?_) (fun cdv A outer s H vs Q E hr h => ?_)
  · obtain ⟨z, rfl, _⟩ := h
    rfl
  · obtain ⟨z, rfl, q⟩ := h
    refine ⟨_, (pss_one (ps_ret (pe_and (pe_callB call_isi (by rfl) T.m_isinstance (by decide +kernel) (pa_cons (pv 0) (pa_cons (pe_bltn (v := .ty "int") (by rfl) T.m_int (by decide +kernel) rfl) pa_nil))) (pe_one (pe_not (pe_callB call_isi (by rfl) T.m_isinstance (by decide +kernel) (pa_cons (pv 0) (pa_cons (pe_bltn (v := .ty "bool") (by rfl) T.m_bool (by decide +kernel) rfl) pa_nil)))))))), ?_⟩
    refine ⟨_, rfl, _, _, _, _, true, rfl, .ty _, .base (.int z), kit_ty (by decide +kernel), true, rfl, ?_⟩
    exact ⟨_, rfl, _, _, _, _, false, rfl, .ty _, .base (.int z), kit_ty (by decide +kernel), false, rfl, q⟩
theorem ok_is_name (T : Tx K mg) : FnOk P w K mg base CX0 1 T.a_is_name T.fd_is_name P_is_name spIsName := by
  refine T.F_is_name.ok sc_is_name (fun vs H Q E h => ?_) (fun cdv A outer s H vs Q E hr h => ?_)
  · obtain ⟨z, rfl, _⟩ := h
    rfl
  · obtain ⟨z, rfl, hz, q⟩ := h
    refine ⟨_, (pss_cons (ps_if (PW.pt (pw_or (pt_not (pt_val (pe_callB call_isi (by rfl) T.m_isinstance (by decide +kernel) (pa_cons (pv 0) (pa_cons (pe_bltn (v := .ty "str") (by rfl) T.m_str (by decide +kernel) rfl) pa_nil))))) (pw_or1 (pt_not (pt_chain op_le op_le pe_int (pe_callB call_len_str (by rfl) T.m_len (by decide +kernel) (pa_cons (pv 0) pa_nil)) (pe_glob (v := .int 8) rfl T.g_LONGEST_NAME ⟨_, rfl⟩))))))
       (pss_one (ps_ret pe_bl))
       pss_nil)
      (pss_one (ps_ret (pe_callB (cr_all rfl) (by rfl) T.m_all (by decide +kernel) (pa_cons (pe_lc (own := [("sign", 1)]) (g := gName 1) (tt := tYes) rfl sc_is_name.nd (pi_str (pv 0)) (blkOk_by (N := N_is_name) (sc := defScope s_is_name) (by decide +kernel)) (fun _ _ _ _ _ => pg_name (i := 1) sc_is_name.nd rfl (Or.inl rfl)) (fun _ _ _ _ _ => pts_nil) (fun _ _ _ _ _ => (pe_cmpR op_in_sign (pv 1) (pe_glob (v := .str "abcdefghijklmnopqrstuvwxyz") rfl T.g_LETTERS ⟨_, rfl⟩) (by rfl)))) pa_nil))))), ?_⟩
    have l1 := hz.len1
    have l8 := hz.len
    have h1 : decide ((1 : Int) ≤ (z.length : Int)) = true := decide_eq_true (by omega)
    have h2 : decide ((z.length : Int) ≤ 8) = true := decide_eq_true (by omega)
    refine ⟨_, rfl, _, _, _, _, true, rfl, .ty _, .base (.str z), kit_ty (by decide +kernel), true, rfl, ?_⟩
    refine ⟨_, rfl, z, rfl, small_sz (by omega), _, _, rfl, rfl, _, rfl, ?_⟩
    rw [h1]
    refine ⟨_, _, rfl, rfl, _, rfl, ?_⟩
    rw [h2]
    refine ⟨_, rfl, _, rfl, fun D nD => ?_⟩
    refine lc_it (walk_str (z := z)) (fun j H1 => Same H H1 ∧ H1 D = some (.lst ((List.replicate j true).map V.bl))) ⟨same_new nD, upd_same⟩ (fun _ _ _ _ => trivial) (fun j x H1 H2 hj hP hY => ?_) (fun H1 hP => ?_)
    · obtain ⟨sm, hD⟩ := hP
      obtain ⟨rfl, c, hc, rfl⟩ := hY
      have hj8 : j < 8 := by have : z.cps.size = z.length := rfl
                             omega
      have hcm : c ∈ abc.cps.toList := abc_mem.mpr (hz.2.2 c (by rw [← Array.getElem?_toList] at hc; exact List.mem_of_getElem? hc))
      refine ⟨rfl, _, rfl, c, abc, rfl, rfl, _, hD, by rw [List.length_map, List.length_replicate]; exact small_lt (by omega), sm.own nD, ?_⟩
      rw [upd_same, decide_eq_true hcm, List.replicate_succ', List.map_append]
      rfl
    · obtain ⟨sm, hD⟩ := hP
      refine ⟨D, _, rfl, SqL.of hD, ?_⟩
      rw [all_rep]
      exact q _ sm
theorem ok_is_names (T : Tx K mg) : FnOk P w K mg base CX0 2 T.a_is_names T.fd_is_names P_is_names spIsNames := by
  refine T.F_is_names.ok sc_is_names (fun vs H Q E h => ?_) (fun cdv A outer s H vs Q E hr h => ?_)
  · obtain ⟨c, a, ns, rfl, _⟩ := h
    rfl
  · obtain ⟨c, a, ns, rfl, ha, g, q⟩ := h
    refine ⟨_, (pss_cons (ps_if (PW.pt (pw_or (pt_not (pt_val (pe_callB call_isiT (by rfl) T.m_isinstance (by decide +kernel) (pa_cons (pv 0) (pa_cons (pe_tup (pa_cons (pe_bltn (v := .ty "list") (by rfl) T.m_list (by decide +kernel) rfl) (pa_cons (pe_bltn (v := .ty "tuple") (by rfl) T.m_tuple (by decide +kernel) rfl) pa_nil))) pa_nil))))) (pw_or1 (pt_not (pt_chain op_le op_le (pe_glob (v := .int 2) rfl T.g_FEWEST ⟨_, rfl⟩) (pe_callB call_len_seq (by rfl) T.m_len (by decide +kernel) (pa_cons (pv 0) pa_nil)) (pe_glob (v := .int 12) rfl T.g_MOST ⟨_, rfl⟩))))))
       (pss_one (ps_ret pe_bl))
       pss_nil)
      (pss_cons (ps_if (pt_not (pt_val (pe_callB (cr_all rfl) (by rfl) T.m_all (by decide +kernel) (pa_cons (pe_lc (own := [("name", 1)]) (g := gName 1) (tt := tYes) rfl sc_is_names.nd (pi_either (pi_list (pv 0)) (pi_tup (pv 0))) (blkOk_by (N := N_is_names) (sc := defScope s_is_names) (by decide +kernel)) (fun _ _ _ _ _ => pg_name (i := 1) sc_is_names.nd rfl (Or.inl rfl)) (fun _ _ _ _ _ => pts_nil) (fun _ _ _ _ _ => (pe_call (ok_is_name T) (hr.mono (by decide)) (by rfl) T.g_is_name T.F_is_name.kp T.b_is_name .nil pass0 (pa_cons (pv 1) pa_nil)))) pa_nil))))
       (pss_one (ps_ret pe_bl))
       pss_nil)
      (pss_one (ps_ret (pe_cmpR op_eq (pe_lenSetS rfl T.m_len T.m_set (pv 0)) (pe_callB call_len_seq (by rfl) T.m_len (by decide +kernel) (pa_cons (pv 0) pa_nil)) (nomark _)))))), ?_⟩
    have l2 := g.two
    have l12 := g.twelve
    have h1 : decide ((2 : Int) ≤ ((ns.map V.str).length : Int)) = true := decide_eq_true (by rw [List.length_map]; omega)
    have h2 : decide (((ns.map V.str).length : Int) ≤ 12) = true := decide_eq_true (by rw [List.length_map]; omega)
    refine ⟨_, rfl, (by show 2 ≤ sizeLine; decide), fun t nt => ?_⟩
    cases c
    · have ha1 := SqAt.same ha (same_new (o := .tup [.ty "list", .ty "tuple"]) nt)
      refine ⟨_, t, _, _, _, true, rfl, upd_same, .cons (.ty _) (.cons (.ty _) .nil), SqAt.tyl ha1, kitAny_cons (b := true) (kit_ty (by decide +kernel)) (fun h => nomatch h) (fun _ => rfl), true, rfl, ?_⟩
      refine ⟨_, rfl, a, _, rfl, .inl (SqAt.l ha1), _, _, rfl, rfl, _, rfl, ?_⟩
      rw [h1]
      refine ⟨_, _, rfl, rfl, _, rfl, ?_⟩
      rw [h2]
      refine .inl ⟨_, rfl, a, rfl, ⟨_, SqAt.l ha1⟩, fun D nD => ?_⟩
      refine lc_list (K := K) (a := a) (xs := ns.map V.str) (fun j H1 => Same H H1 ∧ H1 D = some (.lst ((List.replicate j true).map V.bl))) ⟨(same_new nt).trans (same_new nD), upd_same⟩ (fun j H1 _ hP => SqAt.l (ha.same hP.1)) (fun j x H1 hx hP => ?_) (fun H1 hP => ?_)
      · obtain ⟨sm, hD⟩ := hP
        obtain ⟨y, hy, rfl⟩ := of_strs_at hx
        have hj := (List.getElem?_eq_some_iff.mp hy).1
        refine ⟨rfl, _, rfl, y, rfl, g.ok y (List.mem_of_getElem? hy), fun H2 sm2 => ?_⟩
        refine ⟨_, sm2 _ _ hD, by rw [List.length_map, List.length_replicate]; exact small_lt (by omega), (sm.trans sm2).own ((same_new nt).free nD), ?_⟩
        rw [upd_same, List.replicate_succ', List.map_append]
        rfl
      · obtain ⟨sm, hD⟩ := hP
        refine ⟨D, _, rfl, SqL.of hD, ?_⟩
        rw [all_rep]
        refine ⟨_, rfl, ?_⟩
        refine ⟨_, rfl, a, ns, rfl, .inl (SqAt.l (ha.same sm)), by omega, _, rfl, a, _, rfl, .inl (SqAt.l (ha.same sm)), rfl, ?_⟩
        rw [GSet.firsts_of_nodup g.nd, List.length_map, decide_eq_true rfl]
        exact q _ sm
    · have ha1 := SqAt.same ha (same_new (o := .tup [.ty "list", .ty "tuple"]) nt)
      refine ⟨_, t, _, _, _, true, rfl, upd_same, .cons (.ty _) (.cons (.ty _) .nil), SqAt.tyt ha1, kitAny_cons (b := false) (kit_ty (by decide +kernel)) (fun _ => kitAny_cons (b := true) (kit_ty (by decide +kernel)) (fun h => nomatch h) (fun _ => rfl)) (fun h => nomatch h), true, rfl, ?_⟩
      refine ⟨_, rfl, a, _, rfl, .inr (SqAt.t ha1), _, _, rfl, rfl, _, rfl, ?_⟩
      rw [h1]
      refine ⟨_, _, rfl, rfl, _, rfl, ?_⟩
      rw [h2]
      refine .inr ⟨_, rfl, a, rfl, ⟨_, SqAt.t ha1⟩, fun D nD => ?_⟩
      refine lc_tup (K := K) (a := a) (xs := ns.map V.str) (fun j H1 => Same H H1 ∧ H1 D = some (.lst ((List.replicate j true).map V.bl))) ⟨(same_new nt).trans (same_new nD), upd_same⟩ (fun j H1 _ hP => SqAt.t (ha.same hP.1)) (fun j x H1 hx hP => ?_) (fun H1 hP => ?_)
      · obtain ⟨sm, hD⟩ := hP
        obtain ⟨y, hy, rfl⟩ := of_strs_at hx
        have hj := (List.getElem?_eq_some_iff.mp hy).1
        refine ⟨rfl, _, rfl, y, rfl, g.ok y (List.mem_of_getElem? hy), fun H2 sm2 => ?_⟩
        refine ⟨_, sm2 _ _ hD, by rw [List.length_map, List.length_replicate]; exact small_lt (by omega), (sm.trans sm2).own ((same_new nt).free nD), ?_⟩
        rw [upd_same, List.replicate_succ', List.map_append]
        rfl
      · obtain ⟨sm, hD⟩ := hP
        refine ⟨D, _, rfl, SqL.of hD, ?_⟩
        rw [all_rep]
        refine ⟨_, rfl, ?_⟩
        refine ⟨_, rfl, a, ns, rfl, .inr (SqAt.t (ha.same sm)), by omega, _, rfl, a, _, rfl, .inr (SqAt.t (ha.same sm)), rfl, ?_⟩
        rw [GSet.firsts_of_nodup g.nd, List.length_map, decide_eq_true rfl]
        exact q _ sm
theorem ok_check_names (T : Tx K mg) : FnOk P w K mg base CX0 3 T.a_check_names T.fd_check_names P_check_names spChkNames := by
  refine T.F_check_names.ok sc_check_names (fun vs H Q E h => ?_) (fun cdv A outer s H vs Q E hr h => ?_)
  · obtain ⟨c, a, ns, rfl, _⟩ := h
    rfl
  · obtain ⟨c, a, ns, rfl, ha, g, q⟩ := h
    refine ⟨_, (pss_one (ps_if (pt_not (pt_val (pe_call (ok_is_names T) (hr.mono (by decide)) (by rfl) T.g_is_names T.F_is_names.kp T.b_is_names .nil pass0 (pa_cons (pv 0) pa_nil))))
       (pss_one ps_never)
       pss_nil)), ?_⟩
    exact ⟨_, rfl, c, a, ns, rfl, ha, g, fun H1 sm1 => ⟨true, rfl, q _ sm1⟩⟩
theorem ok_check_name (T : Tx K mg) : FnOk P w K mg base CX0 1 T.a_check_name T.fd_check_name P_check_name spChkName := by
  refine T.F_check_name.ok sc_check_name (fun vs H Q E h => ?_) (fun cdv A outer s H vs Q E hr h => ?_)
  · obtain ⟨c, a, ns, x, rfl, _⟩ := h
    rfl
  · obtain ⟨c, a, ns, x, rfl, ha, hx, q⟩ := h
    refine ⟨_, (pss_one (ps_if (pt_cmpR op_notIn_seq (pv 1) (pv 0) (by rfl))
       (pss_one ps_never)
       pss_nil)), ?_⟩
    refine ⟨_, rfl, _, rfl, a, _, rfl, ha.seq, rfl, flat_strs ns, _, rfl, ?_⟩
    show if (!inV (.str x) (ns.map V.str)) = true then _ else _
    rw [inV_strs, decide_eq_true hx]
    exact iteF q
theorem ok_listed_behind (T : Tx K mg) : FnOk P w K mg base CX0 1 T.a_listed_behind T.fd_listed_behind P_listed_behind spBehind := by
  refine T.F_listed_behind.ok sc_listed_behind (fun vs H Q E h => ?_) (fun cdv A outer s H vs Q E hr h => ?_)
  · obtain ⟨c, a, ns, x, rfl, _⟩ := h
    rfl
  · obtain ⟨c, a, ns, b, rfl, ha, hl, hb, q⟩ := h
    have hib := idx_lt hb
    have hrl : ns.length = (ns.drop (ns.idxOf b + 1)).length + (ns.take (ns.idxOf b + 1)).length := by rw [List.length_drop, List.length_take]; omega
    cases c
    · replace ha : H a = some (.lst (ns.map V.str)) := ha
      refine ⟨_, (pss_cons (ps_set (i := 2) sc_listed_behind.nd rfl (.inl rfl) (pe_op op_add (pe_bm PySem.F.plainAttrs_list PySem.F.slot_list_index PySem.F.type_list_index mt_index (pv 0) (pa_cons (pv 1) pa_nil)) pe_int))
      (pss_one (ps_ret (pe_op op_cat (pe_slice sl_list (pv 0) (po_some (pv 2)) po_none) (pe_slice sl_list (pv 0) po_none (po_some (pv 2))))))), ?_⟩
      refine ⟨_, rfl, .inl ⟨rfl, _, SqL.of ha⟩, _, rfl, a, _, _, ns.idxOf b, .str b, rfl, rfl, SqL.of ha, rfl, flat_strs ns, strs_at (idx_at hb), beq_self_eq_true _, fun m z hm hz => ?_, ?_⟩
      · obtain ⟨y, hy, rfl⟩ := of_strs_at hz
        exact beq_eq_false_iff_ne.mpr fun e => idx_first hm (e ▸ hy)
      refine ⟨_, _, rfl, rfl, _, rfl, _, rfl, _, rfl, a, _, rfl, SqL.of ha, fun p1 n1 => ?_⟩
      rw [cut_drop_s]
      refine ⟨_, rfl, _, rfl, _, rfl, a, _, rfl, SqL.of (same_new n1 _ _ ha), fun p2 n2 => ?_⟩
      rw [show (some (((ns.idxOf b : Nat) : Int) + 1)) = some ((ns.idxOf b + 1 : Nat) : Int) from rfl, cut_take_s]
      have n21 : p2 ≠ p1 := fun e => by rw [e, upd_same] at n2; cases n2
      refine ⟨p1, p2, _, _, rfl, rfl, by rw [upd_ne n21.symm, upd_same], upd_same, by rw [← List.length_append, ← List.map_append]; exact len_s (by have : (rot ns b).length = ns.length := rot_len; unfold rot at this; omega), fun p3 n3 => ?_⟩
      rw [← List.map_append]
      exact q _ p3 (((same_new n1).trans (same_new n2)).trans (same_new n3)) upd_same
    · have ha : TupF H a (ns.map V.str) := ha
      refine ⟨_, (pss_cons (ps_set (i := 2) sc_listed_behind.nd rfl (.inl rfl) (pe_op op_add (pe_bmF PySem.F.slot_tuple_index PySem.F.type_tuple_index mt_tup_index (pv 0) (pa_cons (pv 1) pa_nil)) pe_int))
      (pss_one (ps_ret (pe_op op_catF (pe_slice sl_tupF (pv 0) (po_some (pv 2)) po_none) (pe_slice sl_tupF (pv 0) po_none (po_some (pv 2))))))), ?_⟩
      refine ⟨_, rfl, ⟨a, _, rfl, ha⟩, _, rfl, a, ns, b, ns.idxOf b, rfl, rfl, ha.sq, idx_at hb, fun m hm e => idx_first hm e, ?_⟩
      refine ⟨_, _, rfl, rfl, _, rfl, _, rfl, _, rfl, ?_⟩
      dsimp only [tNoPart]
      refine slF ha fun H1 p1 sm1 hp1 => ?_
      rw [cut_drop_s] at hp1
      refine ⟨_, rfl, _, rfl, _, rfl, ?_⟩
      dsimp only [tNoPart]
      refine slF (ha.same sm1) fun H2 p2 sm2 hp2 => ?_
      rw [show (some (((ns.idxOf b : Nat) : Int) + 1)) = some ((ns.idxOf b + 1 : Nat) : Int) from rfl, cut_take_s] at hp2
      refine catF (hp1.same sm2) hp2 (by rw [← List.length_append, ← List.map_append]; exact len_s (by have : (rot ns b).length = ns.length := rot_len; unfold rot at this; omega)) fun H3 p3 sm3 hp3 => ?_
      rw [← List.map_append] at hp3
      exact q _ p3 ((sm1.trans sm2).trans sm3) hp3
theorem ok_who_sit (T : Tx K mg) : FnOk P w K mg base CX0 2 T.a_who_sit T.fd_who_sit P_who_sit spSit := by
  refine T.F_who_sit.ok sc_who_sit (fun vs H Q E h => ?_) (fun cdv A outer s H vs Q E hr h => ?_)
  · obtain ⟨c, a, g, ns, found, x, rfl, _⟩ := h
    rfl
  · obtain ⟨c, a, g, ns, found, x, rfl, ha, hg, hl, hx, q⟩ := h
    refine ⟨_, (pss_one (ps_ret (pe_lc (own := [("name", 2)]) (g := gName 2)  rfl sc_who_sit.nd (pi_either (pi_list (pe_call (ok_listed_behind T) (hr.mono (by decide)) (by rfl) T.g_listed_behind T.F_listed_behind.kp T.b_listed_behind .nil pass0 (pa_cons (pv 0) (pa_cons (pe_ix ix_seq (pv 1) (pe_un un_neg pe_int) (fun _ _ => rfl)) pa_nil)))) (pi_tup (pe_call (ok_listed_behind T) (hr.mono (by decide)) (by rfl) T.g_listed_behind T.F_listed_behind.kp T.b_listed_behind .nil pass0 (pa_cons (pv 0) (pa_cons (pe_ix ix_seq (pv 1) (pe_un un_neg pe_int) (fun _ _ => rfl)) pa_nil))))) (blkOk_by (N := N_who_sit) (sc := defScope s_who_sit) (by decide +kernel)) (fun _ _ _ _ _ => pg_name (i := 2) sc_who_sit.nd rfl (Or.inl rfl)) (fun _ _ _ _ _ => pts_one (pt_cmpR (show OpR _ (compareOp .NotIn) (rIn K true) from op_notIn_seq) (pv 2) (pv 1) (by rfl))) (fun _ _ _ _ _ => (pv 2))))), ?_⟩
    cases c
    · refine .inl ⟨_, rfl, _, rfl, 1, rfl, ixSeq hg (last_s found x) ⟨false, a, ns, x, rfl, ha, hl, hx, fun H1 p sm1 hp => ?_⟩⟩
      refine ⟨p, rfl, ⟨_, SqAt.l hp⟩, fun D nD => ?_⟩
      refine lc_list (K := K) (a := p) (xs := (rot ns x).map V.str) (fun j H2 => Same H1 H2 ∧ H2 D = some (.lst ((((rot ns x).take j).filter fun y => !decide (y ∈ found ++ [x])).map V.str))) ⟨same_new nD, upd_same⟩ (fun j H2 _ hP => SqAt.l (hp.same hP.1)) (fun j v H2 hv hP => ?_) (fun H2 hP => ?_)
      · obtain ⟨sm2, hD⟩ := hP
        obtain ⟨y, hy, rfl⟩ := of_strs_at hv
        have hj := (List.getElem?_eq_some_iff.mp hy).1
        rw [rot_len] at hj
        refine ⟨rfl, _, rfl, _, rfl, g, _, rfl, ((hg.same sm1).same sm2).seq, rfl, flat_strs _, _, rfl, ?_⟩
        show if (!inV (.str y) ((found ++ [x]).map V.str)) = true then _ else _
        rw [inV_strs]
        by_cases hxy : y ∈ found ++ [x]
        · rw [decide_eq_true hxy]
          refine iteF ⟨sm2, ?_⟩
          rw [hD, take_snoc hy, List.filter_append, List.filter_cons, decide_eq_true hxy]
          simp
        · rw [decide_eq_false hxy]
          refine ⟨_, rfl, _, hD, ?_, sm2.own nD, ?_⟩
          · rw [List.length_map]
            refine small_lt (Nat.lt_of_le_of_lt (List.length_filter_le _ _) ?_)
            rw [List.length_take]
            omega
          · rw [upd_same, take_snoc hy, List.filter_append, List.filter_cons, decide_eq_false hxy]
            simp
      · obtain ⟨sm2, hD⟩ := hP
        rw [List.length_map, List.take_length] at hD
        exact q _ D (sm1.trans sm2) (sm1.free nD) hD
    · refine .inr ⟨_, rfl, _, rfl, 1, rfl, ixSeq hg (last_s found x) ⟨true, a, ns, x, rfl, ha, hl, hx, fun H1 p sm1 hp => ?_⟩⟩
      refine ⟨p, rfl, ⟨_, SqAt.t hp⟩, fun D nD => ?_⟩
      refine lc_tup (K := K) (a := p) (xs := (rot ns x).map V.str) (fun j H2 => Same H1 H2 ∧ H2 D = some (.lst ((((rot ns x).take j).filter fun y => !decide (y ∈ found ++ [x])).map V.str))) ⟨same_new nD, upd_same⟩ (fun j H2 _ hP => SqAt.t (hp.same hP.1)) (fun j v H2 hv hP => ?_) (fun H2 hP => ?_)
      · obtain ⟨sm2, hD⟩ := hP
        obtain ⟨y, hy, rfl⟩ := of_strs_at hv
        have hj := (List.getElem?_eq_some_iff.mp hy).1
        rw [rot_len] at hj
        refine ⟨rfl, _, rfl, _, rfl, g, _, rfl, ((hg.same sm1).same sm2).seq, rfl, flat_strs _, _, rfl, ?_⟩
        show if (!inV (.str y) ((found ++ [x]).map V.str)) = true then _ else _
        rw [inV_strs]
        by_cases hxy : y ∈ found ++ [x]
        · rw [decide_eq_true hxy]
          refine iteF ⟨sm2, ?_⟩
          rw [hD, take_snoc hy, List.filter_append, List.filter_cons, decide_eq_true hxy]
          simp
        · rw [decide_eq_false hxy]
          refine ⟨_, rfl, _, hD, ?_, sm2.own nD, ?_⟩
          · rw [List.length_map]
            refine small_lt (Nat.lt_of_le_of_lt (List.length_filter_le _ _) ?_)
            rw [List.length_take]
            omega
          · rw [upd_same, take_snoc hy, List.filter_append, List.filter_cons, decide_eq_false hxy]
            simp
      · obtain ⟨sm2, hD⟩ := hP
        rw [List.length_map, List.take_length] at hD
        exact q _ D (sm1.trans sm2) (sm1.free nD) hD
end
end K05
namespace K05
open PySem PySem.Spec PyProof.Rows L2 GL
section
variable {P : Program} {w : World} {K : PySem.W.Frag} {mg : Str → Option Value} {base : Heap}
theorem ok_is_order (T : Tx K mg) : FnOk P w K mg base CX0 1 T.a_is_order T.fd_is_order P_is_order spIsOrder := by
  refine T.F_is_order.ok sc_is_order (fun vs H Q E h => ?_) (fun cdv A outer s H vs Q E hr h => ?_)
  · obtain ⟨c, a, t, ns, os, rfl, _⟩ := h
    rfl
  · obtain ⟨c, a, t, ns, os, rfl, ha, ht, hl, pm, q⟩ := h
    refine ⟨_, (pss_cons (ps_if (PW.pt (pw_or (pt_not (pt_val (pe_callB call_isi (by rfl) T.m_isinstance (by decide +kernel) (pa_cons (pv 1) (pa_cons (pe_bltn (v := .ty "tuple") (by rfl) T.m_tuple (by decide +kernel) rfl) pa_nil))))) (pw_or1 (pt_cmpR op_ne (pe_callB call_len_seq (by rfl) T.m_len (by decide +kernel) (pa_cons (pv 1) pa_nil)) (pe_callB call_len_seq (by rfl) T.m_len (by decide +kernel) (pa_cons (pv 0) pa_nil)) (nomark _)))))
       (pss_one (ps_ret pe_bl))
       pss_nil)
      (pss_one (ps_ret (pe_callB (cr_all rfl) (by rfl) T.m_all (by decide +kernel) (pa_cons (pe_lc (own := [("name", 2)]) (g := gName 2) (tt := tYes) rfl sc_is_order.nd (pi_either (pi_list (pv 0)) (pi_tup (pv 0))) (blkOk_by (N := N_is_order) (sc := defScope s_is_order) (by decide +kernel)) (fun _ _ _ _ _ => pg_name (i := 2) sc_is_order.nd rfl (Or.inl rfl)) (fun _ _ _ _ _ => pts_nil) (fun _ _ _ _ _ => (pe_cmpR (show OpR _ (compareOp .In) (rIn K false) from op_in_seq) (pv 2) (pv 1) (by rfl)))) pa_nil))))), ?_⟩
    refine ⟨_, rfl, _, _, _, _, true, rfl, .ty _, .base (.tup ht), kit_ty (by decide +kernel), true, rfl, ?_⟩
    refine ⟨_, rfl, t, _, rfl, .inr (SqT.of ht), _, rfl, a, _, rfl, ha.seq, rfl, _, rfl, ?_⟩
    rw [List.length_map, List.length_map, pm.length_eq, decide_eq_true rfl]
    cases c
    · refine .inl ⟨_, rfl, a, rfl, ⟨_, SqAt.l ha⟩, fun D nD => ?_⟩
      refine lc_list (K := K) (a := a) (xs := ns.map V.str) (fun j H1 => Same H H1 ∧ H1 D = some (.lst ((List.replicate j true).map V.bl))) ⟨same_new nD, upd_same⟩ (fun j H1 _ hP => SqAt.l (ha.same hP.1)) (fun j x H1 hx hP => ?_) (fun H1 hP => ?_)
      · obtain ⟨sm, hD⟩ := hP
        obtain ⟨y, hy, rfl⟩ := of_strs_at hx
        have hj := (List.getElem?_eq_some_iff.mp hy).1
        refine ⟨rfl, _, rfl, _, rfl, t, _, rfl, .inr (SqT.of (sm _ _ ht)), rfl, flat_strs os, ?_⟩
        rw [inV_strs, decide_eq_true (pm.mem_iff.mpr (List.mem_of_getElem? hy))]
        refine ⟨_, hD, by rw [List.length_map, List.length_replicate]; exact small_lt (by omega), sm.own nD, ?_⟩
        rw [upd_same, List.replicate_succ', List.map_append]
        rfl
      · obtain ⟨sm, hD⟩ := hP
        refine ⟨D, _, rfl, SqL.of hD, ?_⟩
        rw [all_rep]
        exact q _ sm
    · refine .inr ⟨_, rfl, a, rfl, ⟨_, SqAt.t ha⟩, fun D nD => ?_⟩
      refine lc_tup (K := K) (a := a) (xs := ns.map V.str) (fun j H1 => Same H H1 ∧ H1 D = some (.lst ((List.replicate j true).map V.bl))) ⟨same_new nD, upd_same⟩ (fun j H1 _ hP => SqAt.t (ha.same hP.1)) (fun j x H1 hx hP => ?_) (fun H1 hP => ?_)
      · obtain ⟨sm, hD⟩ := hP
        obtain ⟨y, hy, rfl⟩ := of_strs_at hx
        have hj := (List.getElem?_eq_some_iff.mp hy).1
        refine ⟨rfl, _, rfl, _, rfl, t, _, rfl, .inr (SqT.of (sm _ _ ht)), rfl, flat_strs os, ?_⟩
        rw [inV_strs, decide_eq_true (pm.mem_iff.mpr (List.mem_of_getElem? hy))]
        refine ⟨_, hD, by rw [List.length_map, List.length_replicate]; exact small_lt (by omega), sm.own nD, ?_⟩
        rw [upd_same, List.replicate_succ', List.map_append]
        rfl
      · obtain ⟨sm, hD⟩ := hP
        refine ⟨D, _, rfl, SqL.of hD, ?_⟩
        rw [all_rep]
        exact q _ sm
theorem ok_check_order (T : Tx K mg) : FnOk P w K mg base CX0 2 T.a_check_order T.fd_check_order P_check_order spChkOrder := by
  refine T.F_check_order.ok sc_check_order (fun vs H Q E h => ?_) (fun cdv A outer s H vs Q E hr h => ?_)
  · obtain ⟨c, a, t, ns, os, rfl, _⟩ := h
    rfl
  · obtain ⟨c, a, t, ns, os, rfl, ha, ht, hl, pm, q⟩ := h
    refine ⟨_, (pss_one (ps_if (pt_not (pt_val (pe_call (ok_is_order T) (hr.mono (by decide)) (by rfl) T.g_is_order T.F_is_order.kp T.b_is_order .nil pass0 (pa_cons (pv 0) (pa_cons (pv 1) pa_nil)))))
       (pss_one ps_never)
       pss_nil)), ?_⟩
    exact ⟨_, rfl, _, rfl, c, a, t, ns, os, rfl, ha, ht, hl, pm, fun H1 sm1 => ⟨true, rfl, q _ sm1⟩⟩
theorem ok_rests_told (T : Tx K mg) : FnOk P w K mg base CX0 3 T.a_rests_told T.fd_rests_told P_rests_told spRestsTold := by
  refine T.F_rests_told.ok sc_rests_told (fun vs H Q E h => ?_) (fun cdv A outer s H vs Q E hr h => ?_)
  · obtain ⟨c, a, t, ns, os, rfl, _⟩ := h
    rfl
  · obtain ⟨c, a, t, ns, os, rfl, ha, ht, g, hd, hs, hne, q⟩ := h
    refine ⟨_, (pss_cons (ps_set (i := 2) sc_rests_told.nd rfl (.inl rfl) (pe_lst pa_nil))
      (pss_cons (ps_for PassesOwn.never rfl (pi_range2 (by rfl) T.m_range (pa_cons pe_int (pa_cons (pe_callB call_len_seq (by rfl) T.m_len (by decide +kernel) (pa_cons (pv 1) pa_nil)) pa_nil))) (pg_name (i := 3) sc_rests_told.nd rfl (.inl rfl))
       (pss_cons (ps_set (i := 4) sc_rests_told.nd rfl (.inl rfl) (pe_call (ok_who_sit T) (hr.mono (by decide)) (by rfl) T.g_who_sit T.F_who_sit.kp T.b_who_sit .nil pass0 (pa_cons (pv 0) (pa_cons (pe_slice sl_tupF (pv 1) po_none (po_some (pv 3))) pa_nil))))
        (pss_one (ps_expr (pe_bm PySem.F.plainAttrs_list PySem.F.slot_list_append PySem.F.type_list_append mt_append (pv 2) (pa_cons (pe_tup (pa_cons (pe_bm PySem.F.plainAttrs_list PySem.F.slot_list_index PySem.F.type_list_index mt_index (pv 4) (pa_cons (pe_ix ix_tup (pv 1) (pv 3) (fun _ _ => rfl)) pa_nil)) (pa_cons (pe_callB call_len_seq (by rfl) T.m_len (by decide +kernel) (pa_cons (pv 4) pa_nil)) pa_nil))) pa_nil))))))
      (pss_one (ps_ret (pv 2))))), ?_⟩
    have l12 := g.twelve
    have hol : os.length ≤ ns.length := List.Nodup.length_le_of_subset hd (fun y hy => hs y hy)
    have hop := List.length_pos_iff.mpr hne
    refine ⟨Nat.zero_le _, fun l nl => ?_⟩
    have ht0 := same_new (o := .lst []) nl _ _ ht
    refine ⟨_, rfl, t, _, rfl, .inr (SqT.of ht0), _, _, rfl, ⟨by decide, by decide, by rw [List.length_map]; omega, by rw [List.length_map]; omega⟩, ?_⟩
    rw [List.length_map]
    refine for_range (lo := 1) (n := ((os.length : Int) - 1).toNat) (fun i σ H1 => (∃ u v, σ = [some (.ref a), some (.ref t), some (.ref l), u, v]) ∧ Same H H1 ∧ ∃ rs : List Addr, H1 l = some (.lst (rs.map V.ref)) ∧ PairL H1 rs ((toldP ns os).take i) ∧ rs.length = i)
      ⟨⟨none, none, rfl⟩, same_new nl, [], upd_same, .nil, rfl⟩ (fun i σ H1 hi hP => ?_) (fun σ H1 hP => ?_)
    · obtain ⟨⟨u, v, rfl⟩, sm, rs, hl, hp, hrl⟩ := hP
      have hi2 : i + 1 < os.length := by omega
      obtain ⟨x, hx⟩ : ∃ x, os[i]? = some x := ⟨_, List.getElem?_eq_getElem (by omega)⟩
      obtain ⟨y, hy⟩ : ∃ y, os[i + 1]? = some y := ⟨_, List.getElem?_eq_getElem hi2⟩
      have htk := take_snoc hx
      have hxn : x ∈ ns := hs x (List.mem_of_getElem? hx)
      have ht1 := sm _ _ ht
      refine ⟨_, rfl, _, rfl, _, rfl, _, rfl, ?_⟩
      dsimp only [tNoPart]
      have e1i : (1 : Int) + ((i : Nat) : Int) = ((i + 1 : Nat) : Int) := by omega
      rw [e1i]
      refine slF' (SqT.of ht1) (fun z => ?_) fun H2 p2 sm2 np2 hp2 => ?_
      · have z2 := z.2
        rw [HT.sIx_nat, List.length_map] at z2
        omega
      rw [cut_take, ← List.map_take, htk] at hp2
      refine ⟨c, a, p2, ns, os.take i, x, rfl, (ha.same sm).same sm2, .inr (.inr hp2), by omega, hxn, fun H3 r sm3 nr hr3 => ?_⟩
      have sm23 := sm2.trans sm3
      have hy2 : y ∉ os.take i ++ [x] := by
        rw [← htk]
        have hsp : os = os.take (i + 1) ++ y :: os.drop (i + 2) := by
          obtain ⟨h1, e1⟩ := List.getElem?_eq_some_iff.mp hy
          rw [← e1, List.getElem_cons_drop, List.take_append_drop]
        exact (nd_mid (hsp ▸ hd)).1
      have hys : y ∈ sitting ns (os.take i ++ [x]) x := sit_mem.mpr ⟨hs y (List.mem_of_getElem? hy), hy2⟩
      have hsl := sitting_len (ns := ns) (goers := os.take i ++ [x]) (x := x)
      refine ⟨_, rfl, .inl ⟨rfl, _, SqL.of (sm23 _ _ hl)⟩, _, rfl, .inl ⟨rfl, _, SqL.of hr3⟩, _, rfl, _, rfl, t, _, _, .str y, rfl, rfl, SqT.of (sm23 _ _ ht1), atI_at rfl (strs_at hy), r, _, _, (sitting ns (os.take i ++ [x]) x).idxOf y, .str y, rfl, rfl, SqL.of hr3, rfl, flat_strs _, strs_at (idx_at hys), beq_self_eq_true _, fun m z hm hz => ?_, ?_⟩
      · obtain ⟨y2, hy2, rfl⟩ := of_strs_at hz
        exact beq_eq_false_iff_ne.mpr fun e => idx_first hm (e ▸ hy2)
      refine ⟨_, rfl, r, _, rfl, .inl (SqL.of hr3), (by show 2 ≤ sizeLine; decide), fun T2 nT => ?_⟩
      have smT := same_new (o := .tup [.int ((sitting ns (os.take i ++ [x]) x).idxOf y : Nat), .int (((sitting ns (os.take i ++ [x]) x).map V.str).length : Nat)]) nT
      refine ⟨l, _, _, rfl, rfl, smT _ _ (sm23 _ _ hl), by rw [List.length_map]; exact small_lt (by omega), ?_⟩
      refine ⟨⟨_, _, rfl⟩, ((sm.trans sm23).trans smT).own nl, rs ++ [T2], by rw [upd_same, List.map_append]; rfl, ?_, by rw [List.length_append, hrl]; rfl⟩
      have hat : (toldP ns os)[i]? = some (toldAt ns os i) := by
        rw [toldP, List.getElem?_map, List.getElem?_range (by omega)]
        rfl
      have hTl : T2 ≠ l := fun e => by rw [e, sm23 _ _ hl] at nT; cases nT
      rw [take_snoc hat]
      refine Paired.snoc (Paired.mapF (fun p q e => ?_) hp) ?_
      · have e2 := smT _ _ (sm23 _ _ e)
        rw [upd_ne (ne_of e hl (fun z => nomatch z))]
        exact e2
      · rw [upd_ne hTl, upd_same, List.length_map]
        unfold toldAt
        have g1 : os.getD i Str.empty = x := by rw [List.getD_eq_getElem?_getD, hx]; rfl
        have g2 : os.getD (i + 1) Str.empty = y := by rw [List.getD_eq_getElem?_getD, hy]; rfl
        rw [htk, g1, g2]
    · obtain ⟨⟨u, v, rfl⟩, sm, rs, hl, hp, hrl⟩ := hP
      refine ⟨_, rfl, q _ l rs sm nl hl ?_⟩
      rw [List.take_of_length_le (by rw [toldP, List.length_map, List.length_range]; omega)] at hp
      exact hp
theorem ok_rests_of (T : Tx K mg) : FnOk P w K mg base CX0 4 T.a_rests_of T.fd_rests_of P_rests_of spRestsOf := by
  refine T.F_rests_of.ok sc_rests_of (fun vs H Q E h => ?_) (fun cdv A outer s H vs Q E hr h => ?_)
  · obtain ⟨c, a, t, ns, os, rfl, _⟩ := h
    rfl
  · obtain ⟨c, a, t, ns, os, rfl, ha, ht, g, pm, q⟩ := h
    refine ⟨_, (pss_cons (ps_expr (pe_call (ok_check_names T) (hr.mono (by decide)) (by rfl) T.g_check_names T.F_check_names.kp T.b_check_names .nil pass0 (pa_cons (pv 0) pa_nil)))
      (pss_cons (ps_expr (pe_call (ok_check_order T) (hr.mono (by decide)) (by rfl) T.g_check_order T.F_check_order.kp T.b_check_order .nil pass0 (pa_cons (pv 0) (pa_cons (pv 1) pa_nil))))
      (pss_one (ps_ret (pe_callTy call_tuple_of (by rfl) T.m_tuple (by decide +kernel) (pa_cons (pe_call (ok_rests_told T) (hr.mono (by decide)) (by rfl) T.g_rests_told T.F_rests_told.kp T.b_rests_told .nil pass0 (pa_cons (pv 0) (pa_cons (pv 1) pa_nil))) pa_nil)))))), ?_⟩
    have l12 := g.twelve
    refine ⟨_, rfl, c, a, ns, rfl, ha, g, fun H1 sm1 => ?_⟩
    refine ⟨_, rfl, _, rfl, c, a, t, ns, os, rfl, ha.same sm1, sm1 _ _ ht, by omega, pm, fun H2 sm2 => ?_⟩
    have sm12 := sm1.trans sm2
    refine ⟨_, rfl, _, rfl, c, a, t, ns, os, rfl, ha.same sm12, sm12 _ _ ht, g, pm.nodup_iff.mpr g.nd, fun y hy => pm.mem_iff.mp hy, fun e => ?_, fun H3 l rs sm3 nl hl hp => ?_⟩
    · have h1 := pm.length_eq
      have h2 := g.two
      rw [e, List.length_nil] at h1
      omega
    · refine ⟨l, _, rfl, .inl ⟨SqL.of hl, fun r nr => ?_⟩⟩
      exact q _ r rs (sm12.trans (sm3.trans (same_new nr))) (sm12.free (sm3.free nr)) upd_same (hp.same (same_new nr))
theorem ok_is_places (T : Tx K mg) : FnOk P w K mg base CX0 2 T.a_is_places T.fd_is_places P_is_places spIsPlaces := by
  refine T.F_is_places.ok sc_is_places (fun vs H Q E h => ?_) (fun cdv A outer s H vs Q E hr h => ?_)
  · obtain ⟨n, t, ps, rfl, _⟩ := h
    rfl
  · obtain ⟨n, t, ps, rfl, ht, hn1, hn, hl, hp, q⟩ := h
    refine ⟨_, (pss_cons (ps_if (PW.pt (pw_or (pt_not (pt_val (pe_callB call_isi (by rfl) T.m_isinstance (by decide +kernel) (pa_cons (pv 1) (pa_cons (pe_bltn (v := .ty "tuple") (by rfl) T.m_tuple (by decide +kernel) rfl) pa_nil))))) (pw_or1 (pt_cmpR op_ne (pe_callB call_len_seq (by rfl) T.m_len (by decide +kernel) (pa_cons (pv 1) pa_nil)) (pe_op op_sub (pv 0) pe_int) (nomark _)))))
       (pss_one (ps_ret pe_bl))
       pss_nil)
      (pss_one (ps_ret (pe_callB (cr_all rfl) (by rfl) T.m_all (by decide +kernel) (pa_cons (pe_lc (own := [("at", 2), ("place", 3)]) (g := gTup K 2 (gCons (gName 2) (gCons (gName 3) gNil))) (tt := tYes) rfl sc_is_places.nd (pi_enumT (by rfl) T.m_enumerate (pa_cons (pv 1) pa_nil)) (blkOk_by (N := N_is_places) (sc := defScope s_is_places) (by decide +kernel)) (fun _ _ _ _ _ => pg_tup (by rfl) (pgs_cons (pg_name (i := 2) sc_is_places.nd rfl (Or.inl rfl)) (pgs_cons (pg_name (i := 3) sc_is_places.nd rfl (Or.inl rfl)) pgs_nil))) (fun _ _ _ _ _ => pts_nil) (fun _ _ _ _ _ => (pe_and (pe_call (ok_is_number T) (hr.mono (by decide)) (by rfl) T.g_is_number T.F_is_number.kp T.b_is_number .nil pass0 (pa_cons (pv 3) pa_nil)) (pe_one (pe_chain op_le op_lt pe_int (pv 3) (pe_op op_sub (pe_op op_sub (pv 0) pe_int) (pv 2))))))) pa_nil))))), ?_⟩
    refine ⟨_, rfl, _, _, _, _, true, rfl, .ty _, .base (.tup ht), kit_ty (by decide +kernel), true, rfl, ?_⟩
    refine ⟨_, rfl, t, _, rfl, .inr (SqT.of ht), _, rfl, _, _, rfl, rfl, rfl, false, ?_, ?_⟩
    · show V.bl (!decide (V.int (((nz ps).map V.int).length : Nat) = V.int ((n : Int) - 1))) = V.bl false
      rw [List.length_map, nz, List.length_map, hl, show (((n - 1 : Nat) : Int)) = (n : Int) - 1 by omega, decide_eq_true rfl]
      rfl
    refine ⟨_, rfl, t, _, rfl, SqT.of ht, fun D nD => ?_⟩
    refine lc_it (walk_enumT (K := K) (a := t) (xs := (nz ps).map V.int)) (fun j H1 => Same H H1 ∧ H1 D = some (.lst ((List.replicate j true).map V.bl))) ⟨same_new nD, upd_same⟩ (fun j H1 _ hP => SqT.of (hP.1 _ _ ht)) (fun j x H1 H2 hj hP hY => ?_) (fun H1 hP => ?_)
    · obtain ⟨sm, hD⟩ := hP
      obtain ⟨T2, x1, x2, rfl, nT, rfl, h1, h2⟩ := hY
      obtain rfl : V.int (j : Nat) = x1 := Option.some.inj h1
      obtain ⟨z, hz, rfl⟩ := of_ints_at h2
      obtain ⟨p, rfl, hpp⟩ : ∃ p : Nat, z = (p : Int) ∧ ps[j]? = some p := by
        rw [nz, List.getElem?_map] at hz
        obtain ⟨p, h1, h2⟩ := Option.map_eq_some_iff.mp hz
        exact ⟨p, h2.symm, h1⟩
      have hpl := hp.at hpp
      have hjl : j < ps.length := (List.getElem?_eq_some_iff.mp hpp).1
      have hDT : T2 ≠ D := fun e => by rw [e, hD] at nT; cases nT
      have smT := same_new (o := .tup [.int (j : Nat), .int (p : Nat)]) nT
      refine ⟨T2, _, rfl, SqT.of upd_same, rfl, _, _, rfl, _, _, rfl, rfl, rfl, ?_⟩
      refine ⟨_, rfl, p, rfl, true, rfl, ?_⟩
      refine ⟨_, rfl, _, _, rfl, rfl, true, congrArg V.bl (decide_eq_true (by omega)), ?_⟩
      refine ⟨_, rfl, _, _, rfl, rfl, _, rfl, _, _, rfl, rfl, _, _, rfl, rfl, ?_⟩
      dsimp only
      rw [decide_eq_true (show ((p : Nat) : Int) < (n : Int) - 1 - ((j : Nat) : Int) by omega)]
      refine ⟨_, smT _ _ hD, by rw [List.length_map, List.length_replicate]; exact small_lt (by omega), (sm.trans smT).own nD, ?_⟩
      rw [upd_same, List.replicate_succ', List.map_append]
      rfl
    · obtain ⟨sm, hD⟩ := hP
      refine ⟨D, _, rfl, SqL.of hD, ?_⟩
      rw [all_rep]
      exact q _ sm
def lastD (found : List Str) (b : Str) : Str := found.getLastD b
theorem ok_order_by (T : Tx K mg) : FnOk P w K mg base CX0 4 T.a_order_by T.fd_order_by P_order_by spOrderBy := by
  refine T.F_order_by.ok sc_order_by (fun vs H Q E h => ?_) (fun cdv A outer s H vs Q E hr h => ?_)
  · obtain ⟨c, a, t, ns, b, ps, rfl, _⟩ := h
    rfl
  · obtain ⟨c, a, t, ns, b, ps, rfl, ha, g, hb, ht, hpl, hp, q⟩ := h
    refine ⟨_, (pss_cons (ps_expr (pe_call (ok_check_names T) (hr.mono (by decide)) (by rfl) T.g_check_names T.F_check_names.kp T.b_check_names .nil pass0 (pa_cons (pv 0) pa_nil)))
      (pss_cons (ps_expr (pe_call (ok_check_name T) (hr.mono (by decide)) (by rfl) T.g_check_name T.F_check_name.kp T.b_check_name .nil pass0 (pa_cons (pv 0) (pa_cons (pv 1) pa_nil))))
      (pss_cons (ps_if (pt_not (pt_val (pe_call (ok_is_places T) (hr.mono (by decide)) (by rfl) T.g_is_places T.F_is_places.kp T.b_is_places .nil pass0 (pa_cons (pe_callB call_len_seq (by rfl) T.m_len (by decide +kernel) (pa_cons (pv 0) pa_nil)) (pa_cons (pv 2) pa_nil)))))
       (pss_one ps_never)
       pss_nil)
      (pss_cons (ps_set (i := 3) sc_order_by.nd rfl (.inl rfl) (pe_lst (pa_cons (pv 1) pa_nil)))
      (pss_cons (ps_for PassesOwn.never rfl (pi_tup (pv 2)) (pg_name (i := 4) sc_order_by.nd rfl (.inl rfl))
       (pss_one (ps_expr (pe_bm PySem.F.plainAttrs_list PySem.F.slot_list_append PySem.F.type_list_append mt_append (pv 3) (pa_cons (pe_ix ix_list (pe_call (ok_who_sit T) (hr.mono (by decide)) (by rfl) T.g_who_sit T.F_who_sit.kp T.b_who_sit .nil pass0 (pa_cons (pv 0) (pa_cons (pv 3) pa_nil))) (pv 4) (fun _ _ => rfl)) pa_nil)))))
      (pss_one (ps_ret (pe_callTy call_tuple_of (by rfl) T.m_tuple (by decide +kernel) (pa_cons (pv 3) pa_nil))))))))), ?_⟩
    have l12 := g.twelve
    have l2 := g.two
    refine ⟨_, rfl, c, a, ns, rfl, ha, g, fun H1 sm1 => ?_⟩
    refine ⟨_, rfl, _, rfl, c, a, ns, b, rfl, ha.same sm1, hb, ?_⟩
    refine ⟨_, rfl, a, _, rfl, (ha.same sm1).seq, _, rfl, ns.length, t, ps, by rw [List.length_map]; rfl, sm1 _ _ ht, by omega, by omega, hpl, hp, fun H2 sm2 => ⟨true, rfl, ?_⟩⟩
    have sm12 := sm1.trans sm2
    refine ⟨_, rfl, (by show 1 ≤ sizeLine; decide), fun f nf => ?_⟩
    have ht2 := sm12 _ _ ht
    have ht3 := same_new (o := .lst [.str b]) nf _ _ ht2
    refine ⟨_, rfl, t, rfl, ⟨_, SqT.of ht3⟩, for_tup (K := K) (a := t) (xs := (nz ps).map V.int) (fun i σ H3 => ∃ (fnd : List Str) (x : Str) (u : Option V), σ = [some (.ref a), some (.str b), some (.ref t), some (.ref f), u] ∧ Same H2 H3 ∧ H3 f = some (.lst ((fnd ++ [x]).map V.str)) ∧ (fnd ++ [x]).Nodup ∧ (∀ y ∈ fnd ++ [x], y ∈ ns) ∧ fnd ++ [x] ++ goTail ns (fnd ++ [x]) x (ps.drop i) = orderBy ns b ps ∧ PlOk (ns.length - (fnd ++ [x]).length) (ps.drop i))
      ⟨[], b, none, rfl, same_new nf, upd_same, List.nodup_cons.mpr ⟨List.not_mem_nil, List.nodup_nil⟩, (fun y hy => by rw [List.mem_singleton.mp hy]; exact hb), rfl, hp⟩ (fun i σ H3 _ hP => ?_) (fun i v σ H3 hv hP => ?_) (fun σ H3 hP => ?_)⟩
    · obtain ⟨fnd, x, u, rfl, sm3, _⟩ := hP
      exact SqT.of (sm3 _ _ ht2)
    · obtain ⟨fnd, x, u, rfl, sm3, hf, hd, hs, he, hok⟩ := hP
      obtain ⟨z, hz, rfl⟩ := of_ints_at hv
      have hi : i < ps.length := by have := (List.getElem?_eq_some_iff.mp hz).1; rw [nz, List.length_map] at this; exact this
      obtain ⟨p, hpz, hpp⟩ : ∃ p : Nat, z = (p : Int) ∧ ps[i]? = some p := by
        rw [nz, List.getElem?_map] at hz
        obtain ⟨p, h1, h2⟩ := Option.map_eq_some_iff.mp hz
        exact ⟨p, h2.symm, h1⟩
      subst hpz
      have hdr : ps.drop i = p :: ps.drop (i + 1) := by
        obtain ⟨h1, e1⟩ := List.getElem?_eq_some_iff.mp hpp
        rw [← e1, List.getElem_cons_drop]
      rw [hdr] at he hok
      have hxn : x ∈ ns := hs x (List.mem_append_right _ (List.mem_singleton.mpr rfl))
      have hsl := sit_len (g := x) g.nd hd hs
      have hlt : p < (sitting ns (fnd ++ [x]) x).length := by have := hok.1; omega
      generalize hy : (sitting ns (fnd ++ [x]) x).getD p Str.empty = y at he
      have hym : y ∈ sitting ns (fnd ++ [x]) x := by rw [← hy]; exact getD_mem hlt
      obtain ⟨hy1, hy2⟩ := sit_mem.mp hym
      refine ⟨_, rfl, .inl ⟨rfl, _, SqL.of hf⟩, _, rfl, _, rfl, c, a, f, ns, fnd, x, rfl, (ha.same sm12).same sm3, .inl hf, by omega, hxn, fun H4 r sm4 nr hr4 => ?_⟩
      refine ⟨_, rfl, r, _, _, .str y, rfl, rfl, SqL.of hr4, atI_at rfl (strs_at (by rw [← hy]; exact getD_at hlt)), ?_⟩
      refine ⟨f, _, _, rfl, rfl, sm4 _ _ hf, by rw [List.length_map]; exact small_lt (by omega), ?_⟩
      refine ⟨fnd ++ [x], y, _, rfl, ?_, ?_, snoc_nd hd hy2, snoc_sub hs hy1, ?_, ?_⟩
      · exact (sm3.trans sm4).own nf
      · rw [upd_same, List.map_append (l₁ := fnd ++ [x])]
        rfl
      · rw [← he]
        show fnd ++ [x] ++ [y] ++ goTail ns (fnd ++ [x] ++ [y]) y (ps.drop (i + 1)) = fnd ++ [x] ++ ((sitting ns (fnd ++ [x]) x).getD p Str.empty :: goTail ns (fnd ++ [x] ++ [(sitting ns (fnd ++ [x]) x).getD p Str.empty]) ((sitting ns (fnd ++ [x]) x).getD p Str.empty) (ps.drop (i + 1)))
        rw [hy, List.append_assoc (fnd ++ [x]) [y]]
        rfl
      · have := hok.2
        rw [List.length_append (as := fnd ++ [x])]
        exact (show ns.length - (fnd ++ [x]).length - 1 = ns.length - ((fnd ++ [x]).length + [y].length) by simp only [List.length_singleton]; omega) ▸ this
    · obtain ⟨fnd, x, u, rfl, sm3, hf, hd, hs, he, hok⟩ := hP
      rw [show ps.drop ((nz ps).map V.int).length = [] from List.drop_of_length_le (by rw [List.length_map, nz, List.length_map]; exact Nat.le_refl _), show goTail ns (fnd ++ [x]) x [] = [] from rfl, List.append_nil] at he
      refine ⟨_, rfl, f, _, rfl, .inl ⟨SqL.of hf, fun r nr => ?_⟩⟩
      refine q _ r (sm12.trans (sm3.trans (same_new nr))) (sm12.free (sm3.free nr)) ?_
      rw [upd_same, he]
end
end K05
namespace K05
open PySem PySem.Spec PyProof.Rows L2 GL
section
variable {P : Program} {w : World} {K : PySem.W.Frag} {mg : Str → Option Value} {base : Heap}
theorem ones_map (ns : List Str) : (ns.map fun n => ((Sum.inr n : Key), V.int 1)).map (·.1) = ns.map Sum.inr := by
  rw [List.map_map]
  rfl
theorem ones_val {ns : List Str} (hn : ns.Nodup) {n : Str} (h : n ∈ ns) : valV (ns.map fun n => ((Sum.inr n : Key), V.int 1)) (Sum.inr n : Key) = some (.int 1) := by
  have : (Sum.inr n : Key) ∈ (ns.map fun n => ((Sum.inr n : Key), V.int 1)).map (·.1) := by
    rw [ones_map]
    exact List.mem_map.mpr ⟨n, h, rfl⟩
  obtain ⟨v, h1, h2⟩ := valV_mem this
  obtain ⟨m, _, e⟩ := List.mem_map.mp h2
  rw [h1]
  exact congrArg some (congrArg Prod.snd e).symm
def WDec (a t sd f : Addr) (b : Str) (ns fd : List Str) (g : Str) (p : Nat) (x : Str) (H0 : Hp) (m : Nat) (σ : L2.St) (H1 : Hp) : Prop := ∃ k lf : Nat, k ≤ ns.length ∧ m = ns.length - k ∧
  σ = [some (.ref a), some (.str b), some (.ref t), some (.ref sd), some (.int (((ns.idxOf g + k) % ns.length : Nat))), some (.ref f), some (.int (p : Nat)), some (.int (lf : Nat)), none] ∧ H1 = H0 ∧ lf + cnt ns fd g k = p + 1 ∧ (lf = 0 → 0 < k ∧ (rot ns g)[k - 1]? = some x)
theorem ok_l_decoded (T : Tx K mg) : FnOk P w K mg base CX0 1 T.a_l_decoded T.fd_l_decoded P_l_decoded spDecoded := by
  refine T.F_l_decoded.ok sc_l_decoded (fun vs H Q E h => ?_) (fun cdv A outer s H vs Q E hr h => ?_)
  · obtain ⟨a, t, ns, b, ps, rfl, _⟩ := h
    rfl
  · obtain ⟨a, t, ns, b, ps, rfl, ha, gd, hb, ht, hok, q⟩ := h
    have hu := hu_of hr
    refine ⟨_, (pss_cons (ps_par3 (i := 3) (j := 4) (l := 5) (by rfl) sc_l_decoded.nd rfl rfl rfl (by decide) (by decide) (by decide) rfl rfl rfl (pa_cons (pe_callTy (call_dictP rfl) (by rfl) T.m_dict (by decide +kernel) (pa_cons (pe_lc (own := [("_law_label", 8)]) (g := gName 8) (tt := tYes) rfl sc_l_decoded.nd (pi_list (pv 0)) (blkOk_by (N := N_l_decoded) (sc := defScope s_l_decoded) (by decide +kernel)) (fun _ _ _ _ _ => pg_name (i := 8) sc_l_decoded.nd rfl (Or.inl rfl)) (fun _ _ _ _ _ => pts_nil) (fun _ _ _ _ _ => (pe_tup (pa_cons (pv 8) (pa_cons pe_int pa_nil))))) pa_nil)) (pa_cons (pe_bm PySem.F.plainAttrs_list PySem.F.slot_list_index PySem.F.type_list_index mt_index (pv 0) (pa_cons (pv 1) pa_nil)) (pa_cons (pe_lst (pa_cons (pv 1) pa_nil)) pa_nil))) (by rfl))
      (pss_cons (ps_dput hu (pv 3) (pv 1) pe_int rfl)
      (pss_cons (ps_for PassesOwn.never rfl (pi_tup (pv 2)) (pg_name (i := 6) sc_l_decoded.nd rfl (.inl rfl))
       (pss_cons (ps_set (i := 7) sc_l_decoded.nd rfl (.inl rfl) (pe_op op_add (pv 6) pe_int))
        (pss_cons (ps_while PassesOwn.never (pt_cmpR op_gt (pv 7) pe_int (nomark _))
         (pss_cons (ps_set (i := 4) sc_l_decoded.nd rfl (.inl rfl) (pe_op op_mod (pe_op op_add (pv 4) pe_int) (pe_callB call_len_seq (by rfl) T.m_len (by decide +kernel) (pa_cons (pv 0) pa_nil))))
          (pss_one (ps_set (i := 7) sc_l_decoded.nd rfl (.inl rfl) (pe_op op_sub (pv 7) (pe_dget hu (pv 3) (pe_ix ix_list (pv 0) (pv 4) (fun _ _ => rfl)) (fun _ _ => rfl)))))))
        (pss_cons (ps_dput hu (pv 3) (pe_ix ix_list (pv 0) (pv 4) (fun _ _ => rfl)) pe_int rfl)
        (pss_one (ps_expr (pe_bm PySem.F.plainAttrs_list PySem.F.slot_list_append PySem.F.type_list_append mt_append (pv 5) (pa_cons (pe_ix ix_list (pv 0) (pv 4) (fun _ _ => rfl)) pa_nil))))))))
      (pss_one (ps_ret (pe_callTy call_tuple_of (by rfl) T.m_tuple (by decide +kernel) (pa_cons (pv 5) pa_nil))))))), ?_⟩
    have l12 := gd.twelve
    have l2 := gd.two
    refine ⟨_, rfl, a, rfl, ⟨_, SqL.of ha⟩, fun D nD => ?_⟩
    refine lc_list (K := K) (a := a) (xs := ns.map V.str) (fun j H2 => Same H H2 ∧ ∃ (rs : List Addr), H2 D = some (.lst (rs.map V.ref)) ∧ Paired (fun p (kv : Key × V) => H2 p = some (.tup [kV kv.1, kv.2])) rs ((ns.take j).map fun n => ((Sum.inr n : Key), V.int 1)) ∧ rs.length = j)
      ⟨same_new nD, [], upd_same, .nil, rfl⟩ (fun j H2 _ hP => SqL.of (hP.1 _ _ ha)) (fun j x H2 hx hP => ?_) (fun H2 hP => ?_)
    · obtain ⟨sm, rs, hD, hps, hpl⟩ := hP
      obtain ⟨y, hy, rfl⟩ := of_strs_at hx
      have hjl := (List.getElem?_eq_some_iff.mp hy).1
      refine ⟨rfl, _, rfl, (by show 2 ≤ sizeLine; decide), fun r nr => ?_⟩
      have ntD : D ≠ r := ne_of_none hD nr
      refine ⟨_, by rw [upd_ne ntD]; exact hD, by rw [List.length_map]; exact small_lt (by omega), (sm.trans (same_new nr)).own nD, rs ++ [r], ?_, ?_, ?_⟩
      · rw [upd_same, List.map_append]
        rfl
      · rw [take_snoc hy, List.map_append]
        refine Paired.snoc (Paired.mapF (fun p kv e => ?_) hps) ?_
        · rw [upd_ne (ne_of e hD (fun z => nomatch z)), upd_ne (ne_of_none e nr)]
          exact e
        · rw [upd_ne ntD.symm, upd_same]
          rfl
      · rw [List.length_append, hpl]
        rfl
    obtain ⟨sm, rs, hD, hps, hpl⟩ := hP
    rw [List.length_map, List.take_length] at hps
    have hkn : ((ns.map fun n => ((Sum.inr n : Key), V.int 1)).map (·.1)).Nodup := by
      rw [ones_map]
      exact nodup_map (fun a b e => Sum.inr.inj e) gd.nd
    refine ⟨D, rs, _, rfl, SqL.of hD, Paired.mapF (fun p kv e => SqT.of e) hps, fun sd nsd => ?_⟩
    rw [merge_new _ [] hkn, List.nil_append]
    have nsd0 : H sd = none := sm.free nsd
    have sm2 := sm.trans (same_new (o := .dK (ns.map fun n => ((Sum.inr n : Key), V.int 1))) nsd)
    have hS : SlipsAt (upd H2 sd (.dK (ns.map fun n => ((Sum.inr n : Key), V.int 1)))) sd ns (fun _ => 1) := ⟨_, upd_same, by rw [List.length_map], hkn, fun n hn => ones_val gd.nd hn⟩
    generalize upd H2 sd (.dK (ns.map fun n => ((Sum.inr n : Key), V.int 1))) = H3 at sm2 hS ⊢
    have ha3 := sm2 _ _ ha
    refine ⟨_, rfl, .inl ⟨rfl, _, SqL.of ha3⟩, _, rfl, a, _, _, ns.idxOf b, .str b, rfl, rfl, SqL.of ha3, rfl, flat_strs ns, strs_at (idx_at hb), beq_self_eq_true _, fun m z hm hz => ?_, ?_⟩
    · obtain ⟨y, hy, rfl⟩ := of_strs_at hz
      exact beq_eq_false_iff_ne.mpr fun e => idx_first hm (e ▸ hy)
    refine ⟨_, rfl, (by show 1 ≤ sizeLine; decide), fun f nf => ?_⟩
    have nf0 : H f = none := sm2.free nf
    have sm4 := sm2.trans (same_new (o := .lst [.str b]) nf)
    have hS4 := hS.same (same_new (o := .lst [.str b]) nf)
    have hf4 : (upd H3 f (.lst [.str b])) f = some (.lst [.str b]) := upd_same
    have hsf : sd ≠ f := by
      obtain ⟨kvs, k1, _⟩ := hS
      exact ne_of_none k1 nf
    generalize upd H3 f (.lst [.str b]) = H4 at sm4 hS4 hf4 ⊢
    obtain ⟨kvs, k1, k2, k3, k4⟩ := hS4

    refine ⟨_, _, _, rfl, _, rfl, _, rfl, sd, _, rfl, DPut.k (k := Sum.inr b) k1 (small_lt (by omega)), ?_⟩
    have S1 : SlipsAt (upd H4 sd (.dK (putK kvs (Sum.inr b : Key) (.int 0)))) sd ns (sd01 [b]) := (SlipsAt.put (sl := fun _ => 1) k2 k3 k4 hb).congr fun n hn => by
      unfold setSl sd01
      by_cases e : n = b
      · rw [if_pos e, if_pos (List.mem_singleton.mpr e)]
      · rw [if_neg e, if_neg (fun h => e (List.mem_singleton.mp h))]
    have sm5 : Same H (upd H4 sd (.dK (putK kvs (Sum.inr b : Key) (.int 0)))) := sm4.own nsd0
    have hf5 : (upd H4 sd (.dK (putK kvs (Sum.inr b : Key) (.int 0)))) f = some (.lst [.str b]) := by rw [upd_ne hsf.symm]; exact hf4
    generalize upd H4 sd (.dK (putK kvs (Sum.inr b : Key) (.int 0))) = H5 at S1 sm5 hf5 ⊢
    refine ⟨_, rfl, t, rfl, ⟨_, SqT.of (sm5 _ _ ht)⟩, for_tup (K := K) (a := t) (xs := (nz ps).map V.int) (fun i σ H6 => ∃ (fnd : List Str) (x : Str) (u7 u8 : Option V), σ = [some (.ref a), some (.str b), some (.ref t), some (.ref sd), some (.int (ns.idxOf x : Nat)), some (.ref f), u7, u8, none] ∧ Same H H6 ∧ H6 f = some (.lst ((fnd ++ [x]).map V.str)) ∧ SlipsAt H6 sd ns (sd01 (fnd ++ [x])) ∧ (fnd ++ [x]).Nodup ∧ (∀ y ∈ fnd ++ [x], y ∈ ns) ∧ fnd ++ [x] ++ goTail ns (fnd ++ [x]) x (ps.drop i) = orderBy ns b ps ∧ PlOk (ns.length - (fnd ++ [x]).length) (ps.drop i))
      ⟨[], b, none, none, rfl, sm5, hf5, S1, List.nodup_cons.mpr ⟨List.not_mem_nil, List.nodup_nil⟩, (fun y hy => by rw [List.mem_singleton.mp hy]; exact hb), rfl, hok⟩ (fun i σ H6 _ hP => ?_) (fun i v σ H6 hv hP => ?_) (fun σ H6 hP => ?_)⟩
    · obtain ⟨fnd, x, u7, u8, rfl, sm6, _⟩ := hP
      exact SqT.of (sm6 _ _ ht)
    · obtain ⟨fnd, g, u7, u8, rfl, sm6, hf, hS6, hd, hs, he, hok6⟩ := hP
      obtain ⟨z, hz, rfl⟩ := of_ints_at hv
      obtain ⟨p, rfl, hpp⟩ : ∃ p : Nat, z = (p : Int) ∧ ps[i]? = some p := by
        rw [nz, List.getElem?_map] at hz
        obtain ⟨p, h1, h2⟩ := Option.map_eq_some_iff.mp hz
        exact ⟨p, h2.symm, h1⟩
      have hdr : ps.drop i = p :: ps.drop (i + 1) := by
        obtain ⟨h1, e1⟩ := List.getElem?_eq_some_iff.mp hpp
        rw [← e1, List.getElem_cons_drop]
      rw [hdr] at he hok6
      have hgn : g ∈ ns := hs g (List.mem_append_right _ (List.mem_singleton.mpr rfl))
      have hsl := sit_len (g := g) gd.nd hd hs
      have hlt : p < (sitting ns (fnd ++ [g]) g).length := by have := hok6.1; omega
      generalize hy : (sitting ns (fnd ++ [g]) g).getD p Str.empty = x at he
      have hym : x ∈ sitting ns (fnd ++ [g]) g := by rw [← hy]; exact getD_mem hlt
      obtain ⟨hx1, hx2⟩ := sit_mem.mp hym
      have ha6 := sm6 _ _ ha
      refine ⟨_, rfl, _, _, rfl, rfl, ?_⟩
      refine ⟨WDec a t sd f b ns (fnd ++ [g]) g p x H6, ⟨ns.length - 0, 0, p + 1, Nat.zero_le _, rfl, ?_, rfl, rfl, fun h => absurd h (Nat.succ_ne_zero _)⟩, fun m σ H7 hW => ?_⟩
      · rw [Nat.add_zero, Nat.mod_eq_of_lt (idx_lt hgn)]
        rfl
      obtain ⟨k, lf, hk, rfl, rfl, rfl, hcl, hhit⟩ := hW
      refine ⟨_, rfl, _, _, rfl, rfl, _, rfl, ?_⟩
      by_cases h0 : lf = 0
      · obtain ⟨hk0, hkx⟩ := hhit h0
        rw [decide_eq_false (show ¬ ((lf : Nat) : Int) > 0 by omega)]
        have hat : ns[(ns.idxOf g + k) % ns.length]? = some x := by
          have := rotP_at hgn (k := k - 1) (by omega)
          rw [hkx, show ns.idxOf g + 1 + (k - 1) = ns.idxOf g + k by omega] at this
          exact this.symm
        have hidx := idx_of_at gd.nd hat
        obtain ⟨kv6, q1, q2, q3, q4⟩ := hS6
        refine iteF ⟨_, rfl, _, rfl, _, rfl, a, _, _, .str x, rfl, rfl, SqL.of ha6, atI_at rfl (strs_at hat), sd, _, rfl, DPut.k (k := Sum.inr x) q1 (small_lt (by omega)), ?_⟩
        have S7 : SlipsAt (upd H7 sd (.dK (putK kv6 (Sum.inr x : Key) (.int 0)))) sd ns (sd01 (fnd ++ [g] ++ [x])) := (SlipsAt.put q2 q3 q4 hx1).congr fun n hn => sd01_put n
        have sm7 : Same H (upd H7 sd (.dK (putK kv6 (Sum.inr x : Key) (.int 0)))) := sm6.own nsd0
        have hf7 : (upd H7 sd (.dK (putK kv6 (Sum.inr x : Key) (.int 0)))) f = some (.lst ((fnd ++ [g]).map V.str)) := by rw [upd_ne hsf.symm]; exact hf
        generalize upd H7 sd (.dK (putK kv6 (Sum.inr x : Key) (.int 0))) = H8 at S7 sm7 hf7 ⊢
        refine ⟨_, rfl, .inl ⟨rfl, _, SqL.of hf7⟩, _, rfl, _, rfl, a, _, _, .str x, rfl, rfl, SqL.of (sm7 _ _ ha), atI_at rfl (strs_at hat), f, _, _, rfl, rfl, hf7, by rw [List.length_map]; exact small_lt (by omega), ?_⟩
        refine ⟨fnd ++ [g], x, _, _, by rw [hidx], sm7.own nf0, ?_, ?_, snoc_nd hd hx2, snoc_sub hs hx1, ?_, ?_⟩
        · rw [upd_same, List.map_append (l₁ := fnd ++ [g])]
          rfl
        · obtain ⟨kv8, w1, w2, w3, w4⟩ := S7
          exact ⟨kv8, by rw [upd_ne hsf]; exact w1, w2, w3, w4⟩
        · rw [← he]
          show fnd ++ [g] ++ [x] ++ goTail ns (fnd ++ [g] ++ [x]) x (ps.drop (i + 1)) = fnd ++ [g] ++ ((sitting ns (fnd ++ [g]) g).getD p Str.empty :: goTail ns (fnd ++ [g] ++ [(sitting ns (fnd ++ [g]) g).getD p Str.empty]) ((sitting ns (fnd ++ [g]) g).getD p Str.empty) (ps.drop (i + 1)))
          rw [hy, List.append_assoc (fnd ++ [g]) [x]]
          rfl
        · have := hok6.2
          rw [List.length_append (as := fnd ++ [g])]
          exact (show ns.length - (fnd ++ [g]).length - 1 = ns.length - ((fnd ++ [g]).length + [x].length) by simp only [List.length_singleton]; omega) ▸ this
      · rw [decide_eq_true (show ((lf : Nat) : Int) > 0 by omega)]
        have hkn2 : k < ns.length := cnt_more (p := p) (by omega) hlt
        refine iteT ⟨fun σ' H' => ∃ m', m' < ns.length - k ∧ WDec a t sd f b ns (fnd ++ [g]) g p x H7 m' σ' H', fun _ _ h => h, ?_⟩
        obtain ⟨y, hy2⟩ : ∃ y, (rot ns g)[k]? = some y := ⟨_, List.getElem?_eq_getElem (by rw [rot_len]; exact hkn2)⟩
        have hat : ns[(ns.idxOf g + (k + 1)) % ns.length]? = some y := by
          have := rotP_at hgn hkn2
          rw [hy2, show ns.idxOf g + 1 + k = ns.idxOf g + (k + 1) by omega] at this
          exact this.symm
        have hyn : y ∈ ns := List.mem_of_getElem? hat
        refine ⟨_, rfl, _, _, rfl, rfl, _, rfl, a, _, rfl, .inl (SqL.of ha6), _, _, rfl, rfl, by rw [List.length_map]; omega, ?_⟩
        dsimp only
        rw [List.length_map, seat_next]
        obtain ⟨kv6, q1, q2, q3, q4⟩ := hS6
        refine ⟨_, rfl, _, rfl, _, rfl, _, rfl, a, _, _, .str y, rfl, rfl, SqL.of ha6, atI_at rfl (strs_at hat), sd, .int (sd01 (fnd ++ [g]) y), rfl, by rw [← q4 y hyn]; exact DGet.k (k := Sum.inr y) q1, _, _, rfl, rfl, ?_⟩
        have hstep := cnt_step (fd := fnd ++ [g]) hy2
        by_cases hyf : y ∈ fnd ++ [g]
        · rw [if_pos hyf] at hstep
          refine ⟨ns.length - (k + 1), by omega, k + 1, lf, by omega, rfl, ?_, rfl, by omega, fun h => absurd h h0⟩
          rw [show sd01 (fnd ++ [g]) y = 0 from if_pos hyf]
          rfl
        · rw [if_neg hyf] at hstep
          refine ⟨ns.length - (k + 1), by omega, k + 1, lf - 1, by omega, rfl, ?_, rfl, by omega, fun h => ⟨Nat.succ_pos _, ?_⟩⟩
          · rw [show sd01 (fnd ++ [g]) y = 1 from if_neg hyf, show ((lf - 1 : Nat) : Int) = (lf : Int) - 1 by omega]
            rfl
          · rw [Nat.add_sub_cancel, hy2, ← cnt_hit hy2 hyf (p := p) (by omega), hy]
    · obtain ⟨fnd, x, u7, u8, rfl, sm6, hf, hS6, hd, hs, he, hok6⟩ := hP
      rw [show ps.drop ((nz ps).map V.int).length = [] from List.drop_of_length_le (by rw [List.length_map, nz, List.length_map]; exact Nat.le_refl _), show goTail ns (fnd ++ [x]) x [] = [] from rfl, List.append_nil] at he
      refine ⟨_, rfl, f, _, rfl, .inl ⟨SqL.of hf, fun r nr => ?_⟩⟩
      refine q _ r (sm6.trans (same_new nr)) (sm6.free nr) ?_
      rw [upd_same, he]
def WIdx (a t sd f : Addr) (lab : Str) (ns fd : List Str) (g : Str) (H0 : Hp) (m : Nat) (σ : L2.St) (H1 : Hp) : Prop := ∃ k : Nat, k ≤ (rot ns g).idxOf lab ∧ m = ns.length - k ∧
  σ = [some (.ref a), some (.ref t), some (.ref sd), some (.int (((ns.idxOf g + 1 + k) % ns.length : Nat))), some (.ref f), some (.str lab), some (.int (cnt ns fd g k : Nat))] ∧ H1 = H0
theorem ok_l_indexes (T : Tx K mg) : FnOk P w K mg base CX0 1 T.a_l_indexes T.fd_l_indexes P_l_indexes spIndexes := by
  refine T.F_l_indexes.ok sc_l_indexes (fun vs H Q E h => ?_) (fun cdv A outer s H vs Q E hr h => ?_)
  · obtain ⟨a, t, ns, b, rest, rfl, _⟩ := h
    rfl
  · obtain ⟨a, t, ns, b, rest, rfl, ha, gd, ht, hnd, hsub, q⟩ := h
    have hu := hu_of hr
    refine ⟨_, (pss_cons (ps_par3 (i := 2) (j := 3) (l := 4) (by rfl) sc_l_indexes.nd rfl rfl rfl (by decide) (by decide) (by decide) rfl rfl rfl (pa_cons (pe_callTy (call_dictP rfl) (by rfl) T.m_dict (by decide +kernel) (pa_cons (pe_lc (own := [("_law_label", 5)]) (g := gName 5) (tt := tYes) rfl sc_l_indexes.nd (pi_list (pv 0)) (blkOk_by (N := N_l_indexes) (sc := defScope s_l_indexes) (by decide +kernel)) (fun _ _ _ _ _ => pg_name (i := 5) sc_l_indexes.nd rfl (Or.inl rfl)) (fun _ _ _ _ _ => pts_nil) (fun _ _ _ _ _ => (pe_tup (pa_cons (pv 5) (pa_cons pe_int pa_nil))))) pa_nil)) (pa_cons (pe_bm PySem.F.plainAttrs_list PySem.F.slot_list_index PySem.F.type_list_index mt_index (pv 0) (pa_cons (pe_ix ix_tup (pv 1) pe_int (fun _ _ => rfl)) pa_nil)) (pa_cons (pe_lst pa_nil) pa_nil))) (by rfl))
      (pss_cons (ps_dput hu (pv 2) (pe_ix ix_tup (pv 1) pe_int (fun _ _ => rfl)) pe_int rfl)
      (pss_cons (ps_for PassesOwn.never rfl (pi_tup (pe_slice sl_tupA (pv 1) (po_some pe_int) po_none)) (pg_name (i := 5) sc_l_indexes.nd rfl (.inl rfl))
       (pss_cons (ps_set (i := 6) sc_l_indexes.nd rfl (.inl rfl) pe_int)
        (pss_cons (ps_set (i := 3) sc_l_indexes.nd rfl (.inl rfl) (pe_op op_mod (pe_op op_add (pv 3) pe_int) (pe_callB call_len_seq (by rfl) T.m_len (by decide +kernel) (pa_cons (pv 0) pa_nil))))
        (pss_cons (ps_while PassesOwn.never (pt_cmpR op_ne (pe_ix ix_list (pv 0) (pv 3) (fun _ _ => rfl)) (pv 5) (nomark _))
         (pss_cons (ps_set (i := 6) sc_l_indexes.nd rfl (.inl rfl) (pe_op op_add (pv 6) (pe_dget hu (pv 2) (pe_ix ix_list (pv 0) (pv 3) (fun _ _ => rfl)) (fun _ _ => rfl))))
          (pss_one (ps_set (i := 3) sc_l_indexes.nd rfl (.inl rfl) (pe_op op_mod (pe_op op_add (pv 3) pe_int) (pe_callB call_len_seq (by rfl) T.m_len (by decide +kernel) (pa_cons (pv 0) pa_nil)))))))
        (pss_cons (ps_dput hu (pv 2) (pv 5) pe_int rfl)
        (pss_one (ps_expr (pe_bm PySem.F.plainAttrs_list PySem.F.slot_list_append PySem.F.type_list_append mt_append (pv 4) (pa_cons (pv 6) pa_nil)))))))))
      (pss_one (ps_ret (pe_callTy call_tuple_of (by rfl) T.m_tuple (by decide +kernel) (pa_cons (pv 4) pa_nil))))))), ?_⟩
    have l12 := gd.twelve
    have l2 := gd.two
    have hb : b ∈ ns := hsub b List.mem_cons_self
    have ht0 : H t = some (.tup (V.str b :: rest.map V.str)) := ht
    refine ⟨_, rfl, a, rfl, ⟨_, SqL.of ha⟩, fun D nD => ?_⟩
    refine lc_list (K := K) (a := a) (xs := ns.map V.str) (fun j H2 => Same H H2 ∧ ∃ (rs : List Addr), H2 D = some (.lst (rs.map V.ref)) ∧ Paired (fun p (kv : Key × V) => H2 p = some (.tup [kV kv.1, kv.2])) rs ((ns.take j).map fun n => ((Sum.inr n : Key), V.int 1)) ∧ rs.length = j)
      ⟨same_new nD, [], upd_same, .nil, rfl⟩ (fun j H2 _ hP => SqL.of (hP.1 _ _ ha)) (fun j x H2 hx hP => ?_) (fun H2 hP => ?_)
    · obtain ⟨sm, rs, hD, hps, hpl⟩ := hP
      obtain ⟨y, hy, rfl⟩ := of_strs_at hx
      have hjl := (List.getElem?_eq_some_iff.mp hy).1
      refine ⟨rfl, _, rfl, (by show 2 ≤ sizeLine; decide), fun r nr => ?_⟩
      have ntD : D ≠ r := ne_of_none hD nr
      refine ⟨_, by rw [upd_ne ntD]; exact hD, by rw [List.length_map]; exact small_lt (by omega), (sm.trans (same_new nr)).own nD, rs ++ [r], ?_, ?_, ?_⟩
      · rw [upd_same, List.map_append]
        rfl
      · rw [take_snoc hy, List.map_append]
        refine Paired.snoc (Paired.mapF (fun p kv e => ?_) hps) ?_
        · rw [upd_ne (ne_of e hD (fun z => nomatch z)), upd_ne (ne_of_none e nr)]
          exact e
        · rw [upd_ne ntD.symm, upd_same]
          rfl
      · rw [List.length_append, hpl]
        rfl
    obtain ⟨sm, rs, hD, hps, hpl⟩ := hP
    rw [List.length_map, List.take_length] at hps
    have hkn : ((ns.map fun n => ((Sum.inr n : Key), V.int 1)).map (·.1)).Nodup := by
      rw [ones_map]
      exact nodup_map (fun a b e => Sum.inr.inj e) gd.nd
    refine ⟨D, rs, _, rfl, SqL.of hD, Paired.mapF (fun p kv e => SqT.of e) hps, fun sd nsd => ?_⟩
    rw [merge_new _ [] hkn, List.nil_append]
    have nsd0 : H sd = none := sm.free nsd
    have sm2 := sm.trans (same_new (o := .dK (ns.map fun n => ((Sum.inr n : Key), V.int 1))) nsd)
    have hS : SlipsAt (upd H2 sd (.dK (ns.map fun n => ((Sum.inr n : Key), V.int 1)))) sd ns (fun _ => 1) := ⟨_, upd_same, by rw [List.length_map], hkn, fun n hn => ones_val gd.nd hn⟩
    generalize upd H2 sd (.dK (ns.map fun n => ((Sum.inr n : Key), V.int 1))) = H3 at sm2 hS ⊢
    have ha3 := sm2 _ _ ha
    refine ⟨_, rfl, .inl ⟨rfl, _, SqL.of ha3⟩, _, rfl, t, _, 0, .str b, rfl, rfl, SqT.of (sm2 _ _ ht0), atI_nat (j := 0) rfl, a, _, _, ns.idxOf b, .str b, rfl, rfl, SqL.of ha3, rfl, flat_strs ns, strs_at (idx_at hb), beq_self_eq_true _, fun m z hm hz => ?_, ?_⟩
    · obtain ⟨y, hy, rfl⟩ := of_strs_at hz
      exact beq_eq_false_iff_ne.mpr fun e => idx_first hm (e ▸ hy)
    refine ⟨Nat.zero_le _, fun f nf => ?_⟩
    have nf0 : H f = none := sm2.free nf
    have sm4 := sm2.trans (same_new (o := .lst []) nf)
    have hS4 := hS.same (same_new (o := .lst []) nf)
    have hf4 : (upd H3 f (.lst [])) f = some (.lst []) := upd_same
    have hsf : sd ≠ f := by
      obtain ⟨kvs, k1, _⟩ := hS
      exact ne_of_none k1 nf
    generalize upd H3 f (.lst []) = H4 at sm4 hS4 hf4 ⊢
    obtain ⟨kvs, k1, k2, k3, k4⟩ := hS4
    refine ⟨_, _, _, rfl, _, rfl, _, rfl, t, _, 0, .str b, rfl, rfl, SqT.of (sm4 _ _ ht0), atI_nat (j := 0) rfl, sd, _, rfl, DPut.k (k := Sum.inr b) k1 (small_lt (by omega)), ?_⟩
    have S1 : SlipsAt (upd H4 sd (.dK (putK kvs (Sum.inr b : Key) (.int 0)))) sd ns (sd01 [b]) := (SlipsAt.put (sl := fun _ => 1) k2 k3 k4 hb).congr fun n hn => by
      unfold setSl sd01
      by_cases e : n = b
      · rw [if_pos e, if_pos (List.mem_singleton.mpr e)]
      · rw [if_neg e, if_neg (fun h => e (List.mem_singleton.mp h))]
    have sm5 : Same H (upd H4 sd (.dK (putK kvs (Sum.inr b : Key) (.int 0)))) := sm4.own nsd0
    have hf5 : (upd H4 sd (.dK (putK kvs (Sum.inr b : Key) (.int 0)))) f = some (.lst []) := by rw [upd_ne hsf.symm]; exact hf4
    generalize upd H4 sd (.dK (putK kvs (Sum.inr b : Key) (.int 0))) = H5 at S1 sm5 hf5 ⊢
    refine ⟨_, rfl, 1, rfl, t, _, rfl, SqT.of (sm5 _ _ ht), fun z => ?_, fun _ t2 nt2 => ?_⟩
    · have z1 := z.1
      rw [show (some (1 : Int)) = some ((1 : Nat) : Int) from rfl, HT.sIx_nat, List.length_map, List.length_cons] at z1
      omega
    rw [show (some (1 : Int)) = some ((1 : Nat) : Int) from rfl, cut_drop, ← List.map_drop]
    have sm56 := same_new (o := .tup (rest.map V.str)) nt2
    have ht2 : (upd H5 t2 (.tup (rest.map V.str))) t2 = some (.tup (rest.map V.str)) := upd_same
    have sm6 := sm5.trans sm56
    generalize hH6 : upd H5 t2 (.tup (rest.map V.str)) = H6 at sm56 ht2 sm6
    rw [show upd H5 t2 (.tup (List.map V.str (List.drop 1 (b :: rest)))) = H6 from hH6]
    refine ⟨t2, rfl, ⟨_, SqT.of ht2⟩, for_tup (K := K) (a := t2) (xs := rest.map V.str) (fun i σ H7 => ∃ (fnd : List Str) (g : Str) (ps : List Nat) (u5 u6 : Option V), σ = [some (.ref a), some (.ref t), some (.ref sd), some (.int (ns.idxOf g : Nat)), some (.ref f), u5, u6] ∧ Same H H7 ∧ H7 t2 = some (.tup (rest.map V.str)) ∧ H7 f = some (.lst ((nz ps).map V.int)) ∧ ps.length = i ∧ SlipsAt H7 sd ns (sd01 (fnd ++ [g])) ∧ fnd ++ [g] ++ rest.drop i = b :: rest ∧ ps ++ told ns (fnd ++ [g]) g (rest.drop i) = told ns [b] b rest)
      ⟨[], b, [], none, none, rfl, sm6, ht2, sm56 _ _ hf5, rfl, S1.same sm56, rfl, rfl⟩ (fun i σ H7 _ hP => ?_) (fun i v σ H7 hv hP => ?_) (fun σ H7 hP => ?_)⟩
    · obtain ⟨fnd, g, ps, u5, u6, rfl, sm7, h2, _⟩ := hP
      exact SqT.of h2
    · obtain ⟨fnd, g, ps, u5, u6, rfl, sm7, h2, hf, hpl, hS7, he, htd⟩ := hP
      obtain ⟨x, hx, rfl⟩ := of_strs_at hv
      have hil := (List.getElem?_eq_some_iff.mp hx).1
      have hrl : rest.length + 1 ≤ 12 := by
        have := List.Nodup.length_le_of_subset hnd (fun y hy => hsub y hy)
        rw [List.length_cons] at this
        omega
      have hdr : rest.drop i = x :: rest.drop (i + 1) := by
        obtain ⟨h1, e1⟩ := List.getElem?_eq_some_iff.mp hx
        rw [← e1, List.getElem_cons_drop]
      rw [hdr] at he htd
      have hnd2 := hnd
      have hsub2 := hsub
      rw [← he] at hnd2 hsub2
      have hgn : g ∈ ns := hsub2 g (List.mem_append_left _ (List.mem_append_right _ (List.mem_singleton.mpr rfl)))
      have hxn : x ∈ ns := hsub2 x (List.mem_append_right _ List.mem_cons_self)
      have hxf : x ∉ fnd ++ [g] := (nd_mid hnd2).1
      have ha7 := sm7 _ _ ha
      have hxr : x ∈ rot ns g := (rotP_perm ns g).mem_iff.mpr hxn
      have hk0 : (rot ns g).idxOf x < ns.length := by have := idx_lt hxr; rw [rot_len] at this; exact this
      refine ⟨_, rfl, _, _, rfl, rfl, _, rfl, a, _, rfl, .inl (SqL.of ha7), _, _, rfl, rfl, by rw [List.length_map]; omega, ?_⟩
      dsimp only
      refine ⟨WIdx a t sd f x ns (fnd ++ [g]) g H7, ⟨ns.length - 0, 0, Nat.zero_le _, rfl, ?_, rfl⟩, fun m σ H8 hW => ?_⟩
      · rw [List.length_map, Nat.add_zero]
        have := seat_next (a := ns.idxOf g) (n := ns.length)
        rw [Nat.mod_eq_of_lt (idx_lt hgn)] at this
        rw [this]
        rfl
      obtain ⟨k, hk, rfl, rfl, rfl⟩ := hW
      obtain ⟨y, hy⟩ : ∃ y, (rot ns g)[k]? = some y := ⟨_, List.getElem?_eq_getElem (by rw [rot_len]; omega)⟩
      have hat : ns[(ns.idxOf g + 1 + k) % ns.length]? = some y := by rw [← rotP_at hgn (by omega)]; exact hy
      have hyn : y ∈ ns := List.mem_of_getElem? hat
      refine ⟨_, rfl, _, rfl, a, _, _, .str y, rfl, rfl, SqL.of ha7, atI_at rfl (strs_at hat), ?_⟩
      refine ⟨_, rfl, rfl, _, rfl, ?_⟩
      by_cases hyx : y = x
      · rw [decide_eq_true (show V.str y = V.str x by rw [hyx])]
        rw [hyx] at hy hat
        have hcx := cnt_idx gd.nd hy hxf
        have hix := idx_of_at gd.nd hat
        obtain ⟨kv6, q1, q2, q3, q4⟩ := hS7
        refine iteF ⟨_, rfl, _, rfl, sd, _, rfl, DPut.k (k := Sum.inr x) q1 (small_lt (by omega)), ?_⟩
        have S7 : SlipsAt (upd H8 sd (.dK (putK kv6 (Sum.inr x : Key) (.int 0)))) sd ns (sd01 (fnd ++ [g] ++ [x])) := (SlipsAt.put q2 q3 q4 hxn).congr fun n hn => sd01_put n
        have hst : sd ≠ t2 := ne_of q1 h2 (fun z => nomatch z)
        have sm8 : Same H (upd H8 sd (.dK (putK kv6 (Sum.inr x : Key) (.int 0)))) := sm7.own nsd0
        have hf8 : (upd H8 sd (.dK (putK kv6 (Sum.inr x : Key) (.int 0)))) f = some (.lst ((nz ps).map V.int)) := by rw [upd_ne hsf.symm]; exact hf
        have h28 : (upd H8 sd (.dK (putK kv6 (Sum.inr x : Key) (.int 0)))) t2 = some (.tup (rest.map V.str)) := by rw [upd_ne hst.symm]; exact h2
        generalize upd H8 sd (.dK (putK kv6 (Sum.inr x : Key) (.int 0))) = H9 at S7 sm8 hf8 h28 ⊢
        have hft : f ≠ t2 := ne_of hf8 h28 (fun z => nomatch z)
        refine ⟨_, rfl, .inl ⟨rfl, _, SqL.of hf8⟩, _, rfl, f, _, _, rfl, rfl, hf8, by rw [List.length_map, nz, List.length_map]; exact small_lt (by omega), ?_⟩
        refine ⟨fnd ++ [g], x, ps ++ [cnt ns (fnd ++ [g]) g k], _, _, by rw [hix], sm8.own nf0, by rw [upd_ne hft.symm]; exact h28, ?_, by rw [List.length_append, hpl]; rfl, ?_, ?_, ?_⟩
        · rw [upd_same, nz_snoc]
        · obtain ⟨kv8, w1, w2, w3, w4⟩ := S7
          exact ⟨kv8, by rw [upd_ne hsf]; exact w1, w2, w3, w4⟩
        · rw [← he, List.append_assoc (fnd ++ [g]) [x]]
          rfl
        · rw [← htd, hcx, List.append_assoc ps]
          rfl
      · rw [decide_eq_false (show ¬ V.str y = V.str x from fun e => hyx (by injection e))]
        refine iteT ⟨fun σ' H' => ∃ m', m' < ns.length - k ∧ WIdx a t sd f x ns (fnd ++ [g]) g H8 m' σ' H', fun _ _ h => h, ?_⟩
        have hklt : k < (rot ns g).idxOf x := by
          refine Nat.lt_of_le_of_ne hk fun e => hyx ?_
          rw [e, idx_at hxr] at hy
          exact (Option.some.inj hy).symm
        obtain ⟨kv6, q1, q2, q3, q4⟩ := hS7
        refine ⟨_, rfl, _, rfl, _, rfl, _, rfl, a, _, _, .str y, rfl, rfl, SqL.of ha7, atI_at rfl (strs_at hat), sd, .int (sd01 (fnd ++ [g]) y), rfl, by rw [← q4 y hyn]; exact DGet.k (k := Sum.inr y) q1, _, _, rfl, rfl, ?_⟩
        refine ⟨_, rfl, _, _, rfl, rfl, _, rfl, a, _, rfl, .inl (SqL.of ha7), _, _, rfl, rfl, by rw [List.length_map]; omega, ?_⟩
        dsimp only
        have hstep := cnt_step (fd := fnd ++ [g]) hy
        refine ⟨ns.length - (k + 1), by omega, k + 1, hklt, rfl, ?_, rfl⟩
        rw [List.length_map, seat_next, hstep]
        by_cases hyf : y ∈ fnd ++ [g]
        · rw [if_pos hyf, show sd01 (fnd ++ [g]) y = 0 from if_pos hyf]
          rfl
        · rw [if_neg hyf, show sd01 (fnd ++ [g]) y = 1 from if_neg hyf]
          rfl
    · obtain ⟨fnd, g, ps, u5, u6, rfl, sm7, h2, hf, hpl, hS7, he, htd⟩ := hP
      rw [List.length_map, List.drop_length, show told ns (fnd ++ [g]) g [] = [] from rfl, List.append_nil] at htd
      refine ⟨_, rfl, f, _, rfl, .inl ⟨SqL.of hf, fun r nr => ?_⟩⟩
      refine q _ r (sm7.trans (same_new nr)) (sm7.free nr) ?_
      rw [upd_same, htd]
end
end K05
namespace K05
open PySem PySem.Spec PyProof.Rows L2 GL
section
variable {P : Program} {w : World} {K : PySem.W.Frag} {mg : Str → Option Value} {base : Heap}
theorem ok_l_exact (T : Tx K mg) : FnOk P w K mg base CX0 1 T.a_l_exact T.fd_l_exact P_l_exact spExactP := by
  refine T.F_l_exact.ok sc_l_exact (fun vs H Q E h => ?_) (fun cdv A outer s H vs Q E hr h => ?_)
  · obtain ⟨l, w, rs, qs, xs, rfl, _⟩ := h
    rfl
  · obtain ⟨l, w, rs, qs, xs, rfl, hl, hp, hw, hq, q⟩ := h
    refine ⟨_, (pss_cons (ps_if (PW.pt (pw_or (pt_not (pt_val (pe_callB call_isi (by rfl) T.m_isinstance (by decide +kernel) (pa_cons (pv 0) (pa_cons (pe_bltn (v := .ty "tuple") (by rfl) T.m_tuple (by decide +kernel) rfl) pa_nil))))) (pw_or (pt_cmpR (op_neD hr.units) (pv 0) (pv 1) (nomark _)) (pw_or1 (pt_cmpR (op_neD hr.units) (pe_lc (own := [("_law_pair", 2)]) (g := gName 2)  rfl sc_l_exact.nd (pi_tup (pv 0)) (blkOk_by (N := N_l_exact) (sc := defScope s_l_exact) (by decide +kernel)) (fun _ _ _ _ _ => pg_name (i := 2) sc_l_exact.nd rfl (Or.inl rfl)) (fun _ _ _ _ _ => pts_one (pt_not (pt_val (pe_callB (show CallR _ (.builtin "isinstance") (rIsi K) from call_isi) (by rfl) T.m_isinstance (by decide +kernel) (pa_cons (pv 2) (pa_cons (pe_bltn (v := .ty "tuple") (by rfl) T.m_tuple (by decide +kernel) rfl) pa_nil)))))) (fun _ _ _ _ _ => (pv 2))) (pe_lst pa_nil) (nomark _))))))
       (pss_one (ps_ret pe_bl))
       pss_nil)
      (pss_one (ps_ret (pe_cmpR (op_eqD hr.units) (pe_lc (own := [("_law_pair", 2)]) (g := gName 2)  rfl sc_l_exact.nd (pi_tup (pv 0)) (blkOk_by (N := N_l_exact) (sc := defScope s_l_exact) (by decide +kernel)) (fun _ _ _ _ _ => pg_name (i := 2) sc_l_exact.nd rfl (Or.inl rfl)) (fun _ _ _ _ _ => pts_one (PW.pt (pw_or (pt_val (pe_callB (show CallR _ (.builtin "isinstance") (rIsi K) from call_isi) (by rfl) T.m_isinstance (by decide +kernel) (pa_cons (pe_ix (show IxR _ (rIxT K) from ix_tup) (pv 2) pe_int (fun _ _ => rfl)) (pa_cons (pe_bltn (v := .ty "bool") (by rfl) T.m_bool (by decide +kernel) rfl) pa_nil)))) (pw_or1 (pt_val (pe_callB (show CallR _ (.builtin "isinstance") (rIsi K) from call_isi) (by rfl) T.m_isinstance (by decide +kernel) (pa_cons (pe_ix (show IxR _ (rIxT K) from ix_tup) (pv 2) pe_int (fun _ _ => rfl)) (pa_cons (pe_bltn (v := .ty "bool") (by rfl) T.m_bool (by decide +kernel) rfl) pa_nil)))))))) (fun _ _ _ _ _ => (pv 2))) (pe_lst pa_nil) (nomark _))))), ?_⟩
    refine ⟨_, rfl, _, _, _, _, true, rfl, .ty _, .base (.tup hl), kit_ty (by decide +kernel), true, rfl, ?_⟩
    refine ⟨_, rfl, _, rfl, _, _, .tup (SqT.of hl) (dp_pairs hp), .tup (SqT.of hw) (dp_pairs hq), pairs_shaped xs, pairs_shaped xs, _, rfl, ?_⟩
    refine iteQ (pairs_eqv xs) ?_
    refine ⟨_, rfl, l, rfl, ⟨_, SqT.of hl⟩, fun D nD => ?_⟩
    refine lc_tup (K := K) (a := l) (xs := rs.map V.ref) (fun i H1 => Same H H1 ∧ H1 D = some (.lst [])) ⟨same_new nD, upd_same⟩ (fun i H1 _ p => SqT.of (p.1 _ _ hl)) (fun i v H1 hv p => ?_) (fun H1 p => ?_)
    · obtain ⟨a, x, rfl, _, ha⟩ := (hp.same p.1).get hv
      exact ⟨rfl, _, rfl, _, _, _, _, true, rfl, .ty _, .base (.tup ha), kit_ty (by decide +kernel), true, rfl, p⟩
    obtain ⟨sm, hD⟩ := p
    refine ⟨Nat.zero_le _, fun e ne => ?_⟩
    have sl := same_new (o := .lst []) ne
    refine ⟨_, _, .lst (SqL.of (sl _ _ hD)) .nil, .lst (SqL.of upd_same) .nil, shapedi_list [], shapedi_list [], _, rfl, ?_⟩
    refine iteQ ((eqvi_lists [] []).trans (decide_eq_true rfl)) ?_
    have sm2 := sm.trans sl
    generalize upd H1 e (.lst []) = H2 at sm2 ⊢
    have hl2 := sm2 _ _ hl
    refine ⟨_, rfl, l, rfl, ⟨_, SqT.of hl2⟩, fun D2 nD2 => ?_⟩
    refine lc_tup (K := K) (a := l) (xs := rs.map V.ref) (fun i H3 => Same H2 H3 ∧ H3 D2 = some (.lst [])) ⟨same_new nD2, upd_same⟩ (fun i H3 _ p => SqT.of (p.1 _ _ hl2)) (fun i v H3 hv p => ?_) (fun H3 p => ?_)
    · obtain ⟨a, x, rfl, _, ha⟩ := ((hp.same sm2).same p.1).get hv
      exact ⟨rfl, _, rfl, a, _, 0, _, rfl, rfl, SqT.of ha, atI_nat (j := 0) rfl, _, _, _, _, false, rfl, .ty _, .base (.int _), kit_ty (by decide +kernel), false, rfl, _, rfl, a, _, 1, _, rfl, rfl, SqT.of ha, atI_nat (j := 1) rfl, _, _, _, _, false, rfl, .ty _, .base (.int _), kit_ty (by decide +kernel), false, rfl, p⟩
    obtain ⟨sm3, hD2⟩ := p
    refine ⟨Nat.zero_le _, fun e2 ne2 => ?_⟩
    have sl2 := same_new (o := .lst []) ne2
    refine ⟨_, _, .lst (SqL.of (sl2 _ _ hD2)) .nil, .lst (SqL.of upd_same) .nil, shapedi_list [], shapedi_list [], ?_⟩
    rw [show PyData.eqv (.list []) (.list []) = true from (eqvi_lists [] []).trans (decide_eq_true rfl)]
    exact q _ (sm2.trans (sm3.trans sl2))
end
end K05
namespace K05
open PySem PySem.Spec PyProof.Rows L2 GL
section
variable {P : Program} {w : World} {K : PySem.W.Frag} {mg : Str → Option Value} {base : Heap}
theorem ok_l_otherwise (T : Tx K mg) : FnOk P w K mg base CX0 6 T.a_l_otherwise T.fd_l_otherwise P_l_otherwise spOther := by
  refine T.F_l_otherwise.ok sc_l_otherwise (fun vs H Q E h => ?_) (fun cdv A outer s H vs Q E hr h => ?_)
  · obtain ⟨S, C, a, t, ns, b, ps, rfl, _⟩ := h
    rfl
  · obtain ⟨S, C, a, t, ns, b, ps, rfl, hst, ha, g, hb, ht, hpl, hpo, q⟩ := h
    refine ⟨_, (pss_cons (ps_set (i := 4) sc_l_otherwise.nd rfl (.inl rfl) (pe_call (ok_l_draw T) (hr.mono (by decide)) (by rfl) T.g_l_draw T.F_l_draw.kp T.b_l_draw .nil pass0 (pa_cons (pv 0) (pa_cons (pe_callB call_len_seq (by rfl) T.m_len (by decide +kernel) (pa_cons (pv 3) pa_nil)) pa_nil))))
      (pss_cons (ps_set (i := 5) sc_l_otherwise.nd rfl (.inl rfl) (pe_op op_sub (pe_op op_sub (pe_callB call_len_seq (by rfl) T.m_len (by decide +kernel) (pa_cons (pv 1) pa_nil)) pe_int) (pv 4)))
      (pss_cons (ps_if (pt_cmpR op_eq (pv 5) pe_int (nomark _))
       (pss_one (ps_ret pe_bl))
       pss_nil)
      (pss_cons (ps_set (i := 6) sc_l_otherwise.nd rfl (.inl rfl) (pe_op op_mod (pe_op op_add (pe_op op_add (pe_ix ix_tup (pv 3) (pv 4) (fun _ _ => rfl)) pe_int) (pe_call (ok_l_draw T) (hr.mono (by decide)) (by rfl) T.g_l_draw T.F_l_draw.kp T.b_l_draw .nil pass0 (pa_cons (pv 0) (pa_cons (pe_op op_sub (pv 5) pe_int) pa_nil)))) (pv 5)))
      (pss_cons (ps_set (i := 7) sc_l_otherwise.nd rfl (.inl rfl) (pe_op op_catA (pe_op op_catA (pe_slice sl_tupA (pv 3) po_none (po_some (pv 4))) (pe_tup (pa_cons (pv 6) pa_nil))) (pe_slice sl_tupA (pv 3) (po_some (pe_op op_add (pv 4) pe_int)) po_none)))
      (pss_cons (ps_par (i := 8) (j := 9) (by rfl) sc_l_otherwise.nd rfl rfl (by decide) rfl rfl (pa_cons (pe_call (ok_order_by T) (hr.mono (by decide)) (by rfl) T.g_order_by T.F_order_by.kp T.b_order_by .nil pass0 (pa_cons (pv 1) (pa_cons (pv 2) (pa_cons (pv 7) pa_nil)))) (pa_cons (pe_call (ok_order_by T) (hr.mono (by decide)) (by rfl) T.g_order_by T.F_order_by.kp T.b_order_by .nil pass0 (pa_cons (pv 1) (pa_cons (pv 2) (pa_cons (pv 3) pa_nil)))) pa_nil)) (by rfl))
      (pss_cons (ps_if (PW.pt (pw_or (pt_cmpR (op_neD hr.units) (pv 8) (pe_call (ok_l_decoded T) (hr.mono (by decide)) (by rfl) T.g_l_decoded T.F_l_decoded.kp T.b_l_decoded .nil pass0 (pa_cons (pv 1) (pa_cons (pv 2) (pa_cons (pv 7) pa_nil)))) (nomark _)) (pw_or1 (pt_cmpR (op_neD hr.units) (pe_ix ix_tup (pe_call (ok_rests_of T) (hr.mono (by decide)) (by rfl) T.g_rests_of T.F_rests_of.kp T.b_rests_of .nil pass0 (pa_cons (pv 1) (pa_cons (pv 8) pa_nil))) (pv 4) (fun _ _ => rfl)) (pe_tup (pa_cons (pv 6) (pa_cons (pv 5) pa_nil))) (nomark _)))))
       (pss_one (ps_ret pe_bl))
       pss_nil)
      (pss_one (ps_ret (pe_and (pe_cmpR (op_eqD hr.units) (pe_slice sl_tupA (pv 8) po_none (po_some (pe_op op_add (pv 4) pe_int))) (pe_slice sl_tupA (pv 9) po_none (po_some (pe_op op_add (pv 4) pe_int))) (nomark _)) (pe_one (pe_cmpR op_ne (pe_ix ix_tup (pv 8) (pe_op op_add (pv 4) pe_int) (fun _ _ => rfl)) (pe_ix ix_tup (pv 9) (pe_op op_add (pv 4) pe_int) (fun _ _ => rfl)) (nomark _))))))))))))), ?_⟩
    have l12 := g.twelve
    have l2 := g.two
    have htl : ((nz ps).map V.int).length = ns.length - 1 := by rw [List.length_map, nz, List.length_map, hpl]
    refine ⟨_, rfl, _, rfl, t, _, rfl, .inr (SqT.of ht), S, C, _, rfl, by rw [htl]; omega, by rw [htl]; exact small_nat (by omega), hst, fun H1 d m1 st1 d0 d1 => ?_⟩
    rw [htl] at d1
    obtain ⟨j, rfl⟩ := Int.eq_ofNat_of_zero_le d0
    have hj : j < ps.length := by omega
    have ha1 := m1.strs hst ha
    have ht1 := m1.other hst ht (fun _ z => nomatch z)
    refine ⟨_, rfl, a, _, rfl, .inl (SqL.of ha1), _, _, rfl, rfl, _, rfl, _, _, rfl, rfl, ?_⟩
    rw [List.length_map]
    have esz : (ns.length : Int) - 1 - (j : Int) = ((ns.length - 1 - j : Nat) : Int) := by omega
    dsimp only
    rw [esz]
    refine ⟨_, rfl, rfl, _, rfl, ite2 (fun h1 => q _ m1 st1) (fun h1 => ?_)⟩
    have hsz : 2 ≤ ns.length - 1 - j := by
      have : ¬ (V.int ((ns.length - 1 - j : Nat) : Int) = V.int 1) := fun e => h1 (decide_eq_true e)
      have : ¬ (((ns.length - 1 - j : Nat) : Int) = 1) := fun e => this (by rw [e])
      omega
    obtain ⟨p, hp⟩ : ∃ p, ps[j]? = some p := ⟨_, List.getElem?_eq_getElem hj⟩
    have hpj := hpo.at hp
    have hpz : ((nz ps).map V.int)[j]? = some (.int (p : Nat)) := by rw [nz, List.getElem?_map, List.getElem?_map, hp]; rfl
    refine ⟨_, rfl, _, rfl, t, _, _, _, rfl, rfl, SqT.of ht1, atI_at rfl hpz, _, _, rfl, rfl, _, rfl, _, rfl, _, _, rfl, rfl, S, C, _, rfl, by omega, by rw [show ((ns.length - 1 - j : Nat) : Int) - 1 = ((ns.length - 1 - j - 1 : Nat) : Int) by omega]; exact small_nat (by omega), st1, fun H2 e m2 st2 e0 e1 => ?_⟩
    obtain ⟨k, rfl⟩ := Int.eq_ofNat_of_zero_le e0
    refine ⟨_, _, rfl, rfl, _, rfl, _, _, rfl, rfl, by omega, ?_⟩
    generalize hqd : (p + 1 + k) % (ns.length - 1 - j) = qn
    have hqi : ((p : Nat) + 1 + (k : Nat) : Int) % ((ns.length - 1 - j : Nat) : Int) = ((qn : Nat) : Int) := by
      rw [← hqd]
      rfl
    have hql : qn < ns.length - 1 - j := by rw [← hqd]; exact Nat.mod_lt _ (by omega)
    have hpq : p ≠ qn := by
      intro e
      rw [← hqd] at e
      by_cases hc : p + 1 + k < ns.length - 1 - j
      · rw [Nat.mod_eq_of_lt hc] at e
        omega
      · have hc : ns.length - 1 - j ≤ p + 1 + k := Nat.le_of_not_lt hc
        rw [Nat.mod_eq_sub_mod hc, Nat.mod_eq_of_lt (by omega)] at e
        omega
    dsimp only
    rw [hqi]
    have m12 := m1.trans m2
    have ha2 := m2.strs st1 ha1
    have ht2 := m2.other st1 ht1 (fun _ z => nomatch z)
    refine ⟨_, rfl, _, rfl, _, rfl, ?_⟩
    dsimp only [tNoPart]
    refine slA ht2 fun H3 p1 sm3 hp1 => ?_
    rw [cut_take] at hp1
    refine ⟨_, rfl, (by show 1 ≤ sizeLine; decide), fun T1 nT1 => ?_⟩
    refine catA (same_new nT1 _ _ hp1) upd_same (by rw [List.length_take, htl]; show _ ≤ sizeLine; exact small_sz (by simp only [List.length_singleton]; omega)) fun H4 p2 sm4 hp2 => ?_
    have sm24 := (sm3.trans (same_new (o := .tup [.int (qn : Nat)]) nT1)).trans sm4
    refine ⟨_, rfl, _, rfl, _, _, rfl, rfl, _, rfl, ?_⟩
    dsimp only [tNoPart]
    refine slA (sm24 _ _ ht2) fun H5 p3 sm5 hp3 => ?_
    rw [show (some ((j : Int) + 1)) = some ((j + 1 : Nat) : Int) from rfl, cut_drop] at hp3
    refine catA (sm5 _ _ hp2) hp3 (by rw [List.length_append, List.length_take, List.length_drop, htl]; show _ ≤ sizeLine; exact small_sz (by simp only [List.length_singleton]; omega)) fun H6 u sm6 hu => ?_
    have hset : (((nz ps).map V.int).take j ++ [.int (qn : Nat)]) ++ ((nz ps).map V.int).drop (j + 1) = (nz (ps.set j qn)).map V.int := by
      unfold nz
      rw [List.set_eq_take_append_cons_drop, if_pos hj, List.map_append, List.map_append, List.map_cons, List.map_cons, List.map_take, List.map_take, List.map_drop, List.map_drop, List.append_assoc]
      rfl
    rw [hset] at hu
    have sm26 := (sm24.trans sm5).trans sm6
    have ha6 := sm26 _ _ ha2
    have ht6 := sm26 _ _ ht2
    have hok2 := hpo.set hql
    have hpl2 : (ps.set j qn).length = ns.length - 1 := by rw [List.length_set]; exact hpl
    refine ⟨_, rfl, _, rfl, _, rfl, false, a, u, ns, b, _, rfl, ha6, g, hb, hu, hpl2, hok2, fun H7 r1 sm7 nr1 hr1 => ?_⟩
    refine ⟨_, rfl, _, rfl, _, rfl, false, a, t, ns, b, _, rfl, sm7 _ _ ha6, g, hb, sm7 _ _ ht6, hpl, hpo, fun H8 r2 sm8 nr2 hr2 => ?_⟩
    obtain ⟨o1, o2, o3, o4⟩ := order_of g hb hpl2 hok2
    have sm68 := sm7.trans sm8
    refine ⟨_, _, rfl, _, rfl, _, rfl, _, rfl, _, rfl, a, u, ns, b, _, rfl, sm68 _ _ ha6, g, hb, sm68 _ _ hu, hok2, fun H9 r3 sm9 nr3 hr3 => ?_⟩
    have hstr : ∀ y ∈ orderBy ns b (ps.set j qn), PyData.strOk y = true := fun y hy => g.str y (o3 y hy)
    refine ⟨_, _, dp_tup (sm9 _ _ (sm8 _ _ hr1)), dp_tup hr3, shaped_tup hstr, shaped_tup hstr, _, rfl, ?_⟩
    refine iteQ ((eqv_tups _ _).trans (decide_eq_true rfl)) ?_
    have sm69 := sm68.trans sm9
    have hr19 := sm9 _ _ (sm8 _ _ hr1)
    have hr29 := sm9 _ _ hr2
    refine ⟨_, rfl, _, rfl, false, a, r1, ns, _, rfl, sm69 _ _ ha6, hr19, g, o4, fun HA l rs smA nl hl hp2' => ?_⟩
    have ew : toldP ns (orderBy ns b (ps.set j qn)) = wantP ns.length (ps.set j qn) := by
      have := told_want (ns := ns) (b := b) (rest := goTail ns [b] b (ps.set j qn)) g.nd o2 o3
      rw [o1] at this
      exact this
    rw [ew] at hp2'
    have hatw : (wantP ns.length (ps.set j qn))[j]? = some (qn, ns.length - 1 - j) := by
      unfold wantP
      rw [List.getElem?_map, List.getElem?_range (by rw [List.length_set]; exact hj), Option.map_some, List.getD_eq_getElem?_getD, List.getElem?_set_self hj]
      rfl
    obtain ⟨v, hv⟩ : ∃ v, (rs.map V.ref)[j]? = some v := ⟨_, List.getElem?_eq_getElem (by rw [List.length_map, hp2'.len, wantP, List.length_map, List.length_range, List.length_set]; exact hj)⟩
    obtain ⟨pp, x, rfl, hx, hpp⟩ := hp2'.get hv
    obtain rfl : (qn, ns.length - 1 - j) = x := by rw [hatw] at hx; exact Option.some.inj hx
    refine ⟨_, rfl, l, _, _, _, rfl, rfl, SqT.of hl, atI_at rfl hv, _, rfl, _, rfl, (by show 2 ≤ sizeLine; decide), fun T2 nT2 => ?_⟩
    have smT := same_new (o := .tup [.int (qn : Nat), .int ((ns.length - 1 - j : Nat) : Int)]) nT2
    refine ⟨_, _, .tup (SqT.of (smT _ _ hpp)) (dpi_all [(qn : Int), ((ns.length - 1 - j : Nat) : Int)]), .tup (SqT.of upd_same) (dpi_all [(qn : Int), ((ns.length - 1 - j : Nat) : Int)]), shapedi_tup _, shapedi_tup _, _, rfl, ?_⟩
    refine iteQ ((eqvi_tups _ _).trans (decide_eq_true rfl)) ?_
    have smB := (sm69.trans smA).trans smT
    have hr1B := smT _ _ (smA _ _ hr19)
    have hr2B := smT _ _ (smA _ _ hr29)
    generalize upd HA T2 (.tup [.int (qn : Nat), .int ((ns.length - 1 - j : Nat) : Int)]) = HB at smB hr1B hr2B ⊢
    obtain ⟨w1, x1, x2, wx1, wx2, wne⟩ := orderBy_set g hb hpl hpo hp hql hpq
    refine ⟨_, rfl, _, rfl, _, _, rfl, rfl, _, rfl, ?_⟩
    have eis : (some ((j : Int) + 1)) = some ((j + 1 : Nat) : Int) := rfl
    dsimp only
    refine slA hr1B fun HC q1 smC hq1 => ?_
    rw [eis, cut_take, ← List.map_take, w1] at hq1
    refine ⟨_, rfl, _, rfl, _, _, rfl, rfl, _, rfl, ?_⟩
    dsimp only
    refine slA (smC _ _ hr2B) fun HD q2 smD hq2 => ?_
    rw [eis, cut_take, ← List.map_take] at hq2
    obtain ⟨_, _, p3, _⟩ := order_of g hb hpl hpo
    have hst2 : ∀ y ∈ (orderBy ns b ps).take (j + 1), PyData.strOk y = true := fun y hy => g.str y (p3 y (List.mem_of_mem_take hy))
    refine ⟨_, _, dp_tup (smD _ _ hq1), dp_tup hq2, shaped_tup hst2, shaped_tup hst2, _, rfl, ?_⟩
    rw [eqv_tups, decide_eq_true rfl]
    have hr1D := smD _ _ (smC _ _ hr1B)
    have hr2D := smD _ _ (smC _ _ hr2B)
    refine iteT ⟨_, rfl, _, rfl, _, _, rfl, rfl, r1, _, _, .str x1, rfl, rfl, SqT.of hr1D, atI_at rfl (strs_at wx1), _, rfl, _, rfl, _, _, rfl, rfl, r2, _, _, .str x2, rfl, rfl, SqT.of hr2D, atI_at rfl (strs_at wx2), rfl, ?_⟩
    rw [decide_eq_false (show ¬ V.str x1 = V.str x2 from fun e => wne (by injection e))]
    have smE := (smB.trans smC).trans smD
    exact q _ (m12.trans (Mod.of (sm26.trans smE))) ((st2.same sm26).same smE)
end
end K05
namespace K05
open PySem PySem.Spec PyProof.Rows L2 GL
section
variable {P : Program} {w : World} {K : PySem.W.Frag} {mg : Str → Option Value} {base : Heap}
theorem ok_law (T : Tx K mg) : FnOk P w K mg base CX0 9 T.a_law T.fd_law P_law (spLaw K) := by
  refine T.F_law.ok sc_law (fun vs H Q E h => ?_) (fun cdv A outer s H vs Q E hr h => ?_)
  · obtain ⟨a, ns, rfl, _⟩ := h
    rfl
  · obtain ⟨a, ns, rfl, ha, hl, q⟩ := h
    have hu := hu_of hr
    refine ⟨_, (pss_cons (ps_set (i := 1) sc_law.nd rfl (.inr rfl) (pe_call (ok_l_state T) (hr.mono (by decide)) (by rfl) T.g_l_state T.F_l_state.kp T.b_l_state .nil pass0 (pa_cons (pv 0) pa_nil)))
      (pss_cons (ps_for PassesOwn.never rfl (pi_range1 (by rfl) T.m_range (pa_cons pe_int pa_nil)) (pg_name (i := 2) sc_law.nd rfl (.inl rfl))
       (pss_cons (ps_set (i := 3) sc_law.nd rfl (.inr rfl) (pe_ix ix_list (pe_lst (pa_cons pe_int (pa_cons pe_int (pa_cons pe_int (pa_cons (pe_op op_add pe_int (pe_call (ok_l_draw T) (hr.mono (by decide)) (by rfl) T.g_l_draw T.F_l_draw.kp T.b_l_draw .nil pass0 (pa_cons (pv 1) (pa_cons pe_int pa_nil)))) pa_nil))))) (pe_call (ok_l_draw T) (hr.mono (by decide)) (by rfl) T.g_l_draw T.F_l_draw.kp T.b_l_draw .nil pass0 (pa_cons (pv 1) (pa_cons pe_int pa_nil))) (fun _ _ => rfl)))
        (pss_cons (ps_set (i := 4) sc_law.nd rfl (.inl rfl) (pe_call (ok_l_labels T) (hr.mono (by decide)) (by rfl) T.g_l_labels T.F_l_labels.kp T.b_l_labels .nil pass0 (pa_cons (pv 1) (pa_cons (pv 3) pa_nil))))
        (pss_cons (ps_par (i := 5) (j := 6) (by rfl) sc_law.nd rfl rfl (by decide) rfl rfl (pa_cons (pe_callTy call_tuple_of (by rfl) T.m_tuple (by decide +kernel) (pa_cons (pe_call (ok_l_shuffled T) (hr.mono (by decide)) (by rfl) T.g_l_shuffled T.F_l_shuffled.kp T.b_l_shuffled .nil pass0 (pa_cons (pv 1) (pa_cons (pv 4) pa_nil))) pa_nil)) (pa_cons (pe_callTy call_list_of (by rfl) T.m_list (by decide +kernel) (pa_cons (pv 4) pa_nil)) pa_nil)) (by rfl))
        (pss_cons (ps_set (i := 7) sc_law.nd rfl (.inl rfl) (pe_call (ok_l_indexes T) (hr.mono (by decide)) (by rfl) T.g_l_indexes T.F_l_indexes.kp T.b_l_indexes .nil pass0 (pa_cons (pv 4) (pa_cons (pv 5) pa_nil))))
        (pss_cons (ps_set (i := 8) sc_law.nd rfl (.inl rfl) (pe_callTy call_tuple_of (by rfl) T.m_tuple (by decide +kernel) (pa_cons (pe_lc (own := [("_law_at", 11), ("_law_place", 12)]) (g := gTup K 2 (gCons (gName 11) (gCons (gName 12) gNil))) (tt := tYes) rfl sc_law.nd (pi_enumT (by rfl) T.m_enumerate (pa_cons (pv 7) pa_nil)) (blkOk_by (N := N_law) (sc := defScope s_law) (by decide +kernel)) (fun _ _ _ _ _ => pg_tup (by rfl) (pgs_cons (pg_name (i := 11) sc_law.nd rfl (Or.inl rfl)) (pgs_cons (pg_name (i := 12) sc_law.nd rfl (Or.inl rfl)) pgs_nil))) (fun _ _ _ _ _ => pts_nil) (fun _ _ _ _ _ => (pe_tup (pa_cons (pv 12) (pa_cons (pe_op op_sub (pe_op op_sub (pv 3) pe_int) (pv 11)) pa_nil))))) pa_nil)))
        (pss_cons (ps_if (PW.pt (pw_or (pt_not (pt_val (pe_call (ok_l_exact T) (hr.mono (by decide)) (by rfl) T.g_l_exact T.F_l_exact.kp T.b_l_exact .nil pass0 (pa_cons (pe_call (ok_rests_of T) (hr.mono (by decide)) (by rfl) T.g_rests_of T.F_rests_of.kp T.b_rests_of .nil pass0 (pa_cons (pv 4) (pa_cons (pv 5) pa_nil))) (pa_cons (pv 8) pa_nil))))) (pw_or1 (pt_cmpR (op_neD hr.units) (pe_call (ok_rests_of T) (hr.mono (by decide)) (by rfl) T.g_rests_of T.F_rests_of.kp T.b_rests_of .nil pass0 (pa_cons (pe_callTy call_tupleF (by rfl) T.m_tuple (by decide +kernel) (pa_cons (pv 4) pa_nil)) (pa_cons (pv 5) pa_nil))) (pv 8) (nomark _)))))
         (pss_one (ps_ret pe_bl))
         pss_nil)
        (pss_cons (ps_if (PW.pt (pw_or (pt_cmpR (op_neD hr.units) (pe_call (ok_order_by T) (hr.mono (by decide)) (by rfl) T.g_order_by T.F_order_by.kp T.b_order_by .nil pass0 (pa_cons (pv 4) (pa_cons (pe_ix ix_tup (pv 5) pe_int (fun _ _ => rfl)) (pa_cons (pv 7) pa_nil)))) (pv 5) (nomark _)) (pw_or1 (pt_cmpR (op_neD hr.units) (pe_call (ok_order_by T) (hr.mono (by decide)) (by rfl) T.g_order_by T.F_order_by.kp T.b_order_by .nil pass0 (pa_cons (pe_callTy call_tupleF (by rfl) T.m_tuple (by decide +kernel) (pa_cons (pv 4) pa_nil)) (pa_cons (pe_ix ix_tup (pv 5) pe_int (fun _ _ => rfl)) (pa_cons (pv 7) pa_nil)))) (pv 5) (nomark _)))))
         (pss_one (ps_ret pe_bl))
         pss_nil)
        (pss_cons (ps_if (PW.pt (pw_or (pt_cmpR (op_neD hr.units) (pe_callK0 (ok_order_by T) (hr.mono (by decide)) (by rfl) T.g_order_by T.F_order_by.kp T.kb_order_by pass0 (pk_cons (pe_ix ix_tup (pv 5) pe_int (fun _ _ => rfl)) (pk_cons (pv 7) (pk_cons (pv 4) pk_nil)))) (pv 5) (nomark _)) (pw_or1 (pt_cmpR (op_neD hr.units) (pe_callK0 (ok_rests_of T) (hr.mono (by decide)) (by rfl) T.g_rests_of T.F_rests_of.kp T.kb_rests_of pass0 (pk_cons (pv 5) (pk_cons (pv 4) pk_nil))) (pv 8) (nomark _)))))
         (pss_one (ps_ret pe_bl))
         pss_nil)
        (pss_cons (ps_set (i := 9) sc_law.nd rfl (.inl rfl) (pe_callTy call_tuple_of (by rfl) T.m_tuple (by decide +kernel) (pa_cons (pe_lc (own := [("_law_at", 11)]) (g := gName 11) (tt := tYes) rfl sc_law.nd (pi_range1 (by rfl) T.m_range (pa_cons (pe_op op_sub (pv 3) pe_int) pa_nil)) (blkOk_by (N := N_law) (sc := defScope s_law) (by decide +kernel)) (fun _ _ _ _ _ => pg_name (i := 11) sc_law.nd rfl (Or.inl rfl)) (fun _ _ _ _ _ => pts_nil) (fun _ _ _ _ _ => (pe_call (ok_l_draw T) (hr.mono (by decide)) (by rfl) T.g_l_draw T.F_l_draw.kp T.b_l_draw .nil pass0 (pa_cons (pv 1) (pa_cons (pe_op op_sub (pe_op op_sub (pv 3) pe_int) (pv 11)) pa_nil))))) pa_nil)))
        (pss_cons (ps_set (i := 10) sc_law.nd rfl (.inl rfl) (pe_call (ok_order_by T) (hr.mono (by decide)) (by rfl) T.g_order_by T.F_order_by.kp T.b_order_by .nil pass0 (pa_cons (pv 4) (pa_cons (pe_ix ix_tup (pv 5) (pe_un un_neg pe_int) (fun _ _ => rfl)) (pa_cons (pv 9) pa_nil)))))
        (pss_cons (ps_if (PW.pt (pw_or (pt_not (pt_val (pe_callB call_isi (by rfl) T.m_isinstance (by decide +kernel) (pa_cons (pv 10) (pa_cons (pe_bltn (v := .ty "tuple") (by rfl) T.m_tuple (by decide +kernel) rfl) pa_nil))))) (pw_or1 (pt_cmpR (op_neD hr.units) (pv 10) (pe_call (ok_l_decoded T) (hr.mono (by decide)) (by rfl) T.g_l_decoded T.F_l_decoded.kp T.b_l_decoded .nil pass0 (pa_cons (pv 4) (pa_cons (pe_ix ix_tup (pv 5) (pe_un un_neg pe_int) (fun _ _ => rfl)) (pa_cons (pv 9) pa_nil)))) (nomark _)))))
         (pss_one (ps_ret pe_bl))
         pss_nil)
        (pss_cons (ps_if (PW.pt (pw_or (pt_cmpR (op_neD hr.units) (pe_callTy call_tuple_of (by rfl) T.m_tuple (by decide +kernel) (pa_cons (pe_lc (own := [("_law_place", 12), ("_law_size", 13)]) (g := gTup K 2 (gCons (gName 12) (gCons (gName 13) gNil))) (tt := tYes) rfl sc_law.nd (pi_tup (pe_call (ok_rests_of T) (hr.mono (by decide)) (by rfl) T.g_rests_of T.F_rests_of.kp T.b_rests_of .nil pass0 (pa_cons (pv 4) (pa_cons (pv 10) pa_nil)))) (blkOk_by (N := N_law) (sc := defScope s_law) (by decide +kernel)) (fun _ _ _ _ _ => pg_tup (by rfl) (pgs_cons (pg_name (i := 12) sc_law.nd rfl (Or.inl rfl)) (pgs_cons (pg_name (i := 13) sc_law.nd rfl (Or.inl rfl)) pgs_nil))) (fun _ _ _ _ _ => pts_nil) (fun _ _ _ _ _ => (pv 12))) pa_nil)) (pv 9) (nomark _)) (pw_or1 (pt_cmpR (op_neD hr.units) (pv 4) (pv 6) (nomark _)))))
         (pss_one (ps_ret pe_bl))
         pss_nil)
        (pss_one (ps_if (pt_not (pt_val (pe_call (ok_l_otherwise T) (hr.mono (by decide)) (by rfl) T.g_l_otherwise T.F_l_otherwise.kp T.b_l_otherwise .nil pass0 (pa_cons (pv 1) (pa_cons (pv 4) (pa_cons (pe_ix ix_tup (pv 5) (pe_un un_neg pe_int) (fun _ _ => rfl)) (pa_cons (pv 9) pa_nil)))))))
         (pss_one (ps_ret pe_bl))
         pss_nil)))))))))))))))
      (pss_one (ps_ret pe_bl)))), ?_⟩
    refine ⟨_, rfl, a, ns, rfl, ha, hl, fun H1 S C sm1 nS nC st1 => ?_⟩
    refine ⟨_, rfl, by decide, by decide, ?_⟩
    refine for_range (lo := 0) (n := 3) (fun i σ H2 => (∃ u2 u3 u4 u5 u6 u7 u8 u9 u10, σ = [some (.ref a), some (.ref S), u2, u3, u4, u5, u6, u7, u8, u9, u10, none, none, none]) ∧ StOk H2 S C)
      ⟨⟨none, none, none, none, none, none, none, none, none, rfl⟩, st1⟩ (fun i σ H2 hi hP => ?_) (fun σ H2 hP => q H2)
    obtain ⟨⟨u2, u3, u4, u5, u6, u7, u8, u9, u10, rfl⟩, st2⟩ := hP
    refine ⟨_, rfl, S, C, _, rfl, by decide, by decide, st2, fun H3 d m3 st3 d0 d1 => ?_⟩
    refine ⟨_, _, rfl, rfl, (by show 4 ≤ sizeLine; decide), fun p4 np4 => ?_⟩
    have st3' := st3.same (same_new (o := .lst [.int 2, .int 3, .int 12, .int (2 + d)]) np4)
    refine ⟨_, rfl, S, C, _, rfl, by decide, by decide, st3', fun H4 e m4 st4 e0 e1 => ?_⟩
    have hp4 : H4 p4 = some (.lst [.int 2, .int 3, .int 12, .int (2 + d)]) := m4 _ _ upd_same (st3.neS np4) (st3.neC np4)
    obtain ⟨m, hm2, hm12, hget⟩ : ∃ m : Int, 2 ≤ m ∧ m ≤ 12 ∧ atI [V.int 2, V.int 3, V.int 12, V.int (2 + d)] e = some (.int m) := by
      rcases (show e = 0 ∨ e = 1 ∨ e = 2 ∨ e = 3 by omega) with rfl | rfl | rfl | rfl
      · exact ⟨2, by omega, by omega, rfl⟩
      · exact ⟨3, by omega, by omega, rfl⟩
      · exact ⟨12, by omega, by omega, rfl⟩
      · exact ⟨2 + d, by omega, by omega, rfl⟩
    refine ⟨p4, _, _, _, rfl, rfl, SqL.of hp4, hget, ?_⟩
    refine ⟨_, rfl, _, rfl, S, C, m, rfl, by omega, by omega, st4, fun H5 p ys m5 st5 np hp hlen hnd hok => ?_⟩
    have g : GoodNs ys := ⟨by omega, by omega, hnd, hok⟩
    have l12 := g.twelve
    have l2 := g.two
    have hmy : m = (ys.length : Int) := by omega
    subst hmy
    clear hget hp4 hlen
    refine ⟨_, rfl, _, rfl, S, C, p, ys, rfl, st5, hp, by omega, g.str, fun H6 l zs m6 st6 nl hl6 pm => ?_⟩
    refine ⟨l, _, rfl, .inl ⟨SqL.of hl6, fun t nt => ?_⟩⟩
    have hp6 := m6.strs st5 hp
    have smt := same_new (o := .tup (zs.map V.str)) nt
    refine ⟨_, rfl, p, _, rfl, .inl (SqL.of (smt _ _ hp6)), fun k nk => ?_⟩
    have smk := same_new (o := .lst (ys.map V.str)) nk
    have st7 := (st6.same smt).same smk
    have hp7 := smk _ _ (smt _ _ hp6)
    have ht7 := smk _ _ (show (upd H6 t (.tup (zs.map V.str))) t = some (.tup (zs.map V.str)) from upd_same)
    have hk7 : (upd (upd H6 t (.tup (zs.map V.str))) k (.lst (ys.map V.str))) k = some (.lst (ys.map V.str)) := upd_same
    generalize upd (upd H6 t (.tup (zs.map V.str))) k (.lst (ys.map V.str)) = H7 at st7 hp7 ht7 hk7 ⊢
    obtain ⟨b, rest, rfl⟩ : ∃ b rest, zs = b :: rest := by
      cases zs with
      | nil =>
        have := pm.length_eq
        rw [List.length_nil] at this
        omega
      | cons b rest => exact ⟨b, rest, rfl⟩
    have hznd : (b :: rest).Nodup := pm.nodup_iff.mpr hnd
    have hzs : ∀ y ∈ b :: rest, y ∈ ys := fun y hy => pm.mem_iff.mp hy
    have hb : b ∈ ys := hzs b List.mem_cons_self
    refine ⟨_, _, rfl, _, rfl, _, rfl, p, t, ys, b, rest, rfl, hp7, g, ht7, hznd, hzs, fun H8 r sm8 nr hr8 => ?_⟩
    have hgt := go_told (ns := ys) (rest := rest) (found := [b]) (g := b) hnd hznd hzs
    have hotl : (told ys [b] b rest).length = ys.length - 1 := by
      have := pm.length_eq
      rw [List.length_cons] at this
      rw [told_len]
      omega
    have hoo : orderBy ys b (told ys [b] b rest) = b :: rest := by
      show b :: goTail ys [b] b (told ys [b] b rest) = _
      rw [hgt.1]
    have hpo : PlOk (ys.length - 1) (told ys [b] b rest) := hgt.2
    have hwt := told_want hnd hznd hzs
    generalize told ys [b] b rest = ps at hr8 hotl hoo hpo hwt
    have hp8 := sm8 _ _ hp7
    have ht8 := sm8 _ _ ht7
    have hk8 := sm8 _ _ hk7
    have st8 := st7.same sm8
    clear hgt
    refine ⟨_, rfl, r, _, rfl, SqT.of hr8, fun D nD => ?_⟩
    refine lc_it (walk_enumT (K := K) (a := r) (xs := (nz ps).map V.int)) (fun j H9 => Same H8 H9 ∧ ∃ rs : List Addr, H9 D = some (.lst (rs.map V.ref)) ∧ PairL H9 rs ((wantP ys.length ps).take j) ∧ rs.length = j) ⟨same_new nD, [], upd_same, .nil, rfl⟩ (fun j H9 _ hP => SqT.of (hP.1 _ _ hr8)) (fun j x H9 HA hj hP hY => ?_) (fun H9 hP => ?_)
    · obtain ⟨sm9, rs, hD, hpr, hrl⟩ := hP
      obtain ⟨T2, x1, x2, rfl, nT, rfl, h1, h2⟩ := hY
      obtain rfl : V.int (j : Nat) = x1 := Option.some.inj h1
      obtain ⟨z, hz, rfl⟩ := of_ints_at h2
      obtain ⟨pl, rfl, hpp⟩ : ∃ pl : Nat, z = (pl : Int) ∧ ps[j]? = some pl := by
        rw [nz, List.getElem?_map] at hz
        obtain ⟨pl, h1, h2⟩ := Option.map_eq_some_iff.mp hz
        exact ⟨pl, h2.symm, h1⟩
      have hjl : j < ps.length := (List.getElem?_eq_some_iff.mp hpp).1
      have smT := same_new (o := .tup [.int (j : Nat), .int (pl : Nat)]) nT
      refine ⟨T2, _, rfl, SqT.of upd_same, rfl, _, _, rfl, _, _, rfl, rfl, rfl, _, rfl, _, rfl, _, _, rfl, rfl, _, rfl, _, _, rfl, rfl, (by show 2 ≤ sizeLine; decide), fun T3 nT3 => ?_⟩
      have smU := same_new (o := .tup [.int (pl : Nat), .int ((ys.length : Int) - 1 - ((j : Nat) : Int))]) nT3
      have hDU := smU _ _ (smT _ _ hD)
      have hTD : T3 ≠ D := fun e => by rw [e, smT _ _ hD] at nT3; cases nT3
      refine ⟨_, hDU, by rw [List.length_map]; exact small_lt (by omega), ((sm9.trans smT).trans smU).own nD, rs ++ [T3], by rw [upd_same, List.map_append]; rfl, ?_, by rw [List.length_append, hrl]; rfl⟩
      have hatw : (wantP ys.length ps)[j]? = some (pl, ys.length - 1 - j) := by
        unfold wantP
        rw [List.getElem?_map, List.getElem?_range hjl, Option.map_some, List.getD_eq_getElem?_getD, hpp]
        rfl
      rw [take_snoc hatw]
      refine Paired.snoc (Paired.mapF (fun p q e => ?_) hpr) ?_
      · rw [upd_ne (ne_of e hD (fun z => nomatch z))]
        exact smU _ _ (smT _ _ e)
      · rw [upd_ne hTD, upd_same]
        dsimp only
        rw [show (ys.length : Int) - 1 - ((j : Nat) : Int) = ((ys.length - 1 - j : Nat) : Int) by omega]
    obtain ⟨sm9, rsw, hD, hpw, _⟩ := hP
    rw [List.take_of_length_le (by rw [List.length_map, nz, List.length_map, wantP, List.length_map, List.length_range]; exact Nat.le_refl _)] at hpw
    refine ⟨D, _, rfl, .inl ⟨SqL.of hD, fun w nw => ?_⟩⟩
    have smw := sm9.trans (same_new (o := .tup (rsw.map V.ref)) nw)
    have hw : (upd H9 w (.tup (rsw.map V.ref))) w = some (.tup (rsw.map V.ref)) := upd_same
    replace hpw := hpw.same (same_new (o := .tup (rsw.map V.ref)) nw)
    replace hp8 := smw _ _ hp8
    replace ht8 := smw _ _ ht8
    replace hk8 := smw _ _ hk8
    replace hr8 := smw _ _ hr8
    replace st8 := st8.same smw
    clear hD sm9
    generalize upd H9 w (.tup (rsw.map V.ref)) = H9 at hw hpw hp8 ht8 hk8 hr8 st8 ⊢
    clear smw nD
    -- the rests
    refine ⟨_, rfl, _, rfl, false, p, t, ys, _, rfl, hp8, ht8, g, pm, fun HA l2 rs2 smA nl2 hl2 hp2 => ?_⟩
    rw [hwt] at hp2
    refine ⟨_, rfl, l2, w, rs2, rsw, _, rfl, hl2, hp2, smA _ _ hw, hpw.same smA, fun HB smB => ⟨true, rfl, ?_⟩⟩
    have sAB := smA.trans smB
    refine ⟨_, rfl, p, _, rfl, SqL.of (sAB _ _ hp8), fun q5 ob nq eo => ?_⟩
    have smq := same_new (o := .frz ob (.tup (ys.map V.str))) nq
    have sAq := sAB.trans smq
    refine ⟨_, rfl, true, q5, t, ys, _, rfl, ⟨ob, eo, upd_same⟩, sAq _ _ ht8, g, pm, fun HC l3 rs3 smC nl3 hl3 hp3 => ?_⟩
    rw [hwt] at hp3
    have sAC := sAq.trans smC
    refine ⟨_, rfl, _, _, .tup (SqT.of hl3) (dp_pairs hp3), .tup (SqT.of (sAC _ _ hw)) (dp_pairs (hpw.same sAC)), pairs_shaped _, pairs_shaped _, _, rfl, ?_⟩
    refine iteQ (pairs_eqv _) ?_
    have hp9 := sAC _ _ hp8
    have ht9 := sAC _ _ ht8
    have hk9 := sAC _ _ hk8
    have hr9 := sAC _ _ hr8
    have hw9 := sAC _ _ hw
    have hpw9 := hpw.same sAC
    have st9 := st8.same sAC
    clear hp8 ht8 hk8 hr8 hw hpw st8 sAC sAB sAq smq smC smB smA hl3 hp3 hl2 hp2 nq nl2 nl3 eo
    have hostr : ∀ y ∈ b :: rest, PyData.strOk y = true := fun y hy => g.str y (hzs y hy)
    -- the orders
    refine ⟨_, rfl, _, rfl, t, _, 0, .str b, rfl, rfl, SqT.of ht9, atI_nat (j := 0) rfl, _, rfl, false, p, r, ys, b, ps, rfl, hp9, g, hb, hr9, hotl, hpo, fun HD r1 smD nr1 hr1 => ?_⟩
    rw [hoo] at hr1
    refine ⟨_, rfl, _, _, dp_tup hr1, dp_tup (smD _ _ ht9), shaped_tup hostr, shaped_tup hostr, _, rfl, ?_⟩
    refine iteQ ((eqv_tups _ _).trans (decide_eq_true rfl)) ?_
    refine ⟨_, rfl, p, _, rfl, SqL.of (smD _ _ hp9), fun q6 ob nq eo => ?_⟩
    have smq := smD.trans (same_new (o := .frz ob (.tup (ys.map V.str))) nq)
    refine ⟨_, rfl, t, _, 0, .str b, rfl, rfl, SqT.of (smq _ _ ht9), atI_nat (j := 0) rfl, _, rfl, true, q6, r, ys, b, ps, rfl, ⟨ob, eo, upd_same⟩, g, hb, smq _ _ hr9, hotl, hpo, fun HE r2 smE nr2 hr2 => ?_⟩
    rw [hoo] at hr2
    have sDE := smq.trans smE
    refine ⟨_, rfl, _, _, dp_tup hr2, dp_tup (sDE _ _ ht9), shaped_tup hostr, shaped_tup hostr, _, rfl, ?_⟩
    refine iteQ ((eqv_tups _ _).trans (decide_eq_true rfl)) ?_
    -- by names
    refine ⟨_, rfl, t, _, 0, .str b, rfl, rfl, SqT.of (sDE _ _ ht9), atI_nat (j := 0) rfl, _, rfl, _, rfl, rfl, false, p, r, ys, b, ps, rfl, sDE _ _ hp9, g, hb, sDE _ _ hr9, hotl, hpo, fun HF r3 smF nr3 hr3 => ?_⟩
    rw [hoo] at hr3
    have sDF := sDE.trans smF
    refine ⟨_, rfl, _, _, dp_tup hr3, dp_tup (sDF _ _ ht9), shaped_tup hostr, shaped_tup hostr, _, rfl, ?_⟩
    refine iteQ ((eqv_tups _ _).trans (decide_eq_true rfl)) ?_
    refine ⟨_, rfl, _, rfl, rfl, false, p, t, ys, _, rfl, sDF _ _ hp9, sDF _ _ ht9, g, pm, fun HG l4 rs4 smG nl4 hl4 hp4 => ?_⟩
    rw [hwt] at hp4
    have sDG := sDF.trans smG
    refine ⟨_, rfl, _, _, .tup (SqT.of hl4) (dp_pairs hp4), .tup (SqT.of (sDG _ _ hw9)) (dp_pairs (hpw9.same sDG)), pairs_shaped _, pairs_shaped _, _, rfl, ?_⟩
    refine iteQ (pairs_eqv _) ?_
    have hpG := sDG _ _ hp9
    have htG := sDG _ _ ht9
    have hkG := sDG _ _ hk9
    have stG := st9.same sDG
    clear hp9 ht9 hk9 hr9 hw9 hpw9 st9 sDG sDF sDE smq smG smF smE smD hr1 hr2 hr3 hl4 hp4 nr1 nr2 nr3 nl4 nq eo
    -- drawn places
    refine ⟨_, rfl, _, _, rfl, rfl, _, rfl, by omega, by omega, fun D2 nD2 => ?_⟩
    have d2S := stG.neS nD2
    have d2C := stG.neC nD2
    refine lc_range (lo := 0) (n := ((ys.length : Int) - 1).toNat) (fun j H9 => Mod S C HG H9 ∧ StOk H9 S C ∧ ∃ ds : List Nat, ds.length = j ∧ H9 D2 = some (.lst ((nz ds).map V.int)) ∧ PlOk (ys.length - 1) ds)
      ⟨Mod.of (same_new nD2), stG.same (same_new nD2), [], rfl, upd_same, trivial⟩ (fun j H9 hj hP => ?_) (fun H9 hP => ?_)
    · obtain ⟨m9, st9, ds, hdl, hD, hdo⟩ := hP
      have hjn : j < ys.length - 1 := by omega
      refine ⟨rfl, _, rfl, _, rfl, _, _, rfl, rfl, _, rfl, _, _, rfl, rfl, S, C, _, rfl, by omega, by rw [show (ys.length : Int) - 1 - (0 + ((j : Nat) : Int)) = ((ys.length - 1 - j : Nat) : Int) by omega]; exact small_nat (by omega), st9, fun HH dd m10 st10 e0 e1 => ?_⟩
      obtain ⟨dn, rfl⟩ := Int.eq_ofNat_of_zero_le e0
      have hDH := m10 _ _ hD d2S d2C
      refine ⟨_, hDH, by rw [List.length_map, nz, List.length_map]; exact small_lt (by omega), (m9.trans m10).own nD2, st10.upd d2S d2C, ds ++ [dn], by rw [List.length_append, hdl]; rfl, ?_, hdo.snoc (by omega)⟩
      rw [upd_same, nz_snoc]
    obtain ⟨m9, st9, ds, hdl, hD, hdo⟩ := hP
    have hdl2 : ds.length = ys.length - 1 := by omega
    refine ⟨D2, _, rfl, .inl ⟨SqL.of hD, fun u nu => ?_⟩⟩
    have smu := same_new (o := .tup ((nz ds).map V.int)) nu
    have pJ := smu _ _ (m9.strs stG hpG)
    have kJ := smu _ _ (m9.strs stG hkG)
    have tJ := smu _ _ (m9.other stG htG (fun _ z => nomatch z))
    have uJ : (upd H9 u (.tup ((nz ds).map V.int))) u = some (.tup ((nz ds).map V.int)) := upd_same
    have stJ := st9.same smu
    generalize upd H9 u (.tup ((nz ds).map V.int)) = HJ at pJ kJ tJ uJ stJ ⊢
    clear hpG hkG htG stG hD st9 m9 smu nu nD2 hdl
    obtain ⟨ini, z, hz⟩ : ∃ ini z, b :: rest = ini ++ [z] := by
      rcases List.eq_nil_or_concat (b :: rest) with h | ⟨ini, z, h⟩
      · cases h
      · exact ⟨ini, z, by rw [h, List.concat_eq_append]⟩
    have hzy : z ∈ ys := hzs z (by rw [hz]; exact List.mem_append_right _ (List.mem_singleton.mpr rfl))
    have hat : atI ((b :: rest).map V.str) (-1) = some (.str z) := by
      rw [hz]
      exact last_s ini z
    obtain ⟨o1, o2, o3, o4⟩ := order_of g hzy hdl2 hdo
    have hst2 : ∀ y ∈ orderBy ys z ds, PyData.strOk y = true := fun y hy => g.str y (o3 y hy)
    refine ⟨_, rfl, _, rfl, 1, rfl, t, _, -1, .str z, rfl, rfl, SqT.of tJ, hat, _, rfl, false, p, u, ys, z, ds, rfl, pJ, g, hzy, uJ, hdl2, hdo, fun HK r1 smK nr1 hr1 => ?_⟩
    refine ⟨_, rfl, _, _, _, _, true, rfl, .ty _, .base (.tup hr1), kit_ty (by decide +kernel), true, rfl, ?_⟩
    refine ⟨_, rfl, _, rfl, _, rfl, 1, rfl, t, _, -1, .str z, rfl, rfl, SqT.of (smK _ _ tJ), hat, _, rfl, p, u, ys, z, ds, rfl, smK _ _ pJ, g, hzy, smK _ _ uJ, hdo, fun HL r2 smL nr2 hr2 => ?_⟩
    refine ⟨_, _, dp_tup (smL _ _ hr1), dp_tup hr2, shaped_tup hst2, shaped_tup hst2, _, rfl, ?_⟩
    refine iteQ ((eqv_tups _ _).trans (decide_eq_true rfl)) ?_
    have sKL := smK.trans smL
    have hr1L := smL _ _ hr1
    -- and back
    refine ⟨_, rfl, _, rfl, false, p, r1, ys, _, rfl, sKL _ _ pJ, hr1L, g, o4, fun HM l5 rs5 smM nl5 hl5 hp5 => ?_⟩
    have ew : toldP ys (orderBy ys z ds) = wantP ys.length ds := by
      have := told_want (ns := ys) (b := z) (rest := goTail ys [z] z ds) g.nd o2 o3
      rw [o1] at this
      exact this
    rw [ew] at hp5
    have sKM := sKL.trans smM
    refine ⟨l5, rfl, ⟨_, SqT.of hl5⟩, fun D3 nD3 => ?_⟩
    refine lc_tup (K := K) (a := l5) (xs := rs5.map V.ref) (fun j H9 => Same HM H9 ∧ H9 D3 = some (.lst ((nz (ds.take j)).map V.int))) ⟨same_new nD3, upd_same⟩ (fun j H9 _ hP => SqT.of (hP.1 _ _ hl5)) (fun j v H9 hv hP => ?_) (fun H9 hP => ?_)
    · obtain ⟨sm9, hD⟩ := hP
      obtain ⟨pp, x, rfl, hx, hpp⟩ := (hp5.same sm9).get hv
      have hjl : j < ds.length := by
        have := (List.getElem?_eq_some_iff.mp hx).1
        rw [wantP, List.length_map, List.length_range] at this
        exact this
      obtain ⟨dj, hdj⟩ : ∃ dj, ds[j]? = some dj := ⟨_, List.getElem?_eq_getElem hjl⟩
      have hx1 : x = (dj, ys.length - 1 - j) := by
        unfold wantP at hx
        rw [List.getElem?_map, List.getElem?_range hjl, Option.map_some, List.getD_eq_getElem?_getD, hdj] at hx
        exact (Option.some.inj hx).symm
      subst hx1
      refine ⟨pp, _, rfl, SqT.of hpp, rfl, _, _, rfl, _, _, rfl, rfl, rfl, _, rfl, _, hD, by rw [List.length_map, nz, List.length_map, List.length_take]; exact small_lt (by omega), sm9.own nD3, ?_⟩
      rw [upd_same, take_snoc hdj, nz_snoc]
    obtain ⟨sm9, hD⟩ := hP
    rw [List.take_of_length_le (by rw [List.length_map, hp5.len, wantP, List.length_map, List.length_range]; exact Nat.le_refl _)] at hD
    refine ⟨D3, _, rfl, .inl ⟨SqL.of hD, fun u2' nu2 => ?_⟩⟩
    have sKN := (sKM.trans sm9).trans (same_new (o := .tup ((nz ds).map V.int)) nu2)
    refine ⟨_, rfl, _, _, .tup (SqT.of upd_same) (dpi_all _), .tup (SqT.of (sKN _ _ uJ)) (dpi_all _), shapedi_tup _, shapedi_tup _, _, rfl, ?_⟩
    refine iteQ ((eqvi_tups _ _).trans (decide_eq_true rfl)) ?_
    generalize upd H9 u2' (.tup ((nz ds).map V.int)) = HN at sKN ⊢
    refine ⟨_, rfl, _, rfl, _, _, dp_list (sKN _ _ pJ), dp_list (sKN _ _ kJ), shaped_list g.str, shaped_list g.str, _, rfl, ?_⟩
    refine iteQ ((eqv_lists _ _).trans (decide_eq_true rfl)) ?_
    refine ⟨_, rfl, _, rfl, _, rfl, 1, rfl, t, _, -1, .str z, rfl, rfl, SqT.of (sKN _ _ tJ), hat, _, rfl, S, C, p, u, ys, z, ds, rfl, stJ.same sKN, sKN _ _ pJ, g, hzy, sKN _ _ uJ, hdl2, hdo, fun HO mO stO => ⟨true, rfl, ?_⟩⟩
    exact ⟨⟨_, _, _, _, _, _, _, _, _, rfl⟩, stO⟩
end
end K05
namespace K05
open PySem PySem.Spec PyProof.Rows L2 GL
theorem all_mk {l : PySem.W.OpenLaw} {w : World} {K : PySem.W.Frag} {h : Heap} {mg : Str → Option Value} {fa : Addr}
    {f_is_number : Addr} {od_is_number an_is_number : Option Addr} {sl_is_number : Array (Option Value)} {oc_is_number kV_is_number dc_is_number pm_is_number cd_is_number ct_is_number : Value}
    {f_is_name : Addr} {od_is_name an_is_name : Option Addr} {sl_is_name : Array (Option Value)} {oc_is_name kV_is_name dc_is_name pm_is_name cd_is_name ct_is_name : Value}
    {f_is_names : Addr} {od_is_names an_is_names : Option Addr} {sl_is_names : Array (Option Value)} {oc_is_names kV_is_names dc_is_names pm_is_names cd_is_names ct_is_names : Value}
    {f_check_names : Addr} {od_check_names an_check_names : Option Addr} {sl_check_names : Array (Option Value)} {oc_check_names kV_check_names dc_check_names pm_check_names cd_check_names ct_check_names : Value}
    {f_check_name : Addr} {od_check_name an_check_name : Option Addr} {sl_check_name : Array (Option Value)} {oc_check_name kV_check_name dc_check_name pm_check_name cd_check_name ct_check_name : Value}
    {f_listed_behind : Addr} {od_listed_behind an_listed_behind : Option Addr} {sl_listed_behind : Array (Option Value)} {oc_listed_behind kV_listed_behind dc_listed_behind pm_listed_behind cd_listed_behind ct_listed_behind : Value}
    {f_who_sit : Addr} {od_who_sit an_who_sit : Option Addr} {sl_who_sit : Array (Option Value)} {oc_who_sit kV_who_sit dc_who_sit pm_who_sit cd_who_sit ct_who_sit : Value}
    {f_is_order : Addr} {od_is_order an_is_order : Option Addr} {sl_is_order : Array (Option Value)} {oc_is_order kV_is_order dc_is_order pm_is_order cd_is_order ct_is_order : Value}
    {f_check_order : Addr} {od_check_order an_check_order : Option Addr} {sl_check_order : Array (Option Value)} {oc_check_order kV_check_order dc_check_order pm_check_order cd_check_order ct_check_order : Value}
    {f_rests_told : Addr} {od_rests_told an_rests_told : Option Addr} {sl_rests_told : Array (Option Value)} {oc_rests_told kV_rests_told dc_rests_told pm_rests_told cd_rests_told ct_rests_told : Value}
    {f_rests_of : Addr} {od_rests_of an_rests_of : Option Addr} {sl_rests_of : Array (Option Value)} {oc_rests_of kV_rests_of dc_rests_of pm_rests_of cd_rests_of ct_rests_of : Value}
    {f_order_by : Addr} {od_order_by an_order_by : Option Addr} {sl_order_by : Array (Option Value)} {oc_order_by kV_order_by dc_order_by pm_order_by cd_order_by ct_order_by : Value}
    {f_is_places : Addr} {od_is_places an_is_places : Option Addr} {sl_is_places : Array (Option Value)} {oc_is_places kV_is_places dc_is_places pm_is_places cd_is_places ct_is_places : Value}
    {f_l_state : Addr} {od_l_state an_l_state : Option Addr} {sl_l_state : Array (Option Value)} {oc_l_state kV_l_state dc_l_state pm_l_state cd_l_state ct_l_state : Value}
    {f_l_draw : Addr} {od_l_draw an_l_draw : Option Addr} {sl_l_draw : Array (Option Value)} {oc_l_draw kV_l_draw dc_l_draw pm_l_draw cd_l_draw ct_l_draw : Value}
    {f_l_pick : Addr} {od_l_pick an_l_pick : Option Addr} {sl_l_pick : Array (Option Value)} {oc_l_pick kV_l_pick dc_l_pick pm_l_pick cd_l_pick ct_l_pick : Value}
    {f_l_labels : Addr} {od_l_labels an_l_labels : Option Addr} {sl_l_labels : Array (Option Value)} {oc_l_labels kV_l_labels dc_l_labels pm_l_labels cd_l_labels ct_l_labels : Value}
    {f_l_shuffled : Addr} {od_l_shuffled an_l_shuffled : Option Addr} {sl_l_shuffled : Array (Option Value)} {oc_l_shuffled kV_l_shuffled dc_l_shuffled pm_l_shuffled cd_l_shuffled ct_l_shuffled : Value}
    {f_l_decoded : Addr} {od_l_decoded an_l_decoded : Option Addr} {sl_l_decoded : Array (Option Value)} {oc_l_decoded kV_l_decoded dc_l_decoded pm_l_decoded cd_l_decoded ct_l_decoded : Value}
    {f_l_indexes : Addr} {od_l_indexes an_l_indexes : Option Addr} {sl_l_indexes : Array (Option Value)} {oc_l_indexes kV_l_indexes dc_l_indexes pm_l_indexes cd_l_indexes ct_l_indexes : Value}
    {f_l_exact : Addr} {od_l_exact an_l_exact : Option Addr} {sl_l_exact : Array (Option Value)} {oc_l_exact kV_l_exact dc_l_exact pm_l_exact cd_l_exact ct_l_exact : Value}
    {f_l_otherwise : Addr} {od_l_otherwise an_l_otherwise : Option Addr} {sl_l_otherwise : Array (Option Value)} {oc_l_otherwise kV_l_otherwise dc_l_otherwise pm_l_otherwise cd_l_otherwise ct_l_otherwise : Value}
    {f_law : Addr} {od_law an_law : Option Addr} {sl_law : Array (Option Value)} {oc_law kV_law dc_law pm_law cd_law ct_law : Value}
    {tk_LETTERS : Tok}
    {tk_LONGEST_NAME : Tok}
    {tk_FEWEST : Tok}
    {tk_MOST : Tok}
    (X : K.In h) (G : h.Ns mainGlobals mg) (hfa : mg "law" = some (.ref fa))
    (a_is_number : PySem.W.nsIn K mainGlobals "is_number" = some (some (.ref f_is_number)))
    (l_is_number : K.lookup f_is_number = some ⟨oc_is_number, od_is_number, .func (PySem.W.fnOf "is_number" "is_number" (defArgs s_is_number) (defBody s_is_number) (defScope s_is_number) .none kV_is_number dc_is_number pm_is_number an_is_number cd_is_number ct_is_number), sl_is_number⟩)
    (c_is_number_ : PySem.W.codeIn K cd_is_number "is_number" = true)
    (k_is_number : PySem.W.keepIn K (.ref f_is_number) = true)
    (a_is_name : PySem.W.nsIn K mainGlobals "is_name" = some (some (.ref f_is_name)))
    (l_is_name : K.lookup f_is_name = some ⟨oc_is_name, od_is_name, .func (PySem.W.fnOf "is_name" "is_name" (defArgs s_is_name) (defBody s_is_name) (defScope s_is_name) .none kV_is_name dc_is_name pm_is_name an_is_name cd_is_name ct_is_name), sl_is_name⟩)
    (c_is_name_ : PySem.W.codeIn K cd_is_name "is_name" = true)
    (k_is_name : PySem.W.keepIn K (.ref f_is_name) = true)
    (a_is_names : PySem.W.nsIn K mainGlobals "is_names" = some (some (.ref f_is_names)))
    (l_is_names : K.lookup f_is_names = some ⟨oc_is_names, od_is_names, .func (PySem.W.fnOf "is_names" "is_names" (defArgs s_is_names) (defBody s_is_names) (defScope s_is_names) .none kV_is_names dc_is_names pm_is_names an_is_names cd_is_names ct_is_names), sl_is_names⟩)
    (c_is_names_ : PySem.W.codeIn K cd_is_names "is_names" = true)
    (k_is_names : PySem.W.keepIn K (.ref f_is_names) = true)
    (a_check_names : PySem.W.nsIn K mainGlobals "check_names" = some (some (.ref f_check_names)))
    (l_check_names : K.lookup f_check_names = some ⟨oc_check_names, od_check_names, .func (PySem.W.fnOf "check_names" "check_names" (defArgs s_check_names) (defBody s_check_names) (defScope s_check_names) .none kV_check_names dc_check_names pm_check_names an_check_names cd_check_names ct_check_names), sl_check_names⟩)
    (c_check_names_ : PySem.W.codeIn K cd_check_names "check_names" = true)
    (k_check_names : PySem.W.keepIn K (.ref f_check_names) = true)
    (a_check_name : PySem.W.nsIn K mainGlobals "check_name" = some (some (.ref f_check_name)))
    (l_check_name : K.lookup f_check_name = some ⟨oc_check_name, od_check_name, .func (PySem.W.fnOf "check_name" "check_name" (defArgs s_check_name) (defBody s_check_name) (defScope s_check_name) .none kV_check_name dc_check_name pm_check_name an_check_name cd_check_name ct_check_name), sl_check_name⟩)
    (c_check_name_ : PySem.W.codeIn K cd_check_name "check_name" = true)
    (k_check_name : PySem.W.keepIn K (.ref f_check_name) = true)
    (a_listed_behind : PySem.W.nsIn K mainGlobals "listed_behind" = some (some (.ref f_listed_behind)))
    (l_listed_behind : K.lookup f_listed_behind = some ⟨oc_listed_behind, od_listed_behind, .func (PySem.W.fnOf "listed_behind" "listed_behind" (defArgs s_listed_behind) (defBody s_listed_behind) (defScope s_listed_behind) .none kV_listed_behind dc_listed_behind pm_listed_behind an_listed_behind cd_listed_behind ct_listed_behind), sl_listed_behind⟩)
    (c_listed_behind_ : PySem.W.codeIn K cd_listed_behind "listed_behind" = true)
    (k_listed_behind : PySem.W.keepIn K (.ref f_listed_behind) = true)
    (a_who_sit : PySem.W.nsIn K mainGlobals "who_sit" = some (some (.ref f_who_sit)))
    (l_who_sit : K.lookup f_who_sit = some ⟨oc_who_sit, od_who_sit, .func (PySem.W.fnOf "who_sit" "who_sit" (defArgs s_who_sit) (defBody s_who_sit) (defScope s_who_sit) .none kV_who_sit dc_who_sit pm_who_sit an_who_sit cd_who_sit ct_who_sit), sl_who_sit⟩)
    (c_who_sit_ : PySem.W.codeIn K cd_who_sit "who_sit" = true)
    (k_who_sit : PySem.W.keepIn K (.ref f_who_sit) = true)
    (a_is_order : PySem.W.nsIn K mainGlobals "is_order" = some (some (.ref f_is_order)))
    (l_is_order : K.lookup f_is_order = some ⟨oc_is_order, od_is_order, .func (PySem.W.fnOf "is_order" "is_order" (defArgs s_is_order) (defBody s_is_order) (defScope s_is_order) .none kV_is_order dc_is_order pm_is_order an_is_order cd_is_order ct_is_order), sl_is_order⟩)
    (c_is_order_ : PySem.W.codeIn K cd_is_order "is_order" = true)
    (k_is_order : PySem.W.keepIn K (.ref f_is_order) = true)
    (a_check_order : PySem.W.nsIn K mainGlobals "check_order" = some (some (.ref f_check_order)))
    (l_check_order : K.lookup f_check_order = some ⟨oc_check_order, od_check_order, .func (PySem.W.fnOf "check_order" "check_order" (defArgs s_check_order) (defBody s_check_order) (defScope s_check_order) .none kV_check_order dc_check_order pm_check_order an_check_order cd_check_order ct_check_order), sl_check_order⟩)
    (c_check_order_ : PySem.W.codeIn K cd_check_order "check_order" = true)
    (k_check_order : PySem.W.keepIn K (.ref f_check_order) = true)
    (a_rests_told : PySem.W.nsIn K mainGlobals "rests_told" = some (some (.ref f_rests_told)))
    (l_rests_told : K.lookup f_rests_told = some ⟨oc_rests_told, od_rests_told, .func (PySem.W.fnOf "rests_told" "rests_told" (defArgs s_rests_told) (defBody s_rests_told) (defScope s_rests_told) .none kV_rests_told dc_rests_told pm_rests_told an_rests_told cd_rests_told ct_rests_told), sl_rests_told⟩)
    (c_rests_told_ : PySem.W.codeIn K cd_rests_told "rests_told" = true)
    (k_rests_told : PySem.W.keepIn K (.ref f_rests_told) = true)
    (a_rests_of : PySem.W.nsIn K mainGlobals "rests_of" = some (some (.ref f_rests_of)))
    (l_rests_of : K.lookup f_rests_of = some ⟨oc_rests_of, od_rests_of, .func (PySem.W.fnOf "rests_of" "rests_of" (defArgs s_rests_of) (defBody s_rests_of) (defScope s_rests_of) .none kV_rests_of dc_rests_of pm_rests_of an_rests_of cd_rests_of ct_rests_of), sl_rests_of⟩)
    (c_rests_of_ : PySem.W.codeIn K cd_rests_of "rests_of" = true)
    (k_rests_of : PySem.W.keepIn K (.ref f_rests_of) = true)
    (a_order_by : PySem.W.nsIn K mainGlobals "order_by" = some (some (.ref f_order_by)))
    (l_order_by : K.lookup f_order_by = some ⟨oc_order_by, od_order_by, .func (PySem.W.fnOf "order_by" "order_by" (defArgs s_order_by) (defBody s_order_by) (defScope s_order_by) .none kV_order_by dc_order_by pm_order_by an_order_by cd_order_by ct_order_by), sl_order_by⟩)
    (c_order_by_ : PySem.W.codeIn K cd_order_by "order_by" = true)
    (k_order_by : PySem.W.keepIn K (.ref f_order_by) = true)
    (a_is_places : PySem.W.nsIn K mainGlobals "_is_places" = some (some (.ref f_is_places)))
    (l_is_places : K.lookup f_is_places = some ⟨oc_is_places, od_is_places, .func (PySem.W.fnOf "_is_places" "_is_places" (defArgs s_is_places) (defBody s_is_places) (defScope s_is_places) .none kV_is_places dc_is_places pm_is_places an_is_places cd_is_places ct_is_places), sl_is_places⟩)
    (c_is_places_ : PySem.W.codeIn K cd_is_places "_is_places" = true)
    (k_is_places : PySem.W.keepIn K (.ref f_is_places) = true)
    (a_l_state : PySem.W.nsIn K mainGlobals "_law_state" = some (some (.ref f_l_state)))
    (l_l_state : K.lookup f_l_state = some ⟨oc_l_state, od_l_state, .func (PySem.W.fnOf "_law_state" "_law_state" (defArgs s_l_state) (defBody s_l_state) (defScope s_l_state) .none kV_l_state dc_l_state pm_l_state an_l_state cd_l_state ct_l_state), sl_l_state⟩)
    (c_l_state_ : PySem.W.codeIn K cd_l_state "_law_state" = true)
    (k_l_state : PySem.W.keepIn K (.ref f_l_state) = true)
    (a_l_draw : PySem.W.nsIn K mainGlobals "_law_draw" = some (some (.ref f_l_draw)))
    (l_l_draw : K.lookup f_l_draw = some ⟨oc_l_draw, od_l_draw, .func (PySem.W.fnOf "_law_draw" "_law_draw" (defArgs s_l_draw) (defBody s_l_draw) (defScope s_l_draw) .none kV_l_draw dc_l_draw pm_l_draw an_l_draw cd_l_draw ct_l_draw), sl_l_draw⟩)
    (c_l_draw_ : PySem.W.codeIn K cd_l_draw "_law_draw" = true)
    (k_l_draw : PySem.W.keepIn K (.ref f_l_draw) = true)
    (a_l_pick : PySem.W.nsIn K mainGlobals "_law_pick" = some (some (.ref f_l_pick)))
    (l_l_pick : K.lookup f_l_pick = some ⟨oc_l_pick, od_l_pick, .func (PySem.W.fnOf "_law_pick" "_law_pick" (defArgs s_l_pick) (defBody s_l_pick) (defScope s_l_pick) .none kV_l_pick dc_l_pick pm_l_pick an_l_pick cd_l_pick ct_l_pick), sl_l_pick⟩)
    (c_l_pick_ : PySem.W.codeIn K cd_l_pick "_law_pick" = true)
    (k_l_pick : PySem.W.keepIn K (.ref f_l_pick) = true)
    (a_l_labels : PySem.W.nsIn K mainGlobals "_law_labels" = some (some (.ref f_l_labels)))
    (l_l_labels : K.lookup f_l_labels = some ⟨oc_l_labels, od_l_labels, .func (PySem.W.fnOf "_law_labels" "_law_labels" (defArgs s_l_labels) (defBody s_l_labels) (defScope s_l_labels) .none kV_l_labels dc_l_labels pm_l_labels an_l_labels cd_l_labels ct_l_labels), sl_l_labels⟩)
    (c_l_labels_ : PySem.W.codeIn K cd_l_labels "_law_labels" = true)
    (k_l_labels : PySem.W.keepIn K (.ref f_l_labels) = true)
    (a_l_shuffled : PySem.W.nsIn K mainGlobals "_law_shuffled" = some (some (.ref f_l_shuffled)))
    (l_l_shuffled : K.lookup f_l_shuffled = some ⟨oc_l_shuffled, od_l_shuffled, .func (PySem.W.fnOf "_law_shuffled" "_law_shuffled" (defArgs s_l_shuffled) (defBody s_l_shuffled) (defScope s_l_shuffled) .none kV_l_shuffled dc_l_shuffled pm_l_shuffled an_l_shuffled cd_l_shuffled ct_l_shuffled), sl_l_shuffled⟩)
    (c_l_shuffled_ : PySem.W.codeIn K cd_l_shuffled "_law_shuffled" = true)
    (k_l_shuffled : PySem.W.keepIn K (.ref f_l_shuffled) = true)
    (a_l_decoded : PySem.W.nsIn K mainGlobals "_law_decoded" = some (some (.ref f_l_decoded)))
    (l_l_decoded : K.lookup f_l_decoded = some ⟨oc_l_decoded, od_l_decoded, .func (PySem.W.fnOf "_law_decoded" "_law_decoded" (defArgs s_l_decoded) (defBody s_l_decoded) (defScope s_l_decoded) .none kV_l_decoded dc_l_decoded pm_l_decoded an_l_decoded cd_l_decoded ct_l_decoded), sl_l_decoded⟩)
    (c_l_decoded_ : PySem.W.codeIn K cd_l_decoded "_law_decoded" = true)
    (k_l_decoded : PySem.W.keepIn K (.ref f_l_decoded) = true)
    (a_l_indexes : PySem.W.nsIn K mainGlobals "_law_indexes" = some (some (.ref f_l_indexes)))
    (l_l_indexes : K.lookup f_l_indexes = some ⟨oc_l_indexes, od_l_indexes, .func (PySem.W.fnOf "_law_indexes" "_law_indexes" (defArgs s_l_indexes) (defBody s_l_indexes) (defScope s_l_indexes) .none kV_l_indexes dc_l_indexes pm_l_indexes an_l_indexes cd_l_indexes ct_l_indexes), sl_l_indexes⟩)
    (c_l_indexes_ : PySem.W.codeIn K cd_l_indexes "_law_indexes" = true)
    (k_l_indexes : PySem.W.keepIn K (.ref f_l_indexes) = true)
    (a_l_exact : PySem.W.nsIn K mainGlobals "_law_exact" = some (some (.ref f_l_exact)))
    (l_l_exact : K.lookup f_l_exact = some ⟨oc_l_exact, od_l_exact, .func (PySem.W.fnOf "_law_exact" "_law_exact" (defArgs s_l_exact) (defBody s_l_exact) (defScope s_l_exact) .none kV_l_exact dc_l_exact pm_l_exact an_l_exact cd_l_exact ct_l_exact), sl_l_exact⟩)
    (c_l_exact_ : PySem.W.codeIn K cd_l_exact "_law_exact" = true)
    (k_l_exact : PySem.W.keepIn K (.ref f_l_exact) = true)
    (a_l_otherwise : PySem.W.nsIn K mainGlobals "_law_otherwise" = some (some (.ref f_l_otherwise)))
    (l_l_otherwise : K.lookup f_l_otherwise = some ⟨oc_l_otherwise, od_l_otherwise, .func (PySem.W.fnOf "_law_otherwise" "_law_otherwise" (defArgs s_l_otherwise) (defBody s_l_otherwise) (defScope s_l_otherwise) .none kV_l_otherwise dc_l_otherwise pm_l_otherwise an_l_otherwise cd_l_otherwise ct_l_otherwise), sl_l_otherwise⟩)
    (c_l_otherwise_ : PySem.W.codeIn K cd_l_otherwise "_law_otherwise" = true)
    (k_l_otherwise : PySem.W.keepIn K (.ref f_l_otherwise) = true)
    (a_law : PySem.W.nsIn K mainGlobals "law" = some (some (.ref f_law)))
    (l_law : K.lookup f_law = some ⟨oc_law, od_law, .func (PySem.W.fnOf "law" "law" (defArgs s_law) (defBody s_law) (defScope s_law) .none kV_law dc_law pm_law an_law cd_law ct_law), sl_law⟩)
    (c_law_ : PySem.W.codeIn K cd_law "law" = true)
    (k_law : PySem.W.keepIn K (.ref f_law) = true)
    (z_LETTERS : PySem.W.nsIn K mainGlobals "LETTERS" = some (some (.str "abcdefghijklmnopqrstuvwxyz" tk_LETTERS)))
    (z_LONGEST_NAME : PySem.W.nsIn K mainGlobals "LONGEST_NAME" = some (some (.int 8 tk_LONGEST_NAME)))
    (z_FEWEST : PySem.W.nsIn K mainGlobals "FEWEST" = some (some (.int 2 tk_FEWEST)))
    (z_MOST : PySem.W.nsIn K mainGlobals "MOST" = some (some (.int 12 tk_MOST)))
    (zm_abs : PySem.W.nsIn K mainGlobals "abs" = some none)
    (zm_all : PySem.W.nsIn K mainGlobals "all" = some none)
    (zm_bool : PySem.W.nsIn K mainGlobals "bool" = some none)
    (zm_dict : PySem.W.nsIn K mainGlobals "dict" = some none)
    (zm_enumerate : PySem.W.nsIn K mainGlobals "enumerate" = some none)
    (zm_int : PySem.W.nsIn K mainGlobals "int" = some none)
    (zm_isinstance : PySem.W.nsIn K mainGlobals "isinstance" = some none)
    (zm_len : PySem.W.nsIn K mainGlobals "len" = some none)
    (zm_list : PySem.W.nsIn K mainGlobals "list" = some none)
    (zm_range : PySem.W.nsIn K mainGlobals "range" = some none)
    (zm_set : PySem.W.nsIn K mainGlobals "set" = some none)
    (zm_str : PySem.W.nsIn K mainGlobals "str" = some none)
    (zm_tuple : PySem.W.nsIn K mainGlobals "tuple" = some none) :
    ∃ fd : FuncData, (∀ (s : Shared) (v : Value), BindsTo s fd ⟨[v], []⟩ [("_law_script", v)]) ∧ ∀ base : Heap, K.In base → base.Ns mainGlobals mg → FnOk l.prog w K mg base CX0 9 fa fd ["_law_script"] (spLaw K) := by
  obtain rfl : f_law = fa := (Value.ref.inj (Option.some.inj (hfa.symm.trans (PySem.W.mg_of X G a_law)))).symm
  have F_is_number := fun_mk (st := s_is_number) l_is_number c_is_number_ k_is_number
  have F_is_name := fun_mk (st := s_is_name) l_is_name c_is_name_ k_is_name
  have F_is_names := fun_mk (st := s_is_names) l_is_names c_is_names_ k_is_names
  have F_check_names := fun_mk (st := s_check_names) l_check_names c_check_names_ k_check_names
  have F_check_name := fun_mk (st := s_check_name) l_check_name c_check_name_ k_check_name
  have F_listed_behind := fun_mk (st := s_listed_behind) l_listed_behind c_listed_behind_ k_listed_behind
  have F_who_sit := fun_mk (st := s_who_sit) l_who_sit c_who_sit_ k_who_sit
  have F_is_order := fun_mk (st := s_is_order) l_is_order c_is_order_ k_is_order
  have F_check_order := fun_mk (st := s_check_order) l_check_order c_check_order_ k_check_order
  have F_rests_told := fun_mk (st := s_rests_told) l_rests_told c_rests_told_ k_rests_told
  have F_rests_of := fun_mk (st := s_rests_of) l_rests_of c_rests_of_ k_rests_of
  have F_order_by := fun_mk (st := s_order_by) l_order_by c_order_by_ k_order_by
  have F_is_places := fun_mk (st := s_is_places) l_is_places c_is_places_ k_is_places
  have F_l_state := fun_mk (st := s_l_state) l_l_state c_l_state_ k_l_state
  have F_l_draw := fun_mk (st := s_l_draw) l_l_draw c_l_draw_ k_l_draw
  have F_l_pick := fun_mk (st := s_l_pick) l_l_pick c_l_pick_ k_l_pick
  have F_l_labels := fun_mk (st := s_l_labels) l_l_labels c_l_labels_ k_l_labels
  have F_l_shuffled := fun_mk (st := s_l_shuffled) l_l_shuffled c_l_shuffled_ k_l_shuffled
  have F_l_decoded := fun_mk (st := s_l_decoded) l_l_decoded c_l_decoded_ k_l_decoded
  have F_l_indexes := fun_mk (st := s_l_indexes) l_l_indexes c_l_indexes_ k_l_indexes
  have F_l_exact := fun_mk (st := s_l_exact) l_l_exact c_l_exact_ k_l_exact
  have F_l_otherwise := fun_mk (st := s_l_otherwise) l_l_otherwise c_l_otherwise_ k_l_otherwise
  have F_law := fun_mk (st := s_law) l_law c_law_ k_law
  let T : Tx K mg := {
    a_is_number := f_is_number,
    fd_is_number := PySem.W.fnOf "is_number" "is_number" (defArgs s_is_number) (defBody s_is_number) (defScope s_is_number) .none kV_is_number dc_is_number pm_is_number an_is_number cd_is_number ct_is_number,
    F_is_number := F_is_number,
    b_is_number := F_is_number.binds (ps := P_is_number) fun _ _ _ _ _ _ us hl => match us, hl with | [_], _ => rfl,
    g_is_number := PySem.W.mg_of X G a_is_number,
    a_is_name := f_is_name,
    fd_is_name := PySem.W.fnOf "is_name" "is_name" (defArgs s_is_name) (defBody s_is_name) (defScope s_is_name) .none kV_is_name dc_is_name pm_is_name an_is_name cd_is_name ct_is_name,
    F_is_name := F_is_name,
    b_is_name := F_is_name.binds (ps := P_is_name) fun _ _ _ _ _ _ us hl => match us, hl with | [_], _ => rfl,
    g_is_name := PySem.W.mg_of X G a_is_name,
    a_is_names := f_is_names,
    fd_is_names := PySem.W.fnOf "is_names" "is_names" (defArgs s_is_names) (defBody s_is_names) (defScope s_is_names) .none kV_is_names dc_is_names pm_is_names an_is_names cd_is_names ct_is_names,
    F_is_names := F_is_names,
    b_is_names := F_is_names.binds (ps := P_is_names) fun _ _ _ _ _ _ us hl => match us, hl with | [_], _ => rfl,
    g_is_names := PySem.W.mg_of X G a_is_names,
    a_check_names := f_check_names,
    fd_check_names := PySem.W.fnOf "check_names" "check_names" (defArgs s_check_names) (defBody s_check_names) (defScope s_check_names) .none kV_check_names dc_check_names pm_check_names an_check_names cd_check_names ct_check_names,
    F_check_names := F_check_names,
    b_check_names := F_check_names.binds (ps := P_check_names) fun _ _ _ _ _ _ us hl => match us, hl with | [_], _ => rfl,
    g_check_names := PySem.W.mg_of X G a_check_names,
    a_check_name := f_check_name,
    fd_check_name := PySem.W.fnOf "check_name" "check_name" (defArgs s_check_name) (defBody s_check_name) (defScope s_check_name) .none kV_check_name dc_check_name pm_check_name an_check_name cd_check_name ct_check_name,
    F_check_name := F_check_name,
    b_check_name := F_check_name.binds (ps := P_check_name) fun _ _ _ _ _ _ us hl => match us, hl with | [_, _], _ => rfl,
    g_check_name := PySem.W.mg_of X G a_check_name,
    a_listed_behind := f_listed_behind,
    fd_listed_behind := PySem.W.fnOf "listed_behind" "listed_behind" (defArgs s_listed_behind) (defBody s_listed_behind) (defScope s_listed_behind) .none kV_listed_behind dc_listed_behind pm_listed_behind an_listed_behind cd_listed_behind ct_listed_behind,
    F_listed_behind := F_listed_behind,
    b_listed_behind := F_listed_behind.binds (ps := P_listed_behind) fun _ _ _ _ _ _ us hl => match us, hl with | [_, _], _ => rfl,
    g_listed_behind := PySem.W.mg_of X G a_listed_behind,
    a_who_sit := f_who_sit,
    fd_who_sit := PySem.W.fnOf "who_sit" "who_sit" (defArgs s_who_sit) (defBody s_who_sit) (defScope s_who_sit) .none kV_who_sit dc_who_sit pm_who_sit an_who_sit cd_who_sit ct_who_sit,
    F_who_sit := F_who_sit,
    b_who_sit := F_who_sit.binds (ps := P_who_sit) fun _ _ _ _ _ _ us hl => match us, hl with | [_, _], _ => rfl,
    g_who_sit := PySem.W.mg_of X G a_who_sit,
    a_is_order := f_is_order,
    fd_is_order := PySem.W.fnOf "is_order" "is_order" (defArgs s_is_order) (defBody s_is_order) (defScope s_is_order) .none kV_is_order dc_is_order pm_is_order an_is_order cd_is_order ct_is_order,
    F_is_order := F_is_order,
    b_is_order := F_is_order.binds (ps := P_is_order) fun _ _ _ _ _ _ us hl => match us, hl with | [_, _], _ => rfl,
    g_is_order := PySem.W.mg_of X G a_is_order,
    a_check_order := f_check_order,
    fd_check_order := PySem.W.fnOf "check_order" "check_order" (defArgs s_check_order) (defBody s_check_order) (defScope s_check_order) .none kV_check_order dc_check_order pm_check_order an_check_order cd_check_order ct_check_order,
    F_check_order := F_check_order,
    b_check_order := F_check_order.binds (ps := P_check_order) fun _ _ _ _ _ _ us hl => match us, hl with | [_, _], _ => rfl,
    g_check_order := PySem.W.mg_of X G a_check_order,
    a_rests_told := f_rests_told,
    fd_rests_told := PySem.W.fnOf "rests_told" "rests_told" (defArgs s_rests_told) (defBody s_rests_told) (defScope s_rests_told) .none kV_rests_told dc_rests_told pm_rests_told an_rests_told cd_rests_told ct_rests_told,
    F_rests_told := F_rests_told,
    b_rests_told := F_rests_told.binds (ps := P_rests_told) fun _ _ _ _ _ _ us hl => match us, hl with | [_, _], _ => rfl,
    g_rests_told := PySem.W.mg_of X G a_rests_told,
    a_rests_of := f_rests_of,
    fd_rests_of := PySem.W.fnOf "rests_of" "rests_of" (defArgs s_rests_of) (defBody s_rests_of) (defScope s_rests_of) .none kV_rests_of dc_rests_of pm_rests_of an_rests_of cd_rests_of ct_rests_of,
    F_rests_of := F_rests_of,
    b_rests_of := F_rests_of.binds (ps := P_rests_of) fun _ _ _ _ _ _ us hl => match us, hl with | [_, _], _ => rfl,
    g_rests_of := PySem.W.mg_of X G a_rests_of,
    kb_rests_of := F_rests_of.kbp [1, 0] fun _ _ _ _ _ _ ws l => match ws, l with | [_, _], _ => rfl,
    a_order_by := f_order_by,
    fd_order_by := PySem.W.fnOf "order_by" "order_by" (defArgs s_order_by) (defBody s_order_by) (defScope s_order_by) .none kV_order_by dc_order_by pm_order_by an_order_by cd_order_by ct_order_by,
    F_order_by := F_order_by,
    b_order_by := F_order_by.binds (ps := P_order_by) fun _ _ _ _ _ _ us hl => match us, hl with | [_, _, _], _ => rfl,
    g_order_by := PySem.W.mg_of X G a_order_by,
    kb_order_by := F_order_by.kbp [2, 0, 1] fun _ _ _ _ _ _ ws l => match ws, l with | [_, _, _], _ => rfl,
    a_is_places := f_is_places,
    fd_is_places := PySem.W.fnOf "_is_places" "_is_places" (defArgs s_is_places) (defBody s_is_places) (defScope s_is_places) .none kV_is_places dc_is_places pm_is_places an_is_places cd_is_places ct_is_places,
    F_is_places := F_is_places,
    b_is_places := F_is_places.binds (ps := P_is_places) fun _ _ _ _ _ _ us hl => match us, hl with | [_, _], _ => rfl,
    g_is_places := PySem.W.mg_of X G a_is_places,
    a_l_state := f_l_state,
    fd_l_state := PySem.W.fnOf "_law_state" "_law_state" (defArgs s_l_state) (defBody s_l_state) (defScope s_l_state) .none kV_l_state dc_l_state pm_l_state an_l_state cd_l_state ct_l_state,
    F_l_state := F_l_state,
    b_l_state := F_l_state.binds (ps := P_l_state) fun _ _ _ _ _ _ us hl => match us, hl with | [_], _ => rfl,
    g_l_state := PySem.W.mg_of X G a_l_state,
    a_l_draw := f_l_draw,
    fd_l_draw := PySem.W.fnOf "_law_draw" "_law_draw" (defArgs s_l_draw) (defBody s_l_draw) (defScope s_l_draw) .none kV_l_draw dc_l_draw pm_l_draw an_l_draw cd_l_draw ct_l_draw,
    F_l_draw := F_l_draw,
    b_l_draw := F_l_draw.binds (ps := P_l_draw) fun _ _ _ _ _ _ us hl => match us, hl with | [_, _], _ => rfl,
    g_l_draw := PySem.W.mg_of X G a_l_draw,
    a_l_pick := f_l_pick,
    fd_l_pick := PySem.W.fnOf "_law_pick" "_law_pick" (defArgs s_l_pick) (defBody s_l_pick) (defScope s_l_pick) .none kV_l_pick dc_l_pick pm_l_pick an_l_pick cd_l_pick ct_l_pick,
    F_l_pick := F_l_pick,
    b_l_pick := F_l_pick.binds (ps := P_l_pick) fun _ _ _ _ _ _ us hl => match us, hl with | [_, _], _ => rfl,
    g_l_pick := PySem.W.mg_of X G a_l_pick,
    a_l_labels := f_l_labels,
    fd_l_labels := PySem.W.fnOf "_law_labels" "_law_labels" (defArgs s_l_labels) (defBody s_l_labels) (defScope s_l_labels) .none kV_l_labels dc_l_labels pm_l_labels an_l_labels cd_l_labels ct_l_labels,
    F_l_labels := F_l_labels,
    b_l_labels := F_l_labels.binds (ps := P_l_labels) fun _ _ _ _ _ _ us hl => match us, hl with | [_, _], _ => rfl,
    g_l_labels := PySem.W.mg_of X G a_l_labels,
    a_l_shuffled := f_l_shuffled,
    fd_l_shuffled := PySem.W.fnOf "_law_shuffled" "_law_shuffled" (defArgs s_l_shuffled) (defBody s_l_shuffled) (defScope s_l_shuffled) .none kV_l_shuffled dc_l_shuffled pm_l_shuffled an_l_shuffled cd_l_shuffled ct_l_shuffled,
    F_l_shuffled := F_l_shuffled,
    b_l_shuffled := F_l_shuffled.binds (ps := P_l_shuffled) fun _ _ _ _ _ _ us hl => match us, hl with | [_, _], _ => rfl,
    g_l_shuffled := PySem.W.mg_of X G a_l_shuffled,
    a_l_decoded := f_l_decoded,
    fd_l_decoded := PySem.W.fnOf "_law_decoded" "_law_decoded" (defArgs s_l_decoded) (defBody s_l_decoded) (defScope s_l_decoded) .none kV_l_decoded dc_l_decoded pm_l_decoded an_l_decoded cd_l_decoded ct_l_decoded,
    F_l_decoded := F_l_decoded,
    b_l_decoded := F_l_decoded.binds (ps := P_l_decoded) fun _ _ _ _ _ _ us hl => match us, hl with | [_, _, _], _ => rfl,
    g_l_decoded := PySem.W.mg_of X G a_l_decoded,
    a_l_indexes := f_l_indexes,
    fd_l_indexes := PySem.W.fnOf "_law_indexes" "_law_indexes" (defArgs s_l_indexes) (defBody s_l_indexes) (defScope s_l_indexes) .none kV_l_indexes dc_l_indexes pm_l_indexes an_l_indexes cd_l_indexes ct_l_indexes,
    F_l_indexes := F_l_indexes,
    b_l_indexes := F_l_indexes.binds (ps := P_l_indexes) fun _ _ _ _ _ _ us hl => match us, hl with | [_, _], _ => rfl,
    g_l_indexes := PySem.W.mg_of X G a_l_indexes,
    a_l_exact := f_l_exact,
    fd_l_exact := PySem.W.fnOf "_law_exact" "_law_exact" (defArgs s_l_exact) (defBody s_l_exact) (defScope s_l_exact) .none kV_l_exact dc_l_exact pm_l_exact an_l_exact cd_l_exact ct_l_exact,
    F_l_exact := F_l_exact,
    b_l_exact := F_l_exact.binds (ps := P_l_exact) fun _ _ _ _ _ _ us hl => match us, hl with | [_, _], _ => rfl,
    g_l_exact := PySem.W.mg_of X G a_l_exact,
    a_l_otherwise := f_l_otherwise,
    fd_l_otherwise := PySem.W.fnOf "_law_otherwise" "_law_otherwise" (defArgs s_l_otherwise) (defBody s_l_otherwise) (defScope s_l_otherwise) .none kV_l_otherwise dc_l_otherwise pm_l_otherwise an_l_otherwise cd_l_otherwise ct_l_otherwise,
    F_l_otherwise := F_l_otherwise,
    b_l_otherwise := F_l_otherwise.binds (ps := P_l_otherwise) fun _ _ _ _ _ _ us hl => match us, hl with | [_, _, _, _], _ => rfl,
    g_l_otherwise := PySem.W.mg_of X G a_l_otherwise,
    a_law := f_law,
    fd_law := PySem.W.fnOf "law" "law" (defArgs s_law) (defBody s_law) (defScope s_law) .none kV_law dc_law pm_law an_law cd_law ct_law,
    F_law := F_law,
    b_law := F_law.binds (ps := P_law) fun _ _ _ _ _ _ us hl => match us, hl with | [_], _ => rfl,
    g_law := PySem.W.mg_of X G a_law,
    tk_LETTERS := tk_LETTERS,
    g_LETTERS := PySem.W.mg_of X G z_LETTERS,
    tk_LONGEST_NAME := tk_LONGEST_NAME,
    g_LONGEST_NAME := PySem.W.mg_of X G z_LONGEST_NAME,
    tk_FEWEST := tk_FEWEST,
    g_FEWEST := PySem.W.mg_of X G z_FEWEST,
    tk_MOST := tk_MOST,
    g_MOST := PySem.W.mg_of X G z_MOST,
    m_abs := PySem.W.mg_none_of X G zm_abs,
    m_all := PySem.W.mg_none_of X G zm_all,
    m_bool := PySem.W.mg_none_of X G zm_bool,
    m_dict := PySem.W.mg_none_of X G zm_dict,
    m_enumerate := PySem.W.mg_none_of X G zm_enumerate,
    m_int := PySem.W.mg_none_of X G zm_int,
    m_isinstance := PySem.W.mg_none_of X G zm_isinstance,
    m_len := PySem.W.mg_none_of X G zm_len,
    m_list := PySem.W.mg_none_of X G zm_list,
    m_range := PySem.W.mg_none_of X G zm_range,
    m_set := PySem.W.mg_none_of X G zm_set,
    m_str := PySem.W.mg_none_of X G zm_str,
    m_tuple := PySem.W.mg_none_of X G zm_tuple
  }
  exact ⟨T.fd_law, fun s v => .of_eq rfl, fun base _ _ => ok_law T⟩
end K05
open PySem PySem.W PyProof.Rows
set_option maxRecDepth 100000 in
set_option maxHeartbeats 0 in
theorem PySem.Challenge.cw_goersay_k05_orders_and_places_one_to_one_holds : PySem.Challenge.rw_goersay_k05_orders_and_places_one_to_one.Holds := by
  w_on; o_law; k_head; (case hw => w_witness2)
  k_fill
  refine L2.walk_of (l := PySem.Challenge.rw_goersay_k05_orders_and_places_one_to_one) (n := 63) (k := 9) (x := "_law_script") (CX := fun _ => L2.CX0) (sp := fun w => GL.spLaw _) rfl (by decide) rfl ⟨rfl, by decide, by decide⟩ (fun w h Y => PySem.W.kIn_of Y) ?F (fun _ _ a ns hl _ hS => ⟨a, ns, rfl, hS, hl, fun _ => rfl⟩) (fun _ _ _ _ _ h => h)
  case F =>
    intro w mg fa h KX G hmg
    refine' K05.all_mk KX G hmg ?a_is_number ?l_is_number ?c_is_number_ ?k_is_number ?a_is_name ?l_is_name ?c_is_name_ ?k_is_name ?a_is_names ?l_is_names ?c_is_names_ ?k_is_names ?a_check_names ?l_check_names ?c_check_names_ ?k_check_names ?a_check_name ?l_check_name ?c_check_name_ ?k_check_name ?a_listed_behind ?l_listed_behind ?c_listed_behind_ ?k_listed_behind ?a_who_sit ?l_who_sit ?c_who_sit_ ?k_who_sit ?a_is_order ?l_is_order ?c_is_order_ ?k_is_order ?a_check_order ?l_check_order ?c_check_order_ ?k_check_order ?a_rests_told ?l_rests_told ?c_rests_told_ ?k_rests_told ?a_rests_of ?l_rests_of ?c_rests_of_ ?k_rests_of ?a_order_by ?l_order_by ?c_order_by_ ?k_order_by ?a_is_places ?l_is_places ?c_is_places_ ?k_is_places ?a_l_state ?l_l_state ?c_l_state_ ?k_l_state ?a_l_draw ?l_l_draw ?c_l_draw_ ?k_l_draw ?a_l_pick ?l_l_pick ?c_l_pick_ ?k_l_pick ?a_l_labels ?l_l_labels ?c_l_labels_ ?k_l_labels ?a_l_shuffled ?l_l_shuffled ?c_l_shuffled_ ?k_l_shuffled ?a_l_decoded ?l_l_decoded ?c_l_decoded_ ?k_l_decoded ?a_l_indexes ?l_l_indexes ?c_l_indexes_ ?k_l_indexes ?a_l_exact ?l_l_exact ?c_l_exact_ ?k_l_exact ?a_l_otherwise ?l_l_otherwise ?c_l_otherwise_ ?k_l_otherwise ?a_law ?l_law ?c_law_ ?k_law ?z_LETTERS ?z_LONGEST_NAME ?z_FEWEST ?z_MOST ?zm_abs ?zm_all ?zm_bool ?zm_dict ?zm_enumerate ?zm_int ?zm_isinstance ?zm_len ?zm_list ?zm_range ?zm_set ?zm_str ?zm_tuple
    (case a_is_number => k_is)
    (case l_is_number => k_is)
    (case c_is_number_ => k_is)
    (case k_is_number => k_is)
    (case a_is_name => k_is)
    (case l_is_name => k_is)
    (case c_is_name_ => k_is)
    (case k_is_name => k_is)
    (case a_is_names => k_is)
    (case l_is_names => k_is)
    (case c_is_names_ => k_is)
    (case k_is_names => k_is)
    (case a_check_names => k_is)
    (case l_check_names => k_is)
    (case c_check_names_ => k_is)
    (case k_check_names => k_is)
    (case a_check_name => k_is)
    (case l_check_name => k_is)
    (case c_check_name_ => k_is)
    (case k_check_name => k_is)
    (case a_listed_behind => k_is)
    (case l_listed_behind => k_is)
    (case c_listed_behind_ => k_is)
    (case k_listed_behind => k_is)
    (case a_who_sit => k_is)
    (case l_who_sit => k_is)
    (case c_who_sit_ => k_is)
    (case k_who_sit => k_is)
    (case a_is_order => k_is)
    (case l_is_order => k_is)
    (case c_is_order_ => k_is)
    (case k_is_order => k_is)
    (case a_check_order => k_is)
    (case l_check_order => k_is)
    (case c_check_order_ => k_is)
    (case k_check_order => k_is)
    (case a_rests_told => k_is)
    (case l_rests_told => k_is)
    (case c_rests_told_ => k_is)
    (case k_rests_told => k_is)
    (case a_rests_of => k_is)
    (case l_rests_of => k_is)
    (case c_rests_of_ => k_is)
    (case k_rests_of => k_is)
    (case a_order_by => k_is)
    (case l_order_by => k_is)
    (case c_order_by_ => k_is)
    (case k_order_by => k_is)
    (case a_is_places => k_is)
    (case l_is_places => k_is)
    (case c_is_places_ => k_is)
    (case k_is_places => k_is)
    (case a_l_state => k_is)
    (case l_l_state => k_is)
    (case c_l_state_ => k_is)
    (case k_l_state => k_is)
    (case a_l_draw => k_is)
    (case l_l_draw => k_is)
    (case c_l_draw_ => k_is)
    (case k_l_draw => k_is)
    (case a_l_pick => k_is)
    (case l_l_pick => k_is)
    (case c_l_pick_ => k_is)
    (case k_l_pick => k_is)
    (case a_l_labels => k_is)
    (case l_l_labels => k_is)
    (case c_l_labels_ => k_is)
    (case k_l_labels => k_is)
    (case a_l_shuffled => k_is)
    (case l_l_shuffled => k_is)
    (case c_l_shuffled_ => k_is)
    (case k_l_shuffled => k_is)
    (case a_l_decoded => k_is)
    (case l_l_decoded => k_is)
    (case c_l_decoded_ => k_is)
    (case k_l_decoded => k_is)
    (case a_l_indexes => k_is)
    (case l_l_indexes => k_is)
    (case c_l_indexes_ => k_is)
    (case k_l_indexes => k_is)
    (case a_l_exact => k_is)
    (case l_l_exact => k_is)
    (case c_l_exact_ => k_is)
    (case k_l_exact => k_is)
    (case a_l_otherwise => k_is)
    (case l_l_otherwise => k_is)
    (case c_l_otherwise_ => k_is)
    (case k_l_otherwise => k_is)
    (case a_law => k_is)
    (case l_law => k_is)
    (case c_law_ => k_is)
    (case k_law => k_is)
    (case z_LETTERS => k_is)
    (case z_LONGEST_NAME => k_is)
    (case z_FEWEST => k_is)
    (case z_MOST => k_is)
    (case zm_abs => k_is)
    (case zm_all => k_is)
    (case zm_bool => k_is)
    (case zm_dict => k_is)
    (case zm_enumerate => k_is)
    (case zm_int => k_is)
    (case zm_isinstance => k_is)
    (case zm_len => k_is)
    (case zm_list => k_is)
    (case zm_range => k_is)
    (case zm_set => k_is)
    (case zm_str => k_is)
    (case zm_tuple => k_is)
