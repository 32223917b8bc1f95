import PyProof.Rows.All
import Wide.All
import OpenK.AllK
import Wide.FinOn
import HandS.Base
import HandS.Call
import HandS.List
import HandS.Set
import HandS.Strs
import HandS.Defaults
import HandS.Words
import HandS.ForMost
import HandS.Wide
import HandS.IsInst
import HandS.DictComp
import HandS.More
import HandS.Flow
import HandS.Evl
import HandS.Walk
import HandS.SortInts
import HandS.TupAny
import HandS.Conv
import HandS.Gcd
import HandS.Style
import PySem.Challenge.RW_goersay_k02_rests_by_numbers_gone_throug
set_option Elab.async false
set_option linter.all false
set_option maxRecDepth 100000
set_option maxHeartbeats 4000000
/-! Own rule: len(set(xs)) of a list or tuple of texts, however many (the set itself is looked at by membership alone). -/
namespace GSet
open PySem PySem.Spec PyProof.Rows
/-- the texts met first, in order -/
def firsts (xs : List Str) : List Str := xs.foldl (fun acc x => if x ∈ acc then acc else acc ++ [x]) []
def more (acc : List Str) (x : Str) : List Str := if x ∈ acc then acc else acc ++ [x]
theorem firsts_snoc (xs : List Str) (x : Str) : firsts (xs ++ [x]) = more (firsts xs) x := by
  unfold firsts more
  rw [List.foldl_append]
  rfl
theorem mem_more {acc : List Str} {x y : Str} : y ∈ more acc x ↔ y ∈ acc ∨ y = x := by
  unfold more
  split
  · rename_i h
    exact ⟨.inl, fun z => z.elim id fun e => by rw [e]; exact h⟩
  · rw [List.mem_append, List.mem_singleton]
theorem more_len {acc : List Str} {x : Str} : (more acc x).length = if x ∈ acc then acc.length else acc.length + 1 := by
  unfold more
  split
  · rfl
  · rw [List.length_append]
    rfl
theorem firsts_le : ∀ (n : Nat) (xs : List Str), xs.length = n → (firsts xs).length ≤ n
  | 0, xs, h => by
    have e := List.eq_nil_of_length_eq_zero h
    subst e
    exact Nat.le_refl _
  | n + 1, xs, h => by
    have hne : xs ≠ [] := fun z => by rw [z] at h; cases h
    have ed := List.dropLast_concat_getLast hne
    have il := firsts_le n xs.dropLast (by rw [List.length_dropLast, h]; rfl)
    rw [← ed, firsts_snoc, more_len]
    split <;> omega
theorem more_nodup {acc : List Str} {x : Str} (h : acc.Nodup) : (more acc x).Nodup := by
  unfold more
  split
  · exact h
  · rename_i hx
    rw [List.nodup_append]
    refine ⟨h, List.nodup_cons.mpr ⟨List.not_mem_nil, List.nodup_nil⟩, fun a ha b hb e => ?_⟩
    rw [List.mem_singleton] at hb
    subst hb
    subst e
    exact hx ha
theorem firsts_nodup_eq {xs : List Str} (h : xs.Nodup) : ∀ i, i ≤ xs.length → firsts (xs.take i) = xs.take i
  | 0, _ => rfl
  | i + 1, hi => by
    have hlt : i < xs.length := hi
    have e1 : xs.take (i + 1) = xs.take i ++ [xs[i]] := by
      rw [List.take_succ, List.getElem?_eq_getElem hlt]
      rfl
    rw [e1, firsts_snoc, firsts_nodup_eq h i (Nat.le_of_lt hlt)]
    unfold more
    rw [if_neg]
    intro hm
    obtain ⟨j, hj, ej⟩ := List.mem_iff_getElem.mp hm
    rw [List.getElem_take] at ej
    rw [List.length_take] at hj
    have := (List.getElem_inj h).mp ej
    omega
theorem firsts_of_nodup {xs : List Str} (h : xs.Nodup) : firsts xs = xs := by
  have q := firsts_nodup_eq h xs.length (Nat.le_refl _)
  rwa [List.take_length] at q
theorem firsts_lt_of_dup {xs : List Str} (h : ¬ xs.Nodup) : (firsts xs).length < xs.length := by
  have key : ∀ (n : Nat) (ys : List Str), ys.length = n → ¬ ys.Nodup → (firsts ys).length < n := by
    intro n
    induction n with
    | zero =>
      intro ys hy hn
      have e := List.eq_nil_of_length_eq_zero hy
      subst e
      exact absurd List.nodup_nil hn
    | succ n ih =>
      intro ys hy hn
      have hne : ys ≠ [] := fun z => by rw [z] at hy; cases hy
      have ed := List.dropLast_concat_getLast hne
      have el : ys.dropLast.length = n := by rw [List.length_dropLast, hy]; rfl
      have ef : firsts ys = more (firsts ys.dropLast) (ys.getLast hne) := by rw [← firsts_snoc, ed]
      by_cases hd : ys.dropLast.Nodup
      · have hin : ys.getLast hne ∈ ys.dropLast := by
          refine Classical.byContradiction fun hc => hn ?_
          rw [← ed, List.nodup_append]
          refine ⟨hd, List.nodup_cons.mpr ⟨List.not_mem_nil, List.nodup_nil⟩, fun a ha b hb e => ?_⟩
          rw [List.mem_singleton] at hb
          rw [e, hb] at ha
          exact hc ha
        rw [ef, more_len, firsts_of_nodup hd, if_pos hin]
        omega
      · have := ih _ el hd
        rw [ef, more_len]
        split <;> omega
  exact key _ xs rfl h
theorem firsts_len_iff (xs : List Str) : (firsts xs).length = xs.length ↔ xs.Nodup := by
  refine ⟨fun e => Classical.byContradiction fun h => ?_, fun h => by rw [firsts_of_nodup h]⟩
  have := firsts_lt_of_dup h
  omega

section
variable {prog : Program} {w : World} {A : Around} {R : Result → Shared → Prop} {I : Addr} {fp wr : List Addr} {G : Array GenState → Array GenState → Prop} {n : Nat} {P : Nat → Value → Prop} {St : Nat → Shared → Prop}
/-- what stands in the set behind i items -/
abbrev InSet (prog : Program) (w : World) (h : Heap) (S : Addr) (xs : List Str) (i : Nat) : Prop :=
  h.SetOf (PySem.strKind prog w) S (fun k' => decide (k' ∈ firsts (xs.take i))) (firsts (xs.take i)).length
theorem turns (W : WalksS prog w A.in1 I fp wr G n P St) (S : Addr) (hSf : S ∉ fp) (xs : List Str) (hsz : xs.length = n) (hbig : n + 1 < scanBound)
    (hval : ∀ i v, P i v → ∃ t, v = .str (xs.getD i Str.empty) t) :
    ∀ (k i : Nat) (s : Shared), n - i = k → i ≤ n → St i s → InSet prog w s.heap S xs i →
      (∀ s', Moved (S :: wr) G s s' → InSet prog w s'.heap S xs n → R (.ok (.ret .none)) s') →
      codeAny (model prog w) A (.builtin "set.update.loop" ⟨[.ref S, .ref I], []⟩) R s := by
  have notW : S ∉ wr := fun z => hSf (W.sub _ z)
  have wide : ∀ b ∈ wr, b ∈ S :: wr := fun _ z => List.mem_cons_of_mem _ z
  intro k
  induction k with
  | zero =>
    intro i s hk hi hst hS hR
    obtain rfl : i = n := by omega
    refine codeAny_builtin PyProof.Rows.F.entry_set_update_loop ?_
    rw [Around.under_plainId PyProof.Rows.F.plain_set_update_loop _]
    show wpAny _ A.in1 (pyNext (.ref I) >>= _) _ _ s
    refine wpAny_bind (W.done s _ _ hst fun s1 mv => ?_)
    show wpAny _ A.in1 (ret Value.none) _ _ s1
    refine wpAny_pure (hR s1 (mv.mono wide) ?_)
    obtain ⟨o, es, ep, t, ho, more⟩ := hS
    exact ⟨o, es, ep, t, mv.heap S _ notW ho, more⟩
  | succ k ih =>
    intro i s hk hi hst hS hR
    have lt : i < n := by omega
    refine codeAny_builtin PyProof.Rows.F.entry_set_update_loop ?_
    rw [Around.under_plainId PyProof.Rows.F.plain_set_update_loop _]
    show wpAny _ A.in1 (pyNext (.ref I) >>= _) _ _ s
    refine wpAny_bind (W.item i s _ _ lt hst fun v s1 hP hst1 mv => ?_)
    obtain ⟨t, rfl⟩ := hval i v hP
    have hS1 : InSet prog w s1.heap S xs i := by
      obtain ⟨o, es, ep, tb, ho, more⟩ := hS
      exact ⟨o, es, ep, tb, mv.heap S _ notW ho, more⟩
    have hle : (firsts (xs.take i)).length ≤ i := firsts_le i (xs.take i) (by rw [List.length_take]; omega)
    show wpAny _ A.in1 (holding [Value.str (xs.getD i Str.empty) t] (setAdd S (.str (xs.getD i Str.empty) t)) >>= _) _ _ s1
    refine wpAny_bind (wpAny_holding ?_)
    unfold setAdd
    refine wpAny_holding (wpAny_bind ((PySem.strKind prog w).pyHash (k := xs.getD i Str.empty) (strKind_is _ _ _ _) ?_))
    refine wpAny_setAddHashed_of (knd := PySem.strKind prog w) (s := { s1 with toks := s1.toks + 1 }) (strKind_is _ _ _ _) rfl hS1 (by omega) fun h2 same hS2 => ?_
    have hlt : i < xs.length := by omega
    have et : xs.take (i + 1) = xs.take i ++ [xs.getD i Str.empty] := by
      rw [List.take_succ, List.getD_eq_getElem?_getD, List.getElem?_eq_getElem hlt]
      rfl
    have hSi : InSet prog w h2 S xs (i + 1) := by
      refine SetOf_congr hS2 (fun k' => ?_) ?_
      · rw [et, firsts_snoc, Bool.eq_iff_iff, Bool.or_eq_true, decide_eq_true_iff, decide_eq_true_iff, decide_eq_true_iff]
        exact mem_more.symm
      · rw [et, firsts_snoc, more_len]
        by_cases c : xs.getD i Str.empty ∈ firsts (xs.take i)
        · rw [if_pos c, if_pos (by rw [decide_eq_true_iff]; exact c)]
        · rw [if_neg c, if_neg (by rw [decide_eq_true_iff]; exact c)]
    have offS : ∀ b, b ∉ S :: wr → b ≠ S := fun b z e => z (by rw [e]; exact List.mem_cons_self)
    refine wpAny_pure ⟨plainId_quiet PyProof.Rows.F.plain_set_update_loop _, ih (i + 1) _ (by omega) lt (W.frame _ s1 _ _ hst1 (Nat.le_succ _) fun b hb o e => ?_) hSi fun s3 mv3 hS3 => ?_⟩
    · rw [same.2 b fun z => hSf (z ▸ hb)]
      exact e
    · refine hR s3 (Moved.trans W.gtrans ((mv.mono wide).then_heap (Nat.le_succ _) fun b o hb e => ?_) mv3) hS3
      rw [same.2 b (offS b hb)]
      exact e
end

section
variable {prog : Program} {w : World} {A : Around} {E : Value → Shared → Prop} {s : Shared}
/-- a set just made -/
abbrev Fso (led : Bool) : Obj := { cls := .type "set", dict := none, data := .set #[] 0 (.fresh 0 0 led) }
/-- what a fresh set of the texts is, and that nothing else has changed -/
abbrev Made (prog : Program) (w : World) (h0 h1 : Heap) (xs : List Str) : Prop :=
  InSet prog w h1 h0.objs.size xs xs.length ∧ ∀ b o, b < h0.objs.size → h0.get? b = some o → h1.get? b = some o

set_option maxHeartbeats 3200000 in
theorem set_of_list {l : Addr} {items : Array Value} {xs : List Str} {Q : Value → Shared → Prop} (hh : A.handled = none) (hl : s.heap.IsList l items) (hi : StrsAre items.toList xs) (hbig : xs.length + 1 < scanBound)
    (k : ∀ (h1 : Heap) (tk : Nat), Made prog w s.heap h1 xs → Q (.ref s.heap.objs.size) { s with heap := h1, toks := tk }) : wpAny (model prog w) A (call (.type "set") [.ref l]) Q E s := by
  obtain ⟨c, tl, hmro⟩ := PySem.F.called_set.mro
  have hmade := PySem.F.called_set.made; have hsub := PySem.F.called_set.sub
  refine wpAny_call (codeAny_of_tree (show wpAny _ _ (callAny (.type "set") _) _ _ _ from wpAny_pure ⟨Code.quiet_builtin _ (by decide +kernel), codeAny_builtin PySem.F.entry_type_call ?_⟩))
  rw [Around.under_plain (weight_type_call_type "set" [.ref l] []) rfl]
  have h1 := PySem.F.called_set.notType; have h2 := PySem.F.called_set.canCreate; have hct := PySem.F.typeCall_set_1 (.ref l)
  repeat (any_goals (first | assumption | wp_step))
  refine codeAny_mono (code_set_new_1 (.ref l) (E := E) (Q₁ := fun ob z => ∃ led : Bool, ob = .ref s.heap.objs.size ∧ z = { s with heap := s.heap.push (Fso led) }) fun led => ⟨led, rfl, rfl⟩) fun r z hr => ?_
  cases r with
  | error e => exact hr
  | ok fl =>
    cases fl with
    | ret ob =>
      obtain ⟨led, rfl, rfl⟩ := hr
      have hS : (s.heap.push (Fso led)).get? s.heap.objs.size = some (Fso led) := Heap.get?_push_size _ rfl
      have hT : Shared.TypeIs { s with heap := s.heap.push (Fso led) } (.ref s.heap.objs.size) "set" := ⟨_, hS, rfl⟩
      have hli := PySem.F.called_set.init.lookup; have hbi := PySem.F.called_set.init.bind (.ref s.heap.objs.size)
      repeat (any_goals (first | assumption | wp_step))
      refine codeAny_mono (codeAny_call_builtin (R := wants (fun r z => r = .none ∧ ∃ h1 tk, z = { s with heap := h1, toks := tk } ∧ Made prog w s.heap h1 xs) E)
        PySem.F.called_set.init.plain PySem.F.entry_set_init (check_set_init_1 hT ?_)) fun r2 z2 hr2 => ?_
      · obtain ⟨⟨oc, od, odat, osl⟩, hol, hcl, nl, hdl⟩ := hl
        simp only at hcl hdl; subst hcl; subst hdl
        have hol2 : (s.heap.push (Fso led)).get? l = some { cls := .type "list", dict := od, data := .seq items nl, slots := osl } := Heap.get?_push_of_some _ hol
        have q1 := PySem.F.sub_list_set; have q2 := PySem.F.sub_list_frozenset; have q3 : (Value.type "list" == Value.type "dict") = false := by decide
        have hl1 : (s.heap.push (Fso led)).IsList l items := ⟨_, hol2, rfl, nl, rfl⟩
        unfold Builtin.«set.__init__» noKeywords Builtin.Frozenset.updateFrom
        generalize hPI : pyIter = PI
        wp_walk
        subst hPI
        refine wpAny_pyIter_list hl1 ?_; refine wpAny_bind (wpAny_runValue ?_)
        have lt := Heap.lt_size hol
        have hsz : xs.length = items.size := by rw [← StrsAre.len_eq hi, Array.length_toList]
        have apart : l ≠ (s.heap.push (Fso led)).objs.size := by rw [Heap.size_push]; exact Nat.ne_of_lt (Nat.lt_succ_of_lt lt)
        have off : s.heap.objs.size ∉ [(s.heap.push (Fso led)).objs.size, l] := by
          rw [Heap.size_push]; simp only [List.mem_cons, List.not_mem_nil, or_false, not_or]; exact ⟨Nat.ne_of_lt (Nat.lt_succ_self _), Nat.ne_of_gt lt⟩
        refine turns ((Walks.list (show A.in1.in1.in1.handled = none by simp [hh]) _ l apart items).toS) s.heap.objs.size off xs hsz (by omega)
          (fun i v hv => SS.strs_at hi i v (by rw [Array.getElem?_toList]; exact hv)) (items.size - 0) 0 _ (by omega) (Nat.zero_le _) ⟨⟨_, Heap.get?_push_size _ rfl, rfl, rfl⟩, hl1.push _⟩ ?start0 ?rest0
        case start0 =>
          have hget : ((s.heap.push (Fso led)).push { cls := .type "list_iterator", data := .fields #[.ref l, .int 0 0] }).get? s.heap.objs.size = some (Fso led) := Heap.get?_push_of_some _ hS
          exact SetOf_congr ((setObjOf_fresh (knd := PySem.strKind prog w) led).setOf hget (by unfold scanBound; omega)) (fun _ => rfl) rfl
        case rest0 =>
          rintro ⟨h3, g3, d3, tk3, os3⟩ hm hS3
          obtain rfl : g3 = s.gens := hm.gens
          obtain rfl : d3 = s.drawn := hm.drawn
          obtain rfl : os3 = s.os := hm.os
          show wpAny _ _ _ _ _ _
          refine wpAny_pure ?_
          show wpAny _ _ (ret Value.none) _ _ _
          rw [← hsz] at hS3
          refine wpAny_pure ⟨rfl, h3, tk3, rfl, hS3, fun b o hb e => hm.heap b o ?_ (Heap.get?_push_of_some _ (Heap.get?_push_of_some _ e))⟩
          rw [Heap.size_push]; simp only [List.mem_cons, List.not_mem_nil, or_false, not_or]; exact ⟨Nat.ne_of_lt hb, Nat.ne_of_lt (Nat.lt_succ_of_lt hb)⟩
      · cases r2 with
        | error e => exact hr2
        | ok fl2 =>
          cases fl2 with
          | ret r =>
            obtain ⟨rfl, h1, tk, rfl, hm⟩ := hr2
            repeat (any_goals (first | assumption | wp_step))
            exact k _ _ hm
          | _ => exact hr2.elim
    | _ => exact hr.elim

set_option maxHeartbeats 3200000 in
theorem set_of_tuple {l : Addr} {items : Array Value} {xs : List Str} {Q : Value → Shared → Prop} (hh : A.handled = none) (hl : s.heap.IsTuple l items) (hi : StrsAre items.toList xs) (hbig : xs.length + 1 < scanBound)
    (k : ∀ (h1 : Heap) (tk : Nat), Made prog w s.heap h1 xs → Q (.ref s.heap.objs.size) { s with heap := h1, toks := tk }) : wpAny (model prog w) A (call (.type "set") [.ref l]) Q E s := by
  obtain ⟨c, tl, hmro⟩ := PySem.F.called_set.mro
  have hmade := PySem.F.called_set.made; have hsub := PySem.F.called_set.sub
  refine wpAny_call (codeAny_of_tree (show wpAny _ _ (callAny (.type "set") _) _ _ _ from wpAny_pure ⟨Code.quiet_builtin _ (by decide +kernel), codeAny_builtin PySem.F.entry_type_call ?_⟩))
  rw [Around.under_plain (weight_type_call_type "set" [.ref l] []) rfl]
  have h1 := PySem.F.called_set.notType; have h2 := PySem.F.called_set.canCreate; have hct := PySem.F.typeCall_set_1 (.ref l)
  repeat (any_goals (first | assumption | wp_step))
  refine codeAny_mono (code_set_new_1 (.ref l) (E := E) (Q₁ := fun ob z => ∃ led : Bool, ob = .ref s.heap.objs.size ∧ z = { s with heap := s.heap.push (Fso led) }) fun led => ⟨led, rfl, rfl⟩) fun r z hr => ?_
  cases r with
  | error e => exact hr
  | ok fl =>
    cases fl with
    | ret ob =>
      obtain ⟨led, rfl, rfl⟩ := hr
      have hS : (s.heap.push (Fso led)).get? s.heap.objs.size = some (Fso led) := Heap.get?_push_size _ rfl
      have hT : Shared.TypeIs { s with heap := s.heap.push (Fso led) } (.ref s.heap.objs.size) "set" := ⟨_, hS, rfl⟩
      have hli := PySem.F.called_set.init.lookup; have hbi := PySem.F.called_set.init.bind (.ref s.heap.objs.size)
      repeat (any_goals (first | assumption | wp_step))
      refine codeAny_mono (codeAny_call_builtin (R := wants (fun r z => r = .none ∧ ∃ h1 tk, z = { s with heap := h1, toks := tk } ∧ Made prog w s.heap h1 xs) E)
        PySem.F.called_set.init.plain PySem.F.entry_set_init (check_set_init_1 hT ?_)) fun r2 z2 hr2 => ?_
      · obtain ⟨⟨oc, od, odat, osl⟩, hol, hcl, nl, hdl⟩ := hl
        simp only at hcl hdl; subst hcl; subst hdl
        have hol2 : (s.heap.push (Fso led)).get? l = some { cls := .type "tuple", dict := od, data := .seq items nl, slots := osl } := Heap.get?_push_of_some _ hol
        have q1 := PySem.F.sub_tuple_set; have q2 := PySem.F.sub_tuple_frozenset; have q3 : (Value.type "tuple" == Value.type "dict") = false := by decide
        have hl1 : (s.heap.push (Fso led)).IsTuple l items := ⟨_, hol2, rfl, nl, rfl⟩
        unfold Builtin.«set.__init__» noKeywords Builtin.Frozenset.updateFrom
        generalize hPI : pyIter = PI
        wp_walk
        subst hPI
        refine wpAny_pyIter_tuple hl1 ?_; refine wpAny_bind (wpAny_runValue ?_)
        have lt := Heap.lt_size hol
        have hsz : xs.length = items.size := by rw [← StrsAre.len_eq hi, Array.length_toList]
        have apart : l ≠ (s.heap.push (Fso led)).objs.size := by rw [Heap.size_push]; exact Nat.ne_of_lt (Nat.lt_succ_of_lt lt)
        have off : s.heap.objs.size ∉ [(s.heap.push (Fso led)).objs.size, l] := by
          rw [Heap.size_push]; simp only [List.mem_cons, List.not_mem_nil, or_false, not_or]; exact ⟨Nat.ne_of_lt (Nat.lt_succ_self _), Nat.ne_of_gt lt⟩
        refine turns ((Walks.tuple (show A.in1.in1.in1.handled = none by simp [hh]) _ l apart items).toS) s.heap.objs.size off xs hsz (by omega)
          (fun i v hv => SS.strs_at hi i v (by rw [Array.getElem?_toList]; exact hv)) (items.size - 0) 0 _ (by omega) (Nat.zero_le _) ⟨⟨_, Heap.get?_push_size _ rfl, rfl, rfl⟩, hl1.push _⟩ ?start0 ?rest0
        case start0 =>
          have hget : ((s.heap.push (Fso led)).push { cls := .type "tuple_iterator", data := .fields #[.ref l, .int 0 0] }).get? s.heap.objs.size = some (Fso led) := Heap.get?_push_of_some _ hS
          exact SetOf_congr ((setObjOf_fresh (knd := PySem.strKind prog w) led).setOf hget (by unfold scanBound; omega)) (fun _ => rfl) rfl
        case rest0 =>
          rintro ⟨h3, g3, d3, tk3, os3⟩ hm hS3
          obtain rfl : g3 = s.gens := hm.gens
          obtain rfl : d3 = s.drawn := hm.drawn
          obtain rfl : os3 = s.os := hm.os
          show wpAny _ _ _ _ _ _
          refine wpAny_pure ?_
          show wpAny _ _ (ret Value.none) _ _ _
          rw [← hsz] at hS3
          refine wpAny_pure ⟨rfl, h3, tk3, rfl, hS3, fun b o hb e => hm.heap b o ?_ (Heap.get?_push_of_some _ (Heap.get?_push_of_some _ e))⟩
          rw [Heap.size_push]; simp only [List.mem_cons, List.not_mem_nil, or_false, not_or]; exact ⟨Nat.ne_of_lt hb, Nat.ne_of_lt (Nat.lt_succ_of_lt hb)⟩
      · cases r2 with
        | error e => exact hr2
        | ok fl2 =>
          cases fl2 with
          | ret r =>
            obtain ⟨rfl, h1, tk, rfl, hm⟩ := hr2
            repeat (any_goals (first | assumption | wp_step))
            exact k _ _ hm
          | _ => exact hr2.elim
    | _ => exact hr.elim

end
end GSet
namespace L2
open PySem PySem.Spec PyProof.Rows
/-- len(set(xs)), xs a list or tuple of texts -/
def tLenSetS (K : PySem.W.Frag) (ta : TE) : TE := fun σ H Q => ta σ H fun x H1 => ∃ l, ∃ xs : List Str, x = .ref l ∧ (SqL K H1 l (xs.map V.str) ∨ SqT K H1 l (xs.map V.str)) ∧ xs.length ≤ 1000 ∧ Q (.int (GSet.firsts xs).length) H1
theorem pe_lenSetS {X : Cx} {a : Expr} {ta : TE} {p p2 q pos : Pos} (hc : X.calm = true) (hm : X.mg "len" = none) (hm2 : X.mg "set" = none) (ha : PE X a ta) (hg : Gl X "len" := by rfl) (hg2 : Gl X "set" := by rfl)
    (na : starEach [a] X.env = (false, eval a X.env) :: starEach [] X.env := by rfl) : PE X (.Call (.Name "len" p) [.Call (.Name "set" p2) [a] [] q] [] pos) (tLenSetS X.K ta) := by
  refine ⟨fun pins s σ H Q I h => Call_ (ld_blt I hg hm boot_len (callWith_builtin1 (args_cons ?_ rfl) rfl rfl))⟩
  refine Call_ (ld_blt I hg2 hm2 boot_set (callWith_type1 (args_cons (thn (ha.run pins s σ H _ I h) fun v s1 ⟨x, H1, I1, r1, q1⟩ => args_nil ?_) na) na rfl))
  obtain ⟨l, xs, rfl, hq, hl, q1⟩ := q1
  cases r1
  have big : xs.length + 1 < scanBound := by unfold scanBound; omega
  have fin : ∀ (h1 : Heap) (tk : Nat), GSet.Made X.prog X.w s1.heap h1 xs →
      wpAny (model X.prog X.w) X.A (spliced (backTo pos (starEach [] X.env))) (fun vs z => wpAny (model X.prog X.w) X.A (call (.builtin "len") (Value.ref s1.heap.objs.size :: vs)) (EP X pins σ Q) X.xe z) X.xe { s1 with heap := h1, toks := tk } := fun h1 tk ⟨hS, hk⟩ => by
    have le := GSet.firsts_le xs.length (xs.take xs.length) (by rw [List.take_length])
    obtain ⟨o, es, ep, t, ho, hex, hd, _, _, _, hf, hn⟩ := hS
    have I2 : Inv X pins σ H1 { s1 with heap := h1, toks := tk } := I1.kept fun b o e => hk b o (Heap.lt_size e) e
    refine args_nil (call_len_set ho hex hd hf (by rw [hn]; omega) ⟨.int (GSet.firsts xs).length, H1, I2.tok _, ⟨_, by rw [hn, List.take_length]⟩, q1⟩)
  rcases hq with hq | hq
  · obtain ⟨its, r, pl, hz⟩ := I1.list hq
    exact GSet.set_of_list (I1.ok.hd hc) pl.isList (by simpa using strsAre_of r) big fin
  · obtain ⟨its, r, pl, hz⟩ := I1.tuple hq
    exact GSet.set_of_tuple (I1.ok.hd hc) pl (by simpa using strsAre_of r) big fin
end L2
/-! Own rule: o.m(k = v, ..), a method of an own class called by keywords alone. -/
namespace L2
open PySem PySem.Spec PyProof.Rows
/-- [o], its class, then the keywords' values, then the promise of them in the parameters' order -/
def tMethKw (C : Addr) (m : Str) (n : Nat) (sp : Sp) (gV : List V → List V → List V) (E : XK) (ta : TE) (tk : TA) : TE := fun σ H Q =>
  ta σ H fun x H1 => ∃ a dx fs, x = .ref a ∧ H1 a = some (.ins C dx fs) ∧ fs.lookup m = none ∧ tk σ H1 fun zs H2 => zs.length = n ∧ sp (gV [x] zs) H2 Q E
section
variable {X : Cx} {CX : CXT} {k : Nat} {f C : Addr} {fd : FuncData} {ps ks : List Str} {sp : Sp} {E : XK} {o : Expr} {m : Str} {ta : TE} {apos : Pos} {pos : Pos} {kws : List Keyword} {tk : TA} {g : List Value → List Value → List Value} {gV : List V → List V → List V}
theorem pe_methKw {pl : Sem Bool} (he : PE X o ta) (c : Cls X.K C) (hm : Meth X.K C m f) (F : FnOk X.prog X.w X.K X.mg X.base CX k f fd ps sp) (hr : Room k X.A) (hb : KBn X.K fd ps 1 ks g gV) (hx : Passes CX X E) (hkw : PK X kws tk)
    (hall : (backToKw pos (keywordEach kws X.env)).all (·.1.isSome) = true := by rfl) (hks : (backToKw pos (keywordEach kws X.env)).filterMap (·.1) = ks := by rfl)
    (hpl : ((backTo pos (starEach [] X.env)).any (·.1) || (backToKw pos (keywordEach kws X.env)).any (·.1.isNone)) = false := by rfl)
    (ht : eval (.Call (.Attribute o m apos) [] kws pos) X.env = (do
      let v ← eval o X.env
      standAt apos.atName
      let (q, first) ← holding [v] (getMethod v m pl)
      callWith pos q first (backTo pos (starEach [] X.env)) (backToKw pos (keywordEach kws X.env))) := by rfl) :
    PE X (.Call (.Attribute o m apos) [] kws pos) (tMethKw C m ks.length sp gV E ta tk) := by
  refine ⟨fun pins s σ H Q I h => PySem.W.methodCall_KW (pl := pl) (thn (he.run pins s σ H _ I h) fun u s1 ⟨x, H1, I1, rx, a, dx, fs, ex, ea, l, q⟩ => ?_) ht⟩
  subst ex
  obtain rfl : u = Value.ref a := rx
  refine getmeth_ok I1 ea c hm l (PySem.W.callWith_KW0 (first := [.ref a]) (h₀ := X.base) I.ok.mod.kin hm.kp hall ?_ hpl)
  refine thn (hkw.run pos pins s1 σ H1 _ I1 q) fun ws s2 ⟨zs, H2, I2, rz, l2, q2⟩ => ⟨I2.kIn, ?_⟩
  rw [hks]
  exact run_fnN (us := [.ref a]) (vs := [.ref a]) F hr hb hx I2 (.cons rfl .nil) rz rfl l2 q2
end
/-- how one keyword behind self binds: h is «fun _ _ _ _ _ _ us ws l1 l2 => match us, ws, l1, l2 with | [_], [_], _, _ => rfl» -/
theorem Fun.kbn {K : PySem.W.Frag} {x qual : Str} {st : Stmt} {f : Addr} {fd : FuncData} {ps ks : List Str} {n : Nat} (F : Fun K x qual st f fd)
    (h : ∀ (kV doc pm : Value) (an : Option Addr) (cdv ct : Value) (us ws : List Value), us.length = n → ws.length = ks.length → bindArgs (PySem.W.fnOf x qual (defArgs st) (defBody st) (defScope st) .none kV doc pm an cdv ct) ⟨us, ks.zip ws⟩ = pure (ps.zip (us ++ ws))) :
    KBn K fd ps n ks (fun us ws => us ++ ws) (fun us ws => us ++ ws) := by
  obtain ⟨oc, od, kV, doc, pm, an, cdv, ct, osl, rfl, lk, hcd⟩ := F.ex
  exact ⟨fun s us ws _ l1 l2 => .of_eq (h kV doc pm an cdv ct us ws l1 l2), fun r rz => r.append rz⟩
/-- by places -/
def byPl {α : Type} (is : List Nat) (_us ws : List α) : List α := is.filterMap fun i => ws[i]?
theorem Vals.at? : ∀ {zs : List V} {ws : List Value} (i : Nat), Vals zs ws → (∃ z w, zs[i]? = some z ∧ ws[i]? = some w ∧ RelV z w) ∨ (zs[i]? = none ∧ ws[i]? = none)
  | _, _, _, .nil => .inr ⟨rfl, rfl⟩
  | _, _, 0, .cons r _ => .inl ⟨_, _, rfl, rfl, r⟩
  | _, _, i + 1, .cons _ t => Vals.at? i t
theorem Vals.byPl {zs : List V} {ws : List Value} (r : Vals zs ws) : ∀ is : List Nat, Vals (is.filterMap fun i => zs[i]?) (is.filterMap fun i => ws[i]?)
  | [] => .nil
  | i :: t => by
    have ih := Vals.byPl r t
    rcases Vals.at? i r with ⟨z, w, e1, e2, q⟩ | ⟨e1, e2⟩
    · rw [List.filterMap_cons_some e1, List.filterMap_cons_some e2]
      exact .cons q ih
    · rw [List.filterMap_cons_none e1, List.filterMap_cons_none e2]
      exact ih
/-- f(k = v, ..): keywords alone, is: where each parameter's value stands among them -/
theorem Fun.kbp {K : PySem.W.Frag} {x qual : Str} {st : Stmt} {f : Addr} {fd : FuncData} {ps ks : List Str} (is : List Nat) (F : Fun K x qual st f fd)
    (h : ∀ (kV doc pm : Value) (an : Option Addr) (cdv ct : Value) (ws : List Value), ws.length = ks.length → bindArgs (PySem.W.fnOf x qual (defArgs st) (defBody st) (defScope st) .none kV doc pm an cdv ct) ⟨[], ks.zip ws⟩ = pure (ps.zip (byPl is [] ws))) :
    KBn K fd ps 0 ks (byPl is) (byPl is) := by
  obtain ⟨oc, od, kV, doc, pm, an, cdv, ct, osl, rfl, lk, hcd⟩ := F.ex
  refine ⟨fun s us ws _ l1 l2 => .of_eq ?_, fun r rz => Vals.byPl rz is⟩
  cases us with
  | nil => exact h kV doc pm an cdv ct ws l2
  | cons _ _ => cases l1
def tCallK0 (n : Nat) (sp : Sp) (gV : List V → List V → List V) (E : XK) (tk : TA) : TE := fun σ H Q => tk σ H fun zs H2 => zs.length = n ∧ sp (gV [] zs) H2 Q E
section
variable {X : Cx} {CX : CXT} {k : Nat} {f : Addr} {fd : FuncData} {ps ks : List Str} {sp : Sp} {E : XK} {x : Str} {p pos : Pos} {kws : List Keyword} {tk : TA} {g : List Value → List Value → List Value} {gV : List V → List V → List V}
theorem pe_callK0 (F : FnOk X.prog X.w X.K X.mg X.base CX k f fd ps sp) (hr : Room k X.A) (hg : Gl X x) (hm : X.mg x = some (.ref f)) (hk : PySem.W.keepIn X.K (.ref f) = true) (hb : KBn X.K fd ps 0 ks g gV) (hx : Passes CX X E)
    (hkw : PK X kws tk) (hall : (backToKw pos (keywordEach kws X.env)).all (·.1.isSome) = true := by rfl) (hks : (backToKw pos (keywordEach kws X.env)).filterMap (·.1) = ks := by rfl)
    (hdb : (x == ("__debug__" : Str)) = false := by decide)
    (hpl : ((backTo pos (starEach [] X.env)).any (·.1) || (backToKw pos (keywordEach kws X.env)).any (·.1.isNone)) = false := by rfl) :
    PE X (.Call (.Name x p) [] kws pos) (tCallK0 ks.length sp gV E tk) := by
  refine ⟨fun pins s σ H Q I h => ?_⟩
  refine wpAny_Call_Name_kw (ld_glob I hg hm ?_ hdb)
  refine PySem.W.callWith_KW0 (h₀ := X.base) (first := []) I.ok.mod.kin hk hall ?_ hpl
  refine thn (hkw.run pos pins s σ H _ I h) fun ws s2 ⟨zs, H2, I2, rz, l2, q2⟩ => ⟨I2.kIn, ?_⟩
  rw [hks]
  exact run_fnN (us := []) (vs := []) F hr hb hx I2 .nil rz rfl l2 q2
end
end L2
/-! Lemmas that every law of this program wants: the state of the draws, lists and texts, what a comparison of data tells. -/
namespace GL
open PySem PySem.Spec PyProof.Rows L2
/-! ### the draws' state: a list at S, its cells at C -/
def StOk (H : Hp) (S C : Addr) : Prop := ∃ (cells : List Int) (k m : Int), H S = some (.lst [.ref C, .int k, .int m]) ∧ H C = some (.lst (cells.map V.int)) ∧ 0 < cells.length ∧ cells.length ≤ 63 ∧ (∀ c ∈ cells, 0 ≤ c) ∧ 0 ≤ k ∧ 0 ≤ m ∧ m < 2147483647
/-- all but the state stands as it stood -/
def Mod (S C : Addr) (H H' : Hp) : Prop := ∀ b o, H b = some o → b ≠ S → b ≠ C → H' b = some o
theorem Mod.refl (S C : Addr) (H : Hp) : Mod S C H H := fun _ _ h _ _ => h
theorem Mod.trans {S C : Addr} {H H1 H2 : Hp} (a : Mod S C H H1) (b : Mod S C H1 H2) : Mod S C H H2 := fun x o h n1 n2 => b x o (a x o h n1 n2) n1 n2
theorem Mod.of {S C : Addr} {H H1 : Hp} (a : Same H H1) : Mod S C H H1 := fun x o h _ _ => a x o h
theorem same_new {H : Hp} {p : Addr} {o : HO} (h : H p = none) : Same H (upd H p o) := fun b x e => by
  rw [upd_ne (ne_of_none e h)]
  exact e
/-- a new object of the call's own may change -/
theorem _root_.L2.Same.own {H H1 : Hp} {p : Addr} {o : HO} (s : Same H H1) (h : H p = none) : Same H (upd H1 p o) := fun b x e => by
  rw [upd_ne (ne_of_none e h)]
  exact s b x e
theorem Mod.own {S C : Addr} {H H1 : Hp} {p : Addr} {o : HO} (s : Mod S C H H1) (h : H p = none) : Mod S C H (upd H1 p o) := fun b x e n1 n2 => by
  rw [upd_ne (ne_of_none e h)]
  exact s b x e n1 n2
theorem StOk.ne {H : Hp} {S C : Addr} (h : StOk H S C) : S ≠ C := fun e => by
  obtain ⟨cells, k, m, h1, h2, _⟩ := h
  rw [e, h2] at h1
  cases cells with
  | nil => cases h1
  | cons x r => cases h1
theorem StOk.same {H H' : Hp} {S C : Addr} (h : StOk H S C) (s : Same H H') : StOk H' S C := by
  obtain ⟨cells, k, m, h1, h2, r⟩ := h
  exact ⟨cells, k, m, s _ _ h1, s _ _ h2, r⟩
theorem StOk.upd {H : Hp} {S C p : Addr} {o : HO} (h : StOk H S C) (n1 : p ≠ S) (n2 : p ≠ C) : StOk (upd H p o) S C := by
  obtain ⟨cells, k, m, h1, h2, r⟩ := h
  exact ⟨cells, k, m, by rw [upd_ne n1.symm]; exact h1, by rw [upd_ne n2.symm]; exact h2, r⟩
theorem StOk.neS {H : Hp} {S C p : Addr} (h : StOk H S C) (n : H p = none) : p ≠ S := fun e => by
  obtain ⟨cells, k, m, h1, h2, r⟩ := h
  rw [e, h1] at n
  cases n
theorem StOk.neC {H : Hp} {S C p : Addr} (h : StOk H S C) (n : H p = none) : p ≠ C := fun e => by
  obtain ⟨cells, k, m, h1, h2, r⟩ := h
  rw [e, h2] at n
  cases n
/-- an object of another kind is none of the two -/
theorem StOk.offL {H : Hp} {S C p : Addr} {o : HO} (h : StOk H S C) (e : H p = some o) (k : ∀ xs, o ≠ .lst xs) : p ≠ S ∧ p ≠ C := by
  obtain ⟨cells, i, m, h1, h2, r⟩ := h
  refine ⟨fun z => ?_, fun z => ?_⟩
  · rw [z, h1] at e
    exact k _ (Option.some.inj e).symm
  · rw [z, h2] at e
    exact k _ (Option.some.inj e).symm
theorem StOk.offS {H : Hp} {S C p : Addr} {ys : List Str} (h : StOk H S C) (e : H p = some (.lst (ys.map V.str))) : p ≠ S ∧ p ≠ C := by
  obtain ⟨cells, i, m, h1, h2, h0, r⟩ := h
  refine ⟨fun z => ?_, fun z => ?_⟩
  · rw [z, h1] at e
    cases ys with
    | nil => cases e
    | cons y r => cases e
  · rw [z, h2] at e
    cases ys with
    | nil =>
      cases cells with
      | nil => exact absurd h0 (Nat.lt_irrefl _)
      | cons x r => cases e
    | cons y r =>
      cases cells with
      | nil => cases e
      | cons x r => cases e
theorem Mod.strs {S C p : Addr} {H H' : Hp} {ys : List Str} (m : Mod S C H H') (h : StOk H S C) (e : H p = some (.lst (ys.map V.str))) : H' p = some (.lst (ys.map V.str)) :=
  m _ _ e (h.offS e).1 (h.offS e).2
theorem Mod.other {S C p : Addr} {H H' : Hp} {o : HO} (m : Mod S C H H') (h : StOk H S C) (e : H p = some o) (k : ∀ xs, o ≠ .lst xs) : H' p = some o :=
  m _ _ e (h.offL e k).1 (h.offL e k).2
/-! ### items -/
theorem cell_at {xs : List Int} {z : Int} (h0 : 0 ≤ z) (h : z < (xs.length : Int)) : ∃ (j : Nat) (c : Int), z = (j : Int) ∧ j < xs.length ∧ xs[j]? = some c ∧ (xs.map V.int)[j]? = some (.int c) ∧ c ∈ xs := by
  obtain ⟨j, rfl⟩ := Int.eq_ofNat_of_zero_le h0
  have hj : j < xs.length := by omega
  refine ⟨j, xs[j], rfl, hj, List.getElem?_eq_getElem hj, ?_, List.getElem_mem hj⟩
  rw [List.getElem?_map, List.getElem?_eq_getElem hj]
  rfl
theorem ixN_of {n j : Nat} {z : Int} (e : z = (j : Int)) (h : j < n) : ixN n z = some j := by
  subst e
  unfold ixN
  rw [if_pos (by omega), if_pos (by omega)]
  rfl
theorem lst3_set1 (a b c d : V) : ([a, b, c] : List V).set 1 d = [a, d, c] := rfl
theorem at_some {α : Type} {xs : List α} {d : Int} (h0 : 0 ≤ d) (h : d < (xs.length : Int)) : ∃ j v, d = ((j : Nat) : Int) ∧ xs[j]? = some v ∧ v ∈ xs := by
  obtain ⟨j, rfl⟩ := Int.eq_ofNat_of_zero_le h0
  have hj : j < xs.length := by omega
  exact ⟨j, xs[j], rfl, List.getElem?_eq_getElem hj, List.getElem_mem hj⟩
theorem atI_at {α : Type} {xs : List α} {d : Int} {j : Nat} {v : α} (e : d = ((j : Nat) : Int)) (h : xs[j]? = some v) : atI xs d = some v := by
  subst e
  unfold atI
  rw [ixN_of rfl (List.getElem?_eq_some_iff.mp h).1]
  exact h
theorem strs_at {xs : List Str} {j : Nat} {v : Str} (h : xs[j]? = some v) : (xs.map V.str)[j]? = some (.str v) := by
  rw [List.getElem?_map, h]
  rfl
theorem of_strs_at {xs : List Str} {j : Nat} {v : V} (h : (xs.map V.str)[j]? = some v) : ∃ z, xs[j]? = some z ∧ v = .str z := by
  rw [List.getElem?_map] at h
  cases e : xs[j]? with
  | none => rw [e] at h; cases h
  | some z => rw [e] at h; exact ⟨z, rfl, (Option.some.inj h).symm⟩
theorem of_ints_at {xs : List Int} {j : Nat} {v : V} (h : (xs.map V.int)[j]? = some v) : ∃ z, xs[j]? = some z ∧ v = .int z := by
  rw [List.getElem?_map] at h
  cases e : xs[j]? with
  | none => rw [e] at h; cases h
  | some z => rw [e] at h; exact ⟨z, rfl, (Option.some.inj h).symm⟩
theorem take_snoc {α : Type} {l : List α} {i : Nat} {x : α} (h : l[i]? = some x) : l.take (i + 1) = l.take i ++ [x] := by
  rw [List.take_succ, h]
  rfl
theorem small_nat {n : Nat} (h : n ≤ 100000) : (n : Int).natAbs < 2 ^ 200 := by
  rw [Int.natAbs_natCast]
  exact Nat.lt_of_le_of_lt h (by decide)
theorem small_sz {n : Nat} (h : n ≤ 100000) : n ≤ sizeLine := Nat.le_trans h (by decide)
theorem small_lt {n : Nat} (h : n < 100000) : n < sizeLine := Nat.lt_of_lt_of_le h (by decide)
/-- one taken out -/
theorem erase_perm {α : Type} : ∀ {l : List α} {j : Nat} {x : α}, l[j]? = some x → (x :: l.eraseIdx j).Perm l
  | [], _, _, h => by simp at h
  | a :: r, 0, x, h => by
    have e : a = x := Option.some.inj h
    subst e
    exact .refl _
  | a :: r, j + 1, x, h => by
    have ih := erase_perm (l := r) (j := j) (x := x) h
    show (x :: a :: r.eraseIdx j).Perm (a :: r)
    exact (List.Perm.swap _ _ _).trans (ih.cons a)
theorem erase_map {α β : Type} (f : α → β) : ∀ (l : List α) (j : Nat), (l.map f).eraseIdx j = (l.eraseIdx j).map f
  | [], _ => rfl
  | a :: r, 0 => rfl
  | a :: r, j + 1 => by
    show f a :: (r.map f).eraseIdx j = f a :: (r.eraseIdx j).map f
    rw [erase_map f r j]
theorem take_min {α : Type} (xs : List α) (k : Nat) : xs.take (min k xs.length) = xs.take k := by
  by_cases h : k ≤ xs.length
  · rw [Nat.min_eq_left h]
  · rw [Nat.min_eq_right (by omega), List.take_length, List.take_of_length_le (by omega)]
theorem drop_min {α : Type} (xs : List α) (k : Nat) : xs.drop (min k xs.length) = xs.drop k := by
  by_cases h : k ≤ xs.length
  · rw [Nat.min_eq_left h]
  · rw [Nat.min_eq_right (by omega), List.drop_length, List.drop_of_length_le (by omega)]
theorem cut_take (xs : List V) (k : Nat) : cutV xs none (some (k : Int)) = xs.take k := by
  unfold cutV
  rw [HT.sIx_none, HT.sIx_nat, List.drop_zero, Nat.sub_zero, take_min]
theorem cut_drop (xs : List V) (k : Nat) : cutV xs (some (k : Int)) none = xs.drop k := by
  unfold cutV
  rw [HT.sIx_none, HT.sIx_nat, drop_min, List.take_of_length_le]
  rw [List.length_drop]
  omega
/-! ### texts as data -/
theorem dp_all {K : PySem.W.Frag} {H : Hp} : ∀ ys : List Str, DpAll K H (ys.map V.str) (ys.map PyData.str)
  | [] => .nil
  | y :: r => .cons (.str y) (dp_all r)
theorem dp_list {K : PySem.W.Frag} {H : Hp} {a : Addr} {ys : List Str} (h : H a = some (.lst (ys.map V.str))) : Dp K H (.ref a) (.list (ys.map PyData.str)) := .lst (SqL.of h) (dp_all ys)
theorem dp_tup {K : PySem.W.Frag} {H : Hp} {a : Addr} {ys : List Str} (h : H a = some (.tup (ys.map V.str))) : Dp K H (.ref a) (.tuple (ys.map PyData.str)) := .tup (SqT.of h) (dp_all ys)
theorem can_strs : ∀ ys : List Str, (∀ y ∈ ys, PyData.strOk y = true) → PyData.canLayAll0 (ys.map PyData.str) = true
  | [], _ => by rw [List.map_nil, PyData.canLayAll0]
  | y :: r, h => by
    rw [List.map_cons, PyData.canLayAll0, PyData.canLay0, h y List.mem_cons_self, can_strs r fun z hz => h z (List.mem_cons_of_mem _ hz)]
    rfl
theorem depth_strs : ∀ ys : List Str, PyData.depthAll (ys.map PyData.str) = 0
  | [] => by rw [List.map_nil, PyData.depthAll]
  | y :: r => by
    rw [List.map_cons, PyData.depthAll, depth_strs r, PyData.depth]
    rfl
theorem shaped_list {ys : List Str} (h : ∀ y ∈ ys, PyData.strOk y = true) : SeqAt.shaped (.list (ys.map PyData.str)) = true := by
  unfold SeqAt.shaped
  rw [PyData.canLay0, can_strs ys h, PyData.depth, depth_strs]
  rfl
theorem shaped_tup {ys : List Str} (h : ∀ y ∈ ys, PyData.strOk y = true) : SeqAt.shaped (.tuple (ys.map PyData.str)) = true := by
  unfold SeqAt.shaped
  rw [PyData.canLay0, can_strs ys h, PyData.depth, depth_strs]
  rfl
theorem eqv_strs : ∀ xs ys : List Str, PyData.eqvAll (xs.map PyData.str) (ys.map PyData.str) = decide (xs = ys)
  | [], [] => by rw [List.map_nil, PyData.eqvAll]; rfl
  | [], y :: r => by rw [List.map_nil, List.map_cons, PyData.eqvAll]; rfl
  | x :: r, [] => by rw [List.map_nil, List.map_cons, PyData.eqvAll]; rfl
  | x :: r, y :: s => by
    rw [List.map_cons, List.map_cons, PyData.eqvAll, PyData.eqv, eqv_strs r s, Bool.eq_iff_iff, Bool.and_eq_true, beq_iff_eq, decide_eq_true_iff, decide_eq_true_iff, List.cons.injEq]
theorem eqv_lists (xs ys : List Str) : PyData.eqv (.list (xs.map PyData.str)) (.list (ys.map PyData.str)) = decide (xs = ys) := by rw [PyData.eqv, eqv_strs]
theorem eqv_tups (xs ys : List Str) : PyData.eqv (.tuple (xs.map PyData.str)) (.tuple (ys.map PyData.str)) = decide (xs = ys) := by rw [PyData.eqv, eqv_strs]
/-! ### ints as data -/
theorem dpi_all {K : PySem.W.Frag} {H : Hp} : ∀ ys : List Int, DpAll K H (ys.map V.int) (ys.map PyData.int)
  | [] => .nil
  | y :: r => .cons (.int y) (dpi_all r)
theorem can_ints : ∀ ys : List Int, PyData.canLayAll0 (ys.map PyData.int) = true
  | [] => by rw [List.map_nil, PyData.canLayAll0]
  | y :: r => by rw [List.map_cons, PyData.canLayAll0, PyData.canLay0, can_ints r]; rfl
theorem depth_ints : ∀ ys : List Int, PyData.depthAll (ys.map PyData.int) = 0
  | [] => by rw [List.map_nil, PyData.depthAll]
  | y :: r => by rw [List.map_cons, PyData.depthAll, depth_ints r, PyData.depth]; rfl
theorem shapedi_list (ys : List Int) : SeqAt.shaped (.list (ys.map PyData.int)) = true := by
  unfold SeqAt.shaped
  rw [PyData.canLay0, can_ints ys, PyData.depth, depth_ints]
  rfl
theorem shapedi_tup (ys : List Int) : SeqAt.shaped (.tuple (ys.map PyData.int)) = true := by
  unfold SeqAt.shaped
  rw [PyData.canLay0, can_ints ys, PyData.depth, depth_ints]
  rfl
theorem eqv_ints : ∀ xs ys : List Int, PyData.eqvAll (xs.map PyData.int) (ys.map PyData.int) = decide (xs = ys)
  | [], [] => by rw [List.map_nil, PyData.eqvAll]; rfl
  | [], y :: r => by rw [List.map_nil, List.map_cons, PyData.eqvAll]; rfl
  | x :: r, [] => by rw [List.map_nil, List.map_cons, PyData.eqvAll]; rfl
  | x :: r, y :: s => by
    rw [List.map_cons, List.map_cons, PyData.eqvAll, PyData.eqv, eqv_ints r s, Bool.eq_iff_iff, Bool.and_eq_true, beq_iff_eq, decide_eq_true_iff, decide_eq_true_iff, List.cons.injEq]
theorem eqvi_lists (xs ys : List Int) : PyData.eqv (.list (xs.map PyData.int)) (.list (ys.map PyData.int)) = decide (xs = ys) := by rw [PyData.eqv, eqv_ints]
theorem eqvi_tups (xs ys : List Int) : PyData.eqv (.tuple (xs.map PyData.int)) (.tuple (ys.map PyData.int)) = decide (xs = ys) := by rw [PyData.eqv, eqv_ints]
/-! ### promises of the helpers -/
def spDraw : Sp := fun vs H Q _ => ∃ (S C : Addr) (n : Int), vs = [.ref S, .int n] ∧ 0 < n ∧ n.natAbs < 2 ^ 200 ∧ StOk H S C ∧ ∀ H' d, Mod S C H H' → StOk H' S C → 0 ≤ d → d < n → Q (.int d) H'
/-- one of a list, or one sign of a text -/
def spPick : Sp := fun vs H Q _ => ∃ (S C : Addr) (x : V), vs = [.ref S, x] ∧ StOk H S C ∧
  ((∃ a xs, x = .ref a ∧ a ≠ S ∧ a ≠ C ∧ H a = some (.lst xs) ∧ 0 < xs.length ∧ xs.length ≤ 1000 ∧ ∀ H' v, Mod S C H H' → StOk H' S C → v ∈ xs → Q v H') ∨
   (∃ z : Str, x = .str z ∧ 0 < z.cps.toList.length ∧ z.length ≤ 1000 ∧ ∀ H' c, Mod S C H H' → StOk H' S C → c ∈ z.cps.toList → Q (.str ⟨#[c]⟩) H'))
/-- a new list of the same, in some order -/
def spMixed : Sp := fun vs H Q _ => ∃ (S C a : Addr) (ns : List Str), vs = [.ref S, .ref a] ∧ StOk H S C ∧ H a = some (.lst (ns.map V.str)) ∧ ns.length ≤ 100 ∧ (∀ y ∈ ns, PyData.strOk y = true) ∧
  ∀ H' p ys, Mod S C H H' → StOk H' S C → H p = none → H' p = some (.lst (List.map V.str ys)) → ys.Perm ns → Q (.ref p) H'
/-- a slip of at most 58 figures -/
def spSlip : Sp := fun vs H Q _ => ∃ (S C : Addr), vs = [.ref S] ∧ StOk H S C ∧ ∀ H' z, Mod S C H H' → StOk H' S C → Int.natAbs z < 10 ^ 58 → Q (.int z) H'
def spState (K : PySem.W.Frag) : Sp := fun vs H Q _ => ∃ (a : Addr) (ns : List Int), vs = [.ref a] ∧ SqL K H a (ns.map V.int) ∧ ns.length ≤ 63 ∧ ∀ H' S C, Same H H' → H S = none → H C = none → StOk H' S C → Q (.ref S) H'
def spLaw (K : PySem.W.Frag) : Sp := fun vs H Q _ => ∃ (a : Addr) (ns : List Int), vs = [.ref a] ∧ SqL K H a (ns.map V.int) ∧ ns.length ≤ 63 ∧ ∀ H', Q (.bl true) H'
end GL
/-! Own rule: sorted(d), d a dict whose keys are numbers, however many. -/
namespace L2
open PySem PySem.Spec PyProof.Rows
variable {X : Cx}
theorem keys_nums {us : List Value} {ns : List Int} (h : us.length = ns.length) (g : ∀ (i : Nat) (u : Value) (n : Int), us[i]? = some u → ns[i]? = some n → ∃ t, u = Value.int n t) : IntsAre us ns := by
  refine ints_each h fun i u e => ?_
  have hlt : i < ns.length := by rw [← h]; exact (List.getElem?_eq_some_iff.mp e).1
  obtain ⟨t, rfl⟩ := g i u _ e (List.getElem?_eq_getElem hlt)
  exact ⟨_, t, List.getElem?_eq_getElem hlt, rfl⟩
def rSortKeys : List V → Hp → VK → Prop := fun xs H Q => ∃ (d : Addr) (kvs : List (Key × V)) (ns : List Int), xs = [.ref d] ∧ Rd H d (.dK kvs) ∧ kvs.map (·.1) = ns.map Sum.inl ∧ ns.length ≤ 5000 ∧
  ∀ (ms : List Int) (q : Addr), ms.Perm ns → ms.Pairwise (· ≤ ·) → H q = none → Q (.ref q) (upd H q (.lst (ms.map V.int)))
theorem cr_sortedKeys (calm : X.calm = true) : CallR X (.builtin "sorted") rSortKeys := by
  intro pins s σ H xs us Q I rel hyp
  obtain ⟨d, kvs, ns, rfl, hd, hk, hlen, fin⟩ := hyp
  rw [Vals.ref1 rel]
  obtain ⟨z, lo, raw, krel, dl⟩ := dk_rd I.hok hd
  obtain ⟨ep, at'⟩ := dl.dictAt
  have hraw : raw.map (·.1) = ns.map Sum.inl := krel.keys.symm.trans hk
  have len : raw.length = ns.length := by simpa using congrArg List.length hraw
  have line : ns.length ≤ sizeLine := Nat.le_trans hlen (by decide)
  refine Calls.call_function_entry PyProof.Rows.kind_sorted PyProof.Rows.plain_sorted PyProof.Rows.entry_sorted (PyProof.Rows.args_sorted1 _) ?_
  unfold Builtin.«sorted»
  refine wpAny_bind (m := checkCount "sorted" 1 1 _) (wpAny_pure ?_)
  refine wpAny_bind (PySem.W.kdu_collect (A := X.A.in1) (PySem.W.kdl_dict (knd := mixKind X.prog X.w) (kvs := raw) (ep := ep) lo) (I.ok.hd calm) at' (by rw [len]; exact line) fun h1 tk got kept hgot => ?_)
  have gl : got.toList.length = ns.length := by rw [Array.length_toList, hgot.1, len]
  have nums : IntsAre got.toList ns := keys_nums gl fun i u n e en => by
    obtain ⟨k, w, e1, e2⟩ := hgot.2 i u (by rw [← Array.getElem?_toList]; exact e)
    have e3 : (raw.map (·.1))[i]? = some k := by rw [List.getElem?_map, e1]; rfl
    rw [hraw, List.getElem?_map, en] at e3
    have e4 : Sum.inl n = k := Option.some.inj e3
    subst e4
    rcases keyIs_shape (show keyIs (Sum.inl n) u = true from e2) with ⟨m, t, ek, ev⟩ | ⟨m, t, ek, ev⟩
    · cases ek
      exact ⟨t, ev⟩
    · cases ek
  have I1 : Inv X pins σ H { s with heap := h1, toks := tk } := I.kept kept
  refine wpAny_bind (wpAny_newList ?_ (by rw [gl]; exact line))
  have ob : (h1.push (seqObj "list" got.toList.toArray 0)).get? h1.objs.size = some (seqObj "list" got.toList.toArray 0) := Heap.get?_push_size _ rfl
  show wpAny _ _ _ _ _ { s with heap := h1.push (seqObj "list" got.toList.toArray 0), toks := tk }
  refine wpAny_bind (wpAny_holding (wpAny_call_entry PyProof.Rows.slot_list_sort ⟨_, ob, rfl⟩ PyProof.Rows.entry_list_sort
    (SrtO.list_sort_ord SrtO.swo_int (s := { s with heap := h1.push (seqObj "list" got.toList.toArray 0), toks := tk }) ob (by rw [gl]; exact line) (fun two => SrtO.ints_sortable nums two) fun out g1 g2 => ⟨_, rfl, ?_⟩) (PyProof.Rows.args_list_sort _)))
  obtain ⟨k1, k2, k3⟩ := SrtO.ints_out nums g1 g2
  obtain ⟨ep', at2⟩ := PyProof.Rows.sortedHeap_at (vs := got.toList) (out := out.toArray) ob
  have small : ((out.map SrtO.iv).map V.int).length ≤ sizeLine := by rw [List.length_map, k2.length_eq]; exact line
  refine wpAny_pure ⟨_, rfl, .ref h1.objs.size, upd H h1.objs.size (.lst ((out.map SrtO.iv).map V.int)), I1.laid (t' := tk) (fun b u e => ?_) (Nat.le_refl _)
    (show ObjOk X.prog X.w _ _ _ (.lst ((out.map SrtO.iv).map V.int)) from ⟨small, out, ep', vals_of_ints k1, at2⟩), rfl, fin _ _ k2 k3 (I1.hok.fresh (Nat.le_refl _))⟩
  have lt := Heap.lt_size e
  rw [PyProof.Rows.sortedHeap_old (Nat.ne_of_lt lt) (by rw [size_push']; exact Nat.lt_succ_of_lt lt)]
  exact Heap.get?_push_of_some _ e
/-- a row to be gone through that is a list or a tuple -/
theorem pi_either {tg e : Expr} {w1 w2 : TI} (a : PI X tg e w1) (b : PI X tg e w2) : PI X tg e (fun σ H R => w1 σ H R ∨ w2 σ H R) :=
  ⟨fun pins s σ H R I h => h.elim (a.run pins s σ H R I) (b.run pins s σ H R I)⟩
end L2
/-! Tuples of which it is known that they have no dict of their own: made by tuple(l), t + u, t[i:j]; t.index(x). -/
namespace L2
open PySem PySem.Spec PyProof.Rows
/-- a tuple whose object is known -/
def TupF (H : Hp) (a : Addr) (xs : List V) : Prop := ∃ o : Obj, o.dict = none ∧ H a = some (.frz o (.tup xs))
theorem TupF.same {H H' : Hp} {a : Addr} {xs : List V} (h : TupF H a xs) (s : Same H H') : TupF H' a xs := let ⟨o, e, q⟩ := h; ⟨o, e, s _ _ q⟩
theorem TupF.sq {K : PySem.W.Frag} {H : Hp} {a : Addr} {xs : List V} (h : TupF H a xs) : SqT K H a xs := let ⟨o, _, q⟩ := h; .inl (.inr ⟨o, q⟩)
section
variable {X : Cx}
/-- tuple(l), l a list -/
theorem call_tupleF : CallR X (.type "tuple") (fun xs H Q => ∃ p ys, xs = [.ref p] ∧ SqL X.K H p ys ∧ ∀ l o, H l = none → o.dict = none → Q (.ref l) (upd H l (.frz o (.tup ys)))) := by
  intro pins s σ H xs us Q I r h
  obtain ⟨p, ys, rfl, hq, q⟩ := h
  obtain ⟨u, rfl, rx⟩ := vals1 r
  cases rx
  obtain ⟨its, r', pl, hz⟩ := I.list hq
  have hlen := r'.length
  refine call_tuple_list pl.isList (fun h' kp => ?_) (by simp only [List.size_toArray] <;> omega)
  have I1 : Inv X pins σ H { s with heap := h' } := I.kept (t' := s.toks) kp
  have I2 : Inv X pins σ (upd H h'.objs.size (.frz { cls := .type "tuple", data := .seq its.toArray } (.tup ys))) { s with heap := h'.push { cls := .type "tuple", data := .seq its.toArray } } :=
    I1.laid (t' := s.toks) (fun b o e => Heap.get?_push_of_some _ e) (Nat.le_refl _) (show ObjOk X.prog X.w _ _ _ (.frz { cls := .type "tuple", data := .seq its.toArray } (.tup ys)) from ⟨Heap.get?_push_size _ rfl, hz, its, r', IsTup.new _ _⟩)
  exact ⟨.ref h'.objs.size, _, I2, rfl, q _ _ (I1.hok.fresh (Nat.le_refl _)) rfl⟩
/-- t + u -/
def rCatF (K : PySem.W.Frag) : R2 := fun x y H Q => ∃ a b xs ys, x = .ref a ∧ y = .ref b ∧ SqT K H a xs ∧ SqT K H b ys ∧ xs.length + ys.length ≤ sizeLine ∧
  (xs = [] → Q (.ref b) H) ∧ (xs ≠ [] → ys = [] → Q (.ref a) H) ∧ (xs ≠ [] → ys ≠ [] → ∀ p o, H p = none → o.dict = none → Q (.ref p) (upd H p (.frz o (.tup (xs ++ ys)))))
theorem op_catF : OpR X (binaryOp .Add) (rCatF X.K) := by
  intro pins s σ H x y v u Q I rx ry h
  obtain ⟨a, b, xs, ys, rfl, rfl, ha, hb, hz, q0, q1, q2⟩ := h
  by_cases hx : xs = []
  · subst hx
    exact op_catA pins s σ H _ _ v u Q I rx ry ⟨a, b, [], ys, rfl, rfl, ha, hb, hz, q0, fun e => absurd rfl e, fun e => absurd rfl e⟩
  · cases rx
    cases ry
    obtain ⟨its, r1, p1, _⟩ := I.tuple ha
    obtain ⟨its2, r2, p2, _⟩ := I.tuple hb
    refine HT.cat_tup p1 p2 (fun z => hx (r1.nil_iff.mp z)) (fun z => ⟨.ref a, H, I, rfl, q1 hx (r2.nil_iff.mp z)⟩) (fun z => ?_) (by rw [← r1.length, ← r2.length]; exact hz)
    refine ⟨.ref s.heap.objs.size, _, I.laid (t' := s.toks) (o := .frz { cls := .type "tuple", data := .seq (its ++ its2).toArray } (.tup (xs ++ ys))) (fun b ob q => Heap.get?_push_of_some _ q) (Nat.le_refl _) ?_, rfl, q2 hx (fun w => z (r2.nil_iff.mpr w)) _ _ (I.hok.fresh (Nat.le_refl _)) rfl⟩
    exact ⟨Heap.get?_push_size _ rfl, by rw [List.length_append]; exact hz, _, r1.append r2, IsTup.new _ _⟩
/-- t[lo:hi] -/
def rSlF (K : PySem.W.Frag) : V → Option Int → Option Int → Hp → VK → Prop := fun x lo hi H Q => ∃ a xs, x = .ref a ∧ SqT K H a xs ∧
  (HT.sIx xs.length 0 lo = 0 ∧ HT.sIx xs.length xs.length hi = xs.length → Q (.ref a) H) ∧ (¬ (HT.sIx xs.length 0 lo = 0 ∧ HT.sIx xs.length xs.length hi = xs.length) → ∀ p o, H p = none → o.dict = none → Q (.ref p) (upd H p (.frz o (.tup (cutV xs lo hi)))))
theorem sl_tupF : SlR X (rSlF X.K) := by
  intro pins s σ H x v vl vu lo hi sl Q I rx hs pl pu h
  obtain ⟨a, xs, rfl, hx, q1, q2⟩ := h
  by_cases hw : HT.sIx xs.length 0 lo = 0 ∧ HT.sIx xs.length xs.length hi = xs.length
  · exact sl_tupA pins s σ H _ v vl vu lo hi sl Q I rx hs pl pu ⟨a, xs, rfl, hx, q1, fun e => absurd hw e⟩
  · cases rx
    obtain ⟨its, r, ht, hz⟩ := I.tuple hx
    have hlen : its.toArray.size = xs.length := by rw [List.size_toArray]; exact r.length.symm
    refine ⟨"tuple", _, PyProof.Rows.slot_tuple_getitem.lookup, ht.typeIs, ?_⟩
    refine HT.getItem_tuple_cut ht hs pl pu (by rw [hlen]; exact hw) ?_ (by rw [hlen]; exact hz)
    rw [hlen]
    refine ⟨.ref s.heap.objs.size, _, I.laid (t' := s.toks) (o := .frz { cls := .type "tuple", data := .seq ((its.drop (HT.sIx xs.length 0 lo)).take (HT.sIx xs.length xs.length hi - HT.sIx xs.length 0 lo)).toArray } (.tup (cutV xs lo hi))) (fun b ob q => Heap.get?_push_of_some _ q) (Nat.le_refl _) ?_, rfl, q2 hw _ _ (I.hok.fresh (Nat.le_refl _)) rfl⟩
    exact ⟨Heap.get?_push_size _ rfl, Nat.le_trans (cutV_length xs lo hi) hz, _, (r.drop (HT.sIx xs.length 0 lo)).take (HT.sIx xs.length xs.length hi - HT.sIx xs.length 0 lo), IsTup.new _ _⟩
def tBMF (r : V → List V → Hp → VK → Prop) (to : TE) (t : TA) : TE := fun σ H Q => to σ H fun x H1 => (∃ a xs, x = .ref a ∧ TupF H1 a xs) ∧ t σ H1 fun xs H2 => r x xs H2 Q
variable {o e : Expr} {es : List Expr} {to : TE} {t : TA} {name : Str} {apos cpos : Pos} {id : String} {r : V → List V → Hp → VK → Prop}
/-- t.m(e, ..), t a tuple whose object is known -/
theorem pe_bmF (slot : Slot "tuple" name id) (hty : typeOf (.builtin id) = pure (.type "method_descriptor")) (hm : MtR X id r) (ho : PE X o to) (ha : PA X (e :: es) t)
    (hbase : attributeBase o name X.env (eval o X.env) = eval o X.env := by rfl)
    (hfew : ((backTo cpos (starEach (e :: es) X.env)).all (fun x => !x.1) && (backToKw cpos (keywordEach [] X.env)).all (fun x => x.1.isSome)
      && decide ((e :: es).length + ([] : List Keyword).length + (if ([] : List Keyword).isEmpty then 0 else 1) < 30)) = true := by rfl)
    (hline : (apos.endLine == cpos.line) = true := by rfl) (hs : starEach (e :: es) X.env = (false, eval e X.env) :: starEach es X.env := by rfl) (hplain : (backTo cpos (starEach es X.env)).any (·.1) = false := by rfl) :
    PE X (.Call (.Attribute o name apos) (e :: es) [] cpos) (tBMF r to t) := by
  refine ⟨fun pins s σ H Q I h => ?_⟩
  refine wpAny_Call_method_late hbase hfew hline rfl (thn (ho.run pins s σ H _ I h) fun v s1 ⟨x, H1, I1, r1, ty, q1⟩ => ?_)
  obtain ⟨a, xs, rfl, ob, hd, he⟩ := ty
  cases (show v = Value.ref a from r1)
  obtain ⟨hg, _, its, rv, o', h1, h2, _⟩ := (show ObjOk X.prog X.w H1 s1.heap a (.frz ob (.tup xs)) from I1.hok a _ he)
  refine ⟨"tuple", id, PySem.F.plainAttrs_tuple, slot, hty, ⟨o', h1, h2⟩, fun b eb => ?_, ?_⟩
  · cases eb
    exact ⟨ob, hg, hd⟩
  have hA := ha.run cpos pins s1 σ H1 _ I1 q1
  rw [hs] at hA ⊢
  refine Calls.callWith_builtin (by show (false || (backTo cpos (starEach es X.env)).any (·.1)) = false; rw [hplain] <;> rfl) (Calls.evalArgs_plain ?_)
  exact thn hA fun us s2 ⟨vs, H2, I2, r2, q2⟩ => hm pins s2 σ H2 _ vs _ us Q I2 r1 r2 q2
end
end L2
/-! Own rule: list(range(a, b, c)), c from 1 on. -/
namespace L2
open PySem PySem.Spec PyProof.Rows
theorem range_small {a b c : Int} (a0 : 0 ≤ a) (b0 : 0 ≤ b) (c0 : 0 < c) (a1 : a ≤ 100000) (b1 : b ≤ 100000) (c1 : c ≤ 100000) : Builtin.Range.small a b c = true ∧ Builtin.Range.rangeSize a b c ≤ 100000 ∧ 0 ≤ Builtin.Range.rangeSize a b c := by
  have hs : Builtin.Range.rangeSize a b c ≤ 100000 ∧ 0 ≤ Builtin.Range.rangeSize a b c := by
    unfold Builtin.Range.rangeSize
    rw [if_pos (show c > 0 from c0)]
    split
    · have h1 : (b - a - 1) / c ≤ b - a - 1 := Int.ediv_le_self _ (by omega)
      have h2 : 0 ≤ (b - a - 1) / c := Int.ediv_nonneg (by omega) (by omega)
      omega
    · omega
  refine ⟨?_, hs⟩
  obtain ⟨s1, s2⟩ := hs
  unfold Builtin.Range.small
  rw [if_pos (show c > 0 from c0)]
  simp only [Builtin.Range.rangeFitsLong, Bool.and_eq_true, Bool.or_eq_true, decide_eq_true_eq]
  refine ⟨⟨⟨⟨?_, ?_⟩, ?_⟩, ?_⟩, .inr ?_⟩ <;> omega
/-- the numbers from a on below b, by c -/
def rgC (a b c : Int) : List Int := (List.range (Builtin.Range.rangeSize a b c).toNat).map fun k : Nat => a + (k : Int) * c
def tListRgC (ta : TA) : TE := fun σ H Q => ta σ H fun vs H1 => ∃ i j c : Int, vs = [.int i, .int j, .int c] ∧ (0 ≤ i ∧ 0 ≤ j ∧ 0 < c ∧ i ≤ 100000 ∧ j ≤ 100000 ∧ c ≤ 100000) ∧ ∀ q, H1 q = none → Q (.ref q) (upd H1 q (.lst ((rgC i j c).map V.int)))
theorem pe_listRgC {X : Cx} {a b c : Expr} {ta : TA} {p p2 pos pos2 : Pos} (hc : X.calm = true) (hm : X.mg "list" = none) (hm2 : X.mg "range" = none) (ha : PA X [a, b, c] ta) (hg : Gl X "list" := by rfl) (hg2 : Gl X "range" := by rfl)
    (hs : starEach [a, b, c] X.env = (false, eval a X.env) :: starEach [b, c] X.env := by rfl) (hpl : (backTo pos2 (starEach [b, c] X.env)).any (·.1) = false := by rfl)
    (na : starEach [.Call (.Name "range" p2) [a, b, c] [] pos2] X.env = (false, eval (.Call (.Name "range" p2) [a, b, c] [] pos2) X.env) :: starEach [] X.env := by rfl) :
    PE X (.Call (.Name "list" p) [.Call (.Name "range" p2) [a, b, c] [] pos2] [] pos) (tListRgC ta) := by
  refine ⟨fun pins s σ H Q I h => ?_⟩
  have hr : wpAny (model X.prog X.w) X.A (eval (.Call (.Name "range" p2) [a, b, c] [] pos2) X.env) (fun x s' => ∃ (r : Addr) (i j k : Int) (t u v : Tok) (H' : Hp), x = .ref r ∧ IsRange s'.heap r i j k t u v ∧ Inv X pins σ H' s' ∧
      (0 ≤ i ∧ 0 ≤ j ∧ 0 < k ∧ i ≤ 100000 ∧ j ≤ 100000 ∧ k ≤ 100000) ∧ ∀ q, H' q = none → Q (.ref q) (upd H' q (.lst ((rgC i j k).map V.int)))) X.xe s := by
    refine Call_ (ld_blt I hg2 hm2 boot_range (callWith_type1 (thn (ha.run pos2 pins s σ H _ I h) fun us s1 ⟨vs, H1, I1, r1, q1⟩ => ?_) hs hpl))
    obtain ⟨i, j, k, rfl, ok, q⟩ := q1
    cases r1 with
    | cons r rr =>
      cases rr with
      | cons r' rr =>
        cases rr with
        | cons r'' rr =>
          cases rr
          obtain ⟨t, rfl⟩ := r; obtain ⟨t', rfl⟩ := r'; obtain ⟨t'', rfl⟩ := r''
          exact call_range_3 (by omega) ⟨_, i, j, k, _, _, _, H1, rfl, IsRange.new .., I1.kept (t' := s1.toks) fun b o e => Heap.get?_push_of_some _ e, ok, q⟩ (.inl (PyProof.noPylong_small (by omega)))
  refine Call_ (ld_blt I hg hm boot_list (callWith_type1 (args_cons (thn hr fun x s1 ⟨r, i, j, k, t, u, v, H1, ex, hr, I1, ok, q⟩ => args_nil ?_) na) na))
  subst ex
  obtain ⟨o1, o2, o3, o4, o5, o6⟩ := ok
  obtain ⟨sm, s1', s2'⟩ := range_small o1 o2 o3 o4 o5 o6
  refine call_list_range (n := (Builtin.Range.rangeSize i j k).toNat) (I1.ok.hd hc) hr sm (by omega) (by omega) fun h' tk acc c' hk e' hi => ?_
  have hl : acc.toList.length = (Builtin.Range.rangeSize i j k).toNat := by rw [Array.length_toList]; exact hi.1
  have hv : Vals ((rgC i j k).map V.int) acc.toList := by
    unfold rgC
    rw [← hl, List.map_map]
    refine vals_of_get acc.toList _ fun m w hm => ?_
    obtain ⟨t, rfl⟩ := hi.2 m w (by rw [← hm, Array.getElem?_toList])
    exact ⟨t, rfl⟩
  refine ⟨.ref s1.heap.objs.size, upd H1 s1.heap.objs.size (.lst ((rgC i j k).map V.int)), I1.laid hk (Nat.le_refl _) (show ObjOk X.prog X.w _ _ _ (.lst ((rgC i j k).map V.int)) from ⟨?_, acc.toList, c', hv, by rw [Array.toArray_toList]; exact e'⟩), rfl, q _ (I1.hok.fresh (Nat.le_refl _))⟩
  unfold rgC
  rw [List.length_map, List.length_map, List.length_range, sizeLine_eq]
  omega
end L2
/-! Rests. -/
namespace GL
open PySem PySem.Spec PyProof.Rows L2
theorem gcd_pos {m n : Int} (hm : 0 < m) : 0 < (Int.gcd m n : Int) := by
  have : Int.gcd m n ≠ 0 := fun e => by
    rw [Int.gcd_eq_zero_iff] at e
    omega
  omega
theorem dvd_of_emod {a b : Int} (h : a % b = 0) : b ∣ a := Int.dvd_of_emod_eq_zero h
theorem emod_iff {a b : Int} : a % b = 0 ↔ b ∣ a := ⟨Int.dvd_of_emod_eq_zero, Int.emod_eq_zero_of_dvd⟩
/-- parts by the greatest common divisor have none in common -/
theorem coprime_parts {m n : Int} (hm : 0 < m) : Int.gcd (m / (Int.gcd m n : Int)) (n / (Int.gcd m n : Int)) = 1 := by
  have hg := gcd_pos (n := n) hm
  obtain ⟨a, ha⟩ := Int.gcd_dvd_left (a := m) (b := n)
  obtain ⟨b, hb⟩ := Int.gcd_dvd_right (a := m) (b := n)
  generalize hG : (Int.gcd m n : Int) = G at *
  have e1 : m / G = a := by rw [ha]; exact Int.mul_ediv_cancel_left _ (by omega)
  have e2 : n / G = b := by rw [hb]; exact Int.mul_ediv_cancel_left _ (by omega)
  rw [e1, e2]
  have h : Int.gcd (G * a) (G * b) = G.natAbs * Int.gcd a b := Int.gcd_mul_left ..
  rw [← ha, ← hb] at h
  have hGn : G.natAbs = Int.gcd m n := by rw [← hG]; exact Int.natAbs_natCast _
  rw [hGn] at h
  have hpos : 0 < Int.gcd m n := by omega
  have : Int.gcd m n * 1 = Int.gcd m n * Int.gcd a b := by rw [Nat.mul_one]; exact h
  exact (Nat.eq_of_mul_eq_mul_left hpos this).symm
/-- one step of the common rest -/
theorem crt_step {r m s n inv : Int} (hm : 0 < m) (hn : 0 < n) (h0 : 0 ≤ r) (h1 : r < m) (hs0 : 0 ≤ s) (hs1 : s < n) (hd : (s - r) % (Int.gcd m n : Int) = 0)
    (hi : (n / (Int.gcd m n : Int)) ∣ (m / (Int.gcd m n : Int)) * inv - 1) :
    let p := n / (Int.gcd m n : Int)
    let st := ((s - r) / (Int.gcd m n : Int) * inv) % p
    0 < p ∧ 0 ≤ r + m * st ∧ r + m * st < m * p ∧ (r + m * st) % m = r ∧ (r + m * st) % n = s := by
  have hg := gcd_pos (n := n) hm
  obtain ⟨a, ha⟩ := Int.gcd_dvd_left (a := m) (b := n)
  obtain ⟨b, hb⟩ := Int.gcd_dvd_right (a := m) (b := n)
  obtain ⟨k, hk⟩ := dvd_of_emod hd
  generalize (Int.gcd m n : Int) = G at *
  have e1 : m / G = a := by rw [ha]; exact Int.mul_ediv_cancel_left _ (by omega)
  have e2 : n / G = b := by rw [hb]; exact Int.mul_ediv_cancel_left _ (by omega)
  have e3 : (s - r) / G = k := by rw [hk]; exact Int.mul_ediv_cancel_left _ (by omega)
  rw [e1, e2] at hi
  have hb0 : 0 < b := by
    rcases Int.lt_trichotomy b 0 with c | c | c
    · have : G * b < 0 := Int.mul_neg_of_pos_of_neg hg c
      omega
    · rw [c, Int.mul_zero] at hb
      omega
    · exact c
  intro p st
  have ep : p = b := e2
  have est : st = (k * inv) % b := by show ((s - r) / G * inv) % (n / G) = _; rw [e2, e3]
  have t0 : 0 ≤ st := by rw [est]; exact Int.emod_nonneg _ (by omega)
  have t1 : st < b := by rw [est]; exact Int.emod_lt_of_pos _ hb0
  have q0 : 0 ≤ m * st := Int.mul_nonneg (by omega) t0
  have q1 : m * st ≤ m * (b - 1) := Int.mul_le_mul_of_nonneg_left (by omega) (by omega)
  refine ⟨by rw [ep]; exact hb0, by omega, ?_, ?_, ?_⟩
  · rw [ep]
    have : m * (b - 1) = m * b - m := by rw [Int.mul_sub, Int.mul_one]
    omega
  · rw [Int.add_mul_emod_self_left]
    exact Int.emod_eq_of_lt h0 h1
  · obtain ⟨c, hc⟩ := hi
    -- st = k * inv - b * q
    have hq : st = k * inv - b * (k * inv / b) := by
      rw [est]
      have := Int.emod_add_mul_ediv (k * inv) b
      omega
    have key : r + m * st = s + n * (k * c - a * (k * inv / b)) := by
      have e4 : r = s - G * k := by omega
      rw [hq, e4, ha, hb]
      have e5 : a * inv = b * c + 1 := by omega
      have : G * a * (k * inv - b * (k * inv / b)) = G * k * (a * inv) - G * b * (a * (k * inv / b)) := by
        rw [Int.mul_sub]
        congr 1
        · rw [Int.mul_assoc, Int.mul_assoc, ← Int.mul_assoc a, Int.mul_comm a k, Int.mul_assoc k]
        · rw [Int.mul_assoc, Int.mul_assoc, ← Int.mul_assoc a, Int.mul_comm a b, Int.mul_assoc b]
      rw [this, e5, Int.mul_add, Int.mul_one, Int.mul_sub]
      have : G * k * (b * c) = G * b * (k * c) := by
        rw [Int.mul_assoc, Int.mul_assoc, ← Int.mul_assoc k, Int.mul_comm k b, Int.mul_assoc b]
      rw [this]
      omega
    rw [key, Int.add_mul_emod_self_left]
    exact Int.emod_eq_of_lt hs0 hs1
/-- no number has both where the divisor parts them -/
theorem crt_none {r m s n x : Int} (h1 : x % m = r) (h2 : x % n = s) : (s - r) % (Int.gcd m n : Int) = 0 := by
  rw [emod_iff]
  have a : m ∣ x - r := by rw [← h1]; exact Int.dvd_self_sub_emod
  have b : n ∣ x - s := by rw [← h2]; exact Int.dvd_self_sub_emod
  have a' := Int.dvd_trans (Int.gcd_dvd_left (a := m) (b := n)) a
  have b' := Int.dvd_trans (Int.gcd_dvd_right (a := m) (b := n)) b
  have := Int.dvd_sub a' b'
  rwa [show x - r - (x - s) = s - r by omega] at this
/-- all common multiples are multiples of m * (n / g) -/
theorem lcm_dvd {m n d : Int} (hm : 0 < m) (h1 : m ∣ d) (h2 : n ∣ d) : m * (n / (Int.gcd m n : Int)) ∣ d := by
  have hg := gcd_pos (n := n) hm
  have hc := coprime_parts (n := n) hm
  obtain ⟨a, ha⟩ := Int.gcd_dvd_left (a := m) (b := n)
  obtain ⟨b, hb⟩ := Int.gcd_dvd_right (a := m) (b := n)
  generalize (Int.gcd m n : Int) = G at *
  have e1 : m / G = a := by rw [ha]; exact Int.mul_ediv_cancel_left _ (by omega)
  have e2 : n / G = b := by rw [hb]; exact Int.mul_ediv_cancel_left _ (by omega)
  rw [e1, e2] at hc
  rw [e2]
  obtain ⟨x, hx⟩ := h1
  obtain ⟨y, hy⟩ := h2
  have h3 : a * x = b * y := by
    have : G * (a * x) = G * (b * y) := by rw [← Int.mul_assoc, ← Int.mul_assoc, ← ha, ← hb, ← hx, ← hy]
    exact Int.eq_of_mul_eq_mul_left (by omega) this
  have h4 : b ∣ a * x := ⟨y, h3⟩
  have h5 : b ∣ x := by
    have h6 := Int.natAbs_dvd_natAbs.mpr h4
    rw [Int.natAbs_mul] at h6
    have hc' : Nat.Coprime b.natAbs a.natAbs := by
      have : Nat.gcd a.natAbs b.natAbs = 1 := hc
      exact (Nat.gcd_comm _ _).trans this
    exact Int.natAbs_dvd_natAbs.mp (hc'.dvd_of_dvd_mul_left h6)
  obtain ⟨z, hz⟩ := h5
  exact ⟨z, by rw [hx, hz, Int.mul_assoc]⟩
theorem crt_one {m n x y : Int} (hm : 0 < m) (h0 : 0 ≤ x) (h1 : x < m * (n / (Int.gcd m n : Int))) (k0 : 0 ≤ y) (k1 : y < m * (n / (Int.gcd m n : Int))) (a : x % m = y % m) (b : x % n = y % n) : x = y := by
  have d1 : m ∣ x - y := by rw [← emod_iff, Int.sub_emod, a, Int.sub_self, Int.zero_emod]
  have d2 : n ∣ x - y := by rw [← emod_iff, Int.sub_emod, b, Int.sub_self, Int.zero_emod]
  have d := lcm_dvd hm d1 d2
  generalize m * (n / (Int.gcd m n : Int)) = L at *
  have e1 := Int.emod_eq_of_lt h0 h1
  have e2 := Int.emod_eq_of_lt k0 k1
  have : x % L = y % L := by
    rw [← emod_iff] at d
    exact Int.emod_eq_emod_iff_emod_sub_eq_zero.mpr d
  omega
/-- what holds all along of the numbers by which the inverse is reckoned -/
structure InvW (a p h l t o : Int) : Prop where
  hp : 0 < h
  l0 : 0 ≤ l
  cop : Int.gcd h l = 1
  dt : p ∣ a * t - h
  dO : p ∣ a * o - l
  ab : ∃ A B : Int, 0 ≤ A ∧ A ≤ p ∧ 0 ≤ B ∧ B ≤ p ∧ B * h + A * l = p ∧ ((t = A ∧ o = -B) ∨ (t = -A ∧ o = B))
theorem InvW.start {a p : Int} (ha : 0 < a) (hp : 0 < p) (hc : Int.gcd a p = 1) : InvW a p a p 1 0 :=
  ⟨ha, by omega, hc, ⟨0, by rw [Int.mul_one, Int.sub_self, Int.mul_zero]⟩, ⟨-1, by rw [Int.mul_zero]; omega⟩, 1, 0, by omega, by omega, by omega, by omega, by rw [Int.zero_mul, Int.one_mul, Int.zero_add], .inl ⟨rfl, rfl⟩⟩
theorem InvW.step {a p h l t o : Int} (W : InvW a p h l t o) (hl : 0 < l) : InvW a p l (h - h / l * l) o (t - h / l * o) := by
  obtain ⟨hp, l0, cop, dt, dO, A, B, A0, A1, B0, B1, e, sg⟩ := W
  have hq : 0 ≤ h / l := Int.ediv_nonneg (by omega) l0
  have hm : h - h / l * l = h % l := by
    have := Int.emod_add_mul_ediv h l
    rw [Int.mul_comm l] at this
    omega
  have m0 : 0 ≤ h % l := Int.emod_nonneg _ (by omega)
  have B2 : 0 ≤ A + h / l * B := by have := Int.mul_nonneg hq B0; omega
  have key : (A + h / l * B) * l + B * (h - h / l * l) = p := by
    rw [Int.add_mul, Int.mul_sub, ← e, Int.mul_assoc (h / l), Int.mul_comm B l, ← Int.mul_assoc (h / l), Int.mul_comm (h / l * l) B, Int.mul_comm B h, Int.mul_comm A l]
    omega
  refine ⟨hl, by rw [hm]; exact m0, ?_, dO, ?_, B, A + h / l * B, B0, B1, B2, ?_, key, ?_⟩
  · rw [Int.gcd_sub_mul_right_right, Int.gcd_comm]
    exact cop
  · obtain ⟨x, hx⟩ := dt
    obtain ⟨y, hy⟩ := dO
    refine ⟨x - h / l * y, ?_⟩
    have e1 : a * (t - h / l * o) - (h - h / l * l) = (a * t - h) - h / l * (a * o - l) := by
      rw [Int.mul_sub, Int.mul_sub, ← Int.mul_assoc a, Int.mul_comm a (h / l), Int.mul_assoc (h / l)]
      omega
    rw [e1, hx, hy, Int.mul_sub, ← Int.mul_assoc p, Int.mul_comm p (h / l), Int.mul_assoc (h / l)]
  · have n1 : 0 ≤ B * (h - h / l * l) := Int.mul_nonneg B0 (by rw [hm]; exact m0)
    have n2 : (A + h / l * B) * 1 ≤ (A + h / l * B) * l := Int.mul_le_mul_of_nonneg_left (by omega) B2
    rw [Int.mul_one] at n2
    omega
  · rcases sg with ⟨rfl, rfl⟩ | ⟨rfl, rfl⟩
    · refine .inr ⟨rfl, ?_⟩
      rw [Int.mul_neg]
      omega
    · refine .inl ⟨rfl, ?_⟩
      omega
theorem InvW.fin {a p h t o : Int} (W : InvW a p h 0 t o) : p ∣ a * t - 1 ∧ t.natAbs ≤ p.natAbs := by
  obtain ⟨hp, l0, cop, dt, dO, A, B, A0, A1, B0, B1, e, sg⟩ := W
  have : h = 1 := by
    rw [Int.gcd_zero_right] at cop
    omega
  rw [this] at dt
  exact ⟨dt, by rcases sg with ⟨rfl, _⟩ | ⟨rfl, _⟩ <;> omega⟩
theorem InvW.bound {a p h l t o : Int} (W : InvW a p h l t o) : o.natAbs ≤ p.natAbs ∧ t.natAbs ≤ p.natAbs := by
  obtain ⟨hp, l0, cop, dt, dO, A, B, A0, A1, B0, B1, e, sg⟩ := W
  rcases sg with ⟨rfl, rfl⟩ | ⟨rfl, rfl⟩ <;> omega
/-! ### promises -/
/-- a rest stands at t -/
structure RestAt (H : Hp) (t : Addr) (r m : Int) : Prop where
  at' : H t = some (.tup [.int r, .int m])
  r0 : 0 ≤ r
  rm : r < m
  big : m.natAbs < 2 ^ 4000
theorem RestAt.same {H H' : Hp} {t : Addr} {r m : Int} (h : RestAt H t r m) (s : Same H H') : RestAt H' t r m := ⟨s _ _ h.at', h.r0, h.rm, h.big⟩
theorem RestAt.mod {H H' : Hp} {t S C : Addr} {r m : Int} (h : RestAt H t r m) (s : Mod S C H H') (st : StOk H S C) : RestAt H' t r m := ⟨s.other st h.at' (fun _ z => nomatch z), h.r0, h.rm, h.big⟩
theorem RestAt.pos {H : Hp} {t : Addr} {r m : Int} (h : RestAt H t r m) : 0 < m := by have := h.r0; have := h.rm; omega
def spIsInt : Sp := fun vs H Q _ => ∃ z : Int, vs = [.int z] ∧ Q (.bl true) H
def spIsRest : Sp := fun vs H Q _ => ∃ (t : Addr) (r m : Int), vs = [.ref t] ∧ RestAt H t r m ∧ Q (.bl true) H
def spChRest : Sp := fun vs H Q _ => ∃ (t : Addr) (r m : Int), vs = [.ref t] ∧ RestAt H t r m ∧ Q .non H
def spChNum : Sp := fun vs H Q _ => ∃ z : Int, vs = [.int z] ∧ Q .non H
def spHas : Sp := fun vs H Q _ => ∃ (t : Addr) (r m z : Int), vs = [.ref t, .int z] ∧ RestAt H t r m ∧ Q (.bl (decide (z % m = r))) H
def spLeast : Sp := fun vs H Q _ => ∃ (t : Addr) (r m : Int), vs = [.ref t] ∧ RestAt H t r m ∧ Q (.int r) H
def spMoved : Sp := fun vs H Q _ => ∃ (t : Addr) (r m k : Int), vs = [.ref t, .int k] ∧ RestAt H t r m ∧ ∀ H' q, Same H H' → H q = none → RestAt H' q ((r + k) % m) m → Q (.ref q) H'
def spInv : Sp := fun vs H Q _ => ∃ a p : Int, vs = [.int a, .int p] ∧ 0 < a ∧ 0 < p ∧ a.natAbs < 2 ^ 4000 ∧ p.natAbs < 2 ^ 4000 ∧ Int.gcd a p = 1 ∧ ∀ (H' : Hp) (t : Int), Same H H' → p ∣ a * t - 1 → t.natAbs ≤ p.natAbs → Q (.int t) H'
def spBoth : Sp := fun vs H Q _ => ∃ (t u : Addr) (r m s n : Int), vs = [.ref t, .ref u] ∧ RestAt H t r m ∧ RestAt H u s n ∧
  (¬ (s - r) % (Int.gcd m n : Int) = 0 → Q .non H) ∧
  ((s - r) % (Int.gcd m n : Int) = 0 → ∀ H' q x, Same H H' → H q = none → H' q = some (.tup [.int x, .int (m * (n / (Int.gcd m n : Int)))]) → 0 ≤ x → x < m * (n / (Int.gcd m n : Int)) → x % m = r → x % n = s → Q (.ref q) H')
def spBetween : Sp := fun vs H Q _ => ∃ (z lo hi : Int), vs = [.int z, .int lo, .int hi] ∧ lo ≤ z ∧ z ≤ hi ∧ Q .non H
def spBy : Sp := fun vs H Q _ => ∃ (t : Addr) (r m k : Int), vs = [.ref t, .int k] ∧ RestAt H t r m ∧ 1 ≤ k ∧ k ≤ 1000 ∧ ∀ H' q, Same H H' → H q = none → H' q = some (.lst ((rgC (r % (Int.gcd m k : Int)) k (Int.gcd m k : Int)).map V.int)) → Q (.ref q) H'
end GL
namespace GL
open PySem PySem.Spec PyProof.Rows L2
def spGreat : Sp := fun vs H Q _ => ∃ (S C : Addr) (f : Int), vs = [.ref S, .int f] ∧ 0 ≤ f ∧ f ≤ 100 ∧ StOk H S C ∧ ∀ H' z, Mod S C H H' → StOk H' S C → 0 ≤ z → z < 10 ^ f.toNat → Q (.int z) H'
end GL
/-! Powers of primes. -/
namespace GL
open PySem PySem.Spec PyProof.Rows L2
def Pr (p : Nat) : Prop := 2 ≤ p ∧ ∀ m, Nat.Coprime p m ∨ p ∣ m
theorem pr_of {p b : Nat} (h : 2 ≤ p) (hb : p < (b + 1) * (b + 1)) (hd : ∀ d, d < b + 1 → 2 ≤ d → p % d ≠ 0) : Pr p := by
  refine ⟨h, fun m => ?_⟩
  have hg : Nat.gcd p m ∣ p := Nat.gcd_dvd_left p m
  have key : Nat.gcd p m = 1 ∨ Nat.gcd p m = p := by
    have hm : Nat.gcd p m ∣ m := Nat.gcd_dvd_right p m
    generalize Nat.gcd p m = d at hg
    obtain ⟨c, hc⟩ := hg
    have d0 : d ≠ 0 := fun e => by rw [e, Nat.zero_mul] at hc; omega
    by_cases d1 : d = 1
    · exact .inl d1
    · by_cases c1 : c = 1
      · rw [c1, Nat.mul_one] at hc; exact .inr hc.symm
      · have c0 : c ≠ 0 := fun e => by rw [e, Nat.mul_zero] at hc; omega
        exfalso
        by_cases hdb : d < b + 1
        · exact hd d hdb (by omega) (by rw [hc]; exact Nat.mul_mod_right d c)
        · by_cases hcb : c < b + 1
          · exact hd c hcb (by omega) (by rw [hc]; exact Nat.mul_mod_left d c)
          · have := Nat.mul_le_mul (Nat.le_of_not_lt hdb) (Nat.le_of_not_lt hcb)
            omega
  rcases key with k | k
  · exact .inl k
  · exact .inr (by rw [← k]; exact Nat.gcd_dvd_right p m)
def PRIMES : List Nat := [2, 3, 5, 7, 11, 13, 1000003]
theorem pr_primes : ∀ p ∈ PRIMES, Pr p := by
  intro p hp
  simp only [PRIMES, List.mem_cons, List.not_mem_nil, or_false] at hp
  rcases hp with rfl | rfl | rfl | rfl | rfl | rfl | rfl
  · exact pr_of (b := 1) (by decide) (by decide) (by decide)
  · exact pr_of (b := 1) (by decide) (by decide) (by decide)
  · exact pr_of (b := 2) (by decide) (by decide) (by decide)
  · exact pr_of (b := 2) (by decide) (by decide) (by decide)
  · exact pr_of (b := 3) (by decide) (by decide) (by decide)
  · exact pr_of (b := 3) (by decide) (by decide) (by decide)
  · exact pr_of (b := 1000) (by decide) (by decide) (by decide +kernel)
theorem primes_co : PRIMES.Pairwise Nat.Coprime := by
  unfold PRIMES Nat.Coprime
  decide +kernel
def prodP : List (Nat × Nat) → Nat
  | [] => 1
  | x :: r => x.1 ^ x.2 * prodP r
def partP (N : Nat) : List (Nat × Nat) → Nat
  | [] => 1
  | x :: r => Nat.gcd (x.1 ^ x.2) N * partP N r
theorem prodP_snoc (x : Nat × Nat) : ∀ l, prodP (l ++ [x]) = prodP l * x.1 ^ x.2
  | [] => by simp [prodP]
  | y :: r => by rw [List.cons_append, prodP, prodP, prodP_snoc x r, Nat.mul_assoc]
theorem partP_snoc (N : Nat) (x : Nat × Nat) : ∀ l, partP N (l ++ [x]) = partP N l * Nat.gcd (x.1 ^ x.2) N
  | [] => by simp [partP]
  | y :: r => by rw [List.cons_append, partP, partP, partP_snoc N x r, Nat.mul_assoc]
theorem co_prod {p : Nat} : ∀ l : List (Nat × Nat), (∀ x ∈ l, Nat.Coprime p x.1) → Nat.Coprime p (prodP l)
  | [], _ => Nat.coprime_one_right p
  | y :: r, h => Nat.Coprime.mul_right (Nat.Coprime.pow_right _ (h y List.mem_cons_self)) (co_prod r fun x hx => h x (List.mem_cons_of_mem _ hx))
theorem part_gcd (N : Nat) : ∀ l : List (Nat × Nat), (l.map (·.1)).Pairwise Nat.Coprime → partP N l = Nat.gcd (prodP l) N
  | [], _ => (Nat.gcd_one_left N).symm
  | x :: r, h => by
    rw [List.map_cons, List.pairwise_cons] at h
    rw [partP, prodP, part_gcd N r h.2]
    have hc : Nat.Coprime (x.1 ^ x.2) (prodP r) := Nat.Coprime.pow_left _ (co_prod r fun y hy => h.1 _ (List.mem_map_of_mem hy))
    rw [Nat.gcd_comm (x.1 ^ x.2 * prodP r), Nat.Coprime.gcd_mul N hc, Nat.gcd_comm N, Nat.gcd_comm N]
structure PowOk (ps : List (Nat × Nat)) : Prop where
  ks : ps.map (·.1) = PRIMES
  es : ∀ x ∈ ps, x.2 ≤ 20
def kvP (ps : List (Nat × Nat)) : List (Key × V) := ps.map fun x => (Sum.inl (x.1 : Int), V.int (x.2 : Int))
theorem PowOk.len {ps : List (Nat × Nat)} (h : PowOk ps) : ps.length = 7 := by
  have := congrArg List.length h.ks
  rw [List.length_map] at this
  exact this
theorem PowOk.part {ps : List (Nat × Nat)} (h : PowOk ps) (N : Nat) : partP N ps = Nat.gcd (prodP ps) N := part_gcd N ps (by rw [h.ks]; exact primes_co)
theorem PowOk.mem {ps : List (Nat × Nat)} (h : PowOk ps) {x : Nat × Nat} (hx : x ∈ ps) : x.1 ∈ PRIMES := by
  rw [← h.ks]; exact List.mem_map_of_mem hx
theorem primes_le : ∀ p ∈ PRIMES, 2 ≤ p ∧ p ≤ 2 ^ 20 := by decide
theorem kvP_get {ps : List (Nat × Nat)} {i : Nat} {k : Key} {v : V} (h : (kvP ps)[i]? = some (k, v)) : ∃ x, ps[i]? = some x ∧ k = Sum.inl (x.1 : Int) ∧ v = .int (x.2 : Int) := by
  unfold kvP at h
  rw [List.getElem?_map] at h
  cases e : ps[i]? with
  | none => rw [e] at h; cases h
  | some x =>
    rw [e] at h
    injection h with h
    injection h with h1 h2
    exact ⟨x, rfl, h1.symm, h2.symm⟩
theorem valV_kvP {ps : List (Nat × Nat)} (hn : (ps.map (·.1)).Nodup) : ∀ x ∈ ps, valV (kvP ps) (Sum.inl (x.1 : Int)) = some (.int (x.2 : Int)) := by
  induction ps with
  | nil => intro x hx; cases hx
  | cons y r ih =>
    intro x hx
    rw [List.map_cons, List.nodup_cons] at hn
    rcases List.mem_cons.mp hx with rfl | hx
    · simp [kvP, valV]
    · have hne : y.1 ≠ x.1 := fun e => hn.1 (by rw [e]; exact List.mem_map_of_mem hx)
      have := ih hn.2 x hx
      unfold kvP at this ⊢
      simp only [List.map_cons, valV] at this ⊢
      have hk : ¬ (Sum.inl (y.1 : Int) : Key) = Sum.inl (x.1 : Int) := fun e => hne (by injection e with e; omega)
      simp [List.find?_cons, hk, hne] at this ⊢
      exact this
theorem PowOk.nd {ps : List (Nat × Nat)} (h : PowOk ps) : (ps.map (·.1)).Nodup := by rw [h.ks]; decide
theorem pow_le {ps : List (Nat × Nat)} (h : PowOk ps) {x : Nat × Nat} (hx : x ∈ ps) : x.1 ^ x.2 ≤ 2 ^ 400 := by
  have a := (primes_le _ (h.mem hx)).2
  have b := h.es x hx
  calc x.1 ^ x.2 ≤ (2 ^ 20) ^ x.2 := Nat.pow_le_pow_left a _
    _ = 2 ^ (20 * x.2) := (Nat.pow_mul 2 20 x.2).symm
    _ ≤ 2 ^ 400 := Nat.pow_le_pow_right (by decide) (by omega)
theorem prod_le {qs : List (Nat × Nat)} (h : ∀ x ∈ qs, x.1 ^ x.2 ≤ 2 ^ 400) : prodP qs ≤ 2 ^ (400 * qs.length) := by
  induction qs with
  | nil => exact Nat.le_refl 1
  | cons y r ih =>
    have a := h y List.mem_cons_self
    have b := ih fun x hx => h x (List.mem_cons_of_mem _ hx)
    rw [prodP, List.length_cons, Nat.mul_add, Nat.mul_one, Nat.pow_add, Nat.mul_comm (2 ^ (400 * r.length))]
    exact Nat.mul_le_mul a b
theorem prod_pos {ps : List (Nat × Nat)} (h : ∀ x ∈ ps, 0 < x.1) : 0 < prodP ps := by
  induction ps with
  | nil => exact Nat.zero_lt_one
  | cons y r ih => exact Nat.mul_pos (Nat.pow_pos (h y List.mem_cons_self)) (ih fun x hx => h x (List.mem_cons_of_mem _ hx))
theorem PowOk.pos {ps : List (Nat × Nat)} (h : PowOk ps) : 0 < prodP ps := prod_pos fun x hx => by have := (primes_le _ (h.mem hx)).1; omega
theorem PowOk.lt {ps : List (Nat × Nat)} (h : PowOk ps) : prodP ps < 2 ^ 4000 := by
  have a := prod_le fun x hx => pow_le h hx
  rw [h.len] at a
  exact Nat.lt_of_le_of_lt a (Nat.pow_lt_pow_right (by decide) (by decide))
/-- the loop of a part, at one prime -/
def PartInv (p N f0 j f l : Nat) : Prop := f = f0 * Nat.gcd (p ^ j) N ∧ (l * p ^ j = N ∨ (l = 1 ∧ ∀ k, j ≤ k → Nat.gcd (p ^ k) N = Nat.gcd (p ^ j) N))
theorem PartInv.start (p N f0 : Nat) : PartInv p N f0 0 f0 N := ⟨by rw [Nat.pow_zero, Nat.gcd_one_left, Nat.mul_one], .inl (by rw [Nat.pow_zero, Nat.mul_one])⟩
theorem PartInv.yes {p N f0 j f l : Nat} (hp : Pr p) (h : PartInv p N f0 j f l) (d : l % p = 0) : PartInv p N f0 (j + 1) (f * p) (l / p) := by
  obtain ⟨rfl, h | ⟨rfl, h⟩⟩ := h
  · have e : N = l / p * p ^ (j + 1) := by
      rw [Nat.pow_succ, Nat.mul_comm (p ^ j), ← Nat.mul_assoc, Nat.div_mul_cancel (Nat.dvd_of_mod_eq_zero d), h]
    have g1 : Nat.gcd (p ^ j) N = p ^ j := Nat.gcd_eq_left ⟨l, by rw [← h, Nat.mul_comm]⟩
    have g2 : Nat.gcd (p ^ (j + 1)) N = p ^ (j + 1) := Nat.gcd_eq_left ⟨l / p, by rw [Nat.mul_comm]; exact e⟩
    exact ⟨by rw [g1, g2, Nat.pow_succ, Nat.mul_assoc], .inl e.symm⟩
  · have := hp.1
    rw [Nat.mod_eq_of_lt (by omega)] at d
    omega
theorem PartInv.no {p N f0 j f l : Nat} (hp : Pr p) (h : PartInv p N f0 j f l) (d : ¬ l % p = 0) : PartInv p N f0 (j + 1) f 1 := by
  obtain ⟨rfl, h | ⟨rfl, h⟩⟩ := h
  · have hc : Nat.Coprime p l := (hp.2 l).resolve_right fun e => d (Nat.mod_eq_zero_of_dvd e)
    have hk : ∀ k, j ≤ k → Nat.gcd (p ^ k) N = p ^ j := fun k hk => by
      have e : p ^ k = p ^ j * p ^ (k - j) := by rw [← Nat.pow_add]; congr 1; omega
      rw [← h, e, Nat.mul_comm l, Nat.gcd_mul_left]
      have : Nat.gcd (p ^ (k - j)) l = 1 := Nat.Coprime.pow_left _ hc
      rw [this, Nat.mul_one]
    exact ⟨by rw [hk j (Nat.le_refl _), hk (j + 1) (by omega)], .inr ⟨rfl, fun k h' => by rw [hk k (by omega), hk (j + 1) (by omega)]⟩⟩
  · exact ⟨by rw [h (j + 1) (by omega)], .inr ⟨rfl, fun k h' => by rw [h k (by omega), h (j + 1) (by omega)]⟩⟩
/-- two rising rows with the same members -/
theorem lt_ext : ∀ (xs ys : List Int), xs.Pairwise (· < ·) → ys.Pairwise (· < ·) → (∀ z, z ∈ xs ↔ z ∈ ys) → xs = ys
  | [], [], _, _, _ => rfl
  | [], y :: ys, _, _, h => by have := (h y).mpr List.mem_cons_self; cases this
  | x :: xs, [], _, _, h => by have := (h x).mp List.mem_cons_self; cases this
  | x :: xs, y :: ys, hx, hy, h => by
    rw [List.pairwise_cons] at hx hy
    have e : x = y := by
      rcases List.mem_cons.mp ((h x).mp List.mem_cons_self) with e | e
      · exact e
      · rcases List.mem_cons.mp ((h y).mpr List.mem_cons_self) with e' | e'
        · exact e'.symm
        · have a := hx.1 y e'
          have b := hy.1 x e
          omega
    subst e
    congr 1
    refine lt_ext xs ys hx.2 hy.2 fun z => ⟨fun hz => ?_, fun hz => ?_⟩
    · have := hx.1 z hz
      rcases List.mem_cons.mp ((h z).mp (List.mem_cons_of_mem _ hz)) with e | e
      · omega
      · exact e
    · have := hy.1 z hz
      rcases List.mem_cons.mp ((h z).mpr (List.mem_cons_of_mem _ hz)) with e | e
      · omega
      · exact e
/-- the rests by k, two ways -/
def byRow (r g : Int) (k : Nat) : List Int := ((List.range k).map fun i : Nat => (i : Int)).filter fun z => decide ((z - r) % g = 0)
theorem byRow_mem {r g z : Int} {k : Nat} : z ∈ byRow r g k ↔ 0 ≤ z ∧ z < k ∧ (z - r) % g = 0 := by
  unfold byRow
  rw [List.mem_filter, List.mem_map, decide_eq_true_eq]
  constructor
  · rintro ⟨⟨n, hn, rfl⟩, h⟩
    rw [List.mem_range] at hn
    exact ⟨by omega, by omega, h⟩
  · rintro ⟨h0, h1, h⟩
    exact ⟨⟨z.toNat, by rw [List.mem_range]; omega, by omega⟩, h⟩
theorem byRow_lt (r g : Int) (k : Nat) : (byRow r g k).Pairwise (· < ·) := by
  refine List.Pairwise.filter _ ?_
  rw [List.pairwise_map]
  exact List.pairwise_lt_range.imp fun h => by omega
theorem rgC_mem {a b c z : Int} (hc : 0 < c) (ha : a < c) (ha0 : 0 ≤ a) : z ∈ rgC a b c ↔ a ≤ z ∧ z < b ∧ (z - a) % c = 0 := by
  unfold rgC Builtin.Range.rangeSize
  rw [if_pos (show c > 0 from hc), List.mem_map]
  constructor
  · rintro ⟨n, hn, rfl⟩
    rw [List.mem_range] at hn
    split at hn
    · have h1 : (n : Int) ≤ (b - a - 1) / c := by omega
      have h2 : (n : Int) * c ≤ (b - a - 1) / c * c := Int.mul_le_mul_of_nonneg_right h1 (by omega)
      have h3 := Int.ediv_mul_le (b - a - 1) (show c ≠ 0 by omega)
      have h4 : 0 ≤ (n : Int) * c := Int.mul_nonneg (by omega) (by omega)
      refine ⟨by omega, by omega, ?_⟩
      rw [show a + (n : Int) * c - a = n * c by omega]
      exact Int.mul_emod_left _ _
    · exact absurd hn (Nat.not_lt_zero _)
  · rintro ⟨h0, h1, h⟩
    obtain ⟨q, hq⟩ := Int.dvd_of_emod_eq_zero h
    have q0 : 0 ≤ q := by
      rcases Int.lt_or_le q 0 with h' | h'
      · have := Int.mul_neg_of_pos_of_neg hc h'
        omega
      · exact h'
    refine ⟨q.toNat, ?_, by rw [Int.toNat_of_nonneg q0, Int.mul_comm]; omega⟩
    rw [List.mem_range, if_pos (show a < b by omega)]
    have : q ≤ (b - a - 1) / c := (Int.le_ediv_iff_mul_le hc).mpr (by rw [Int.mul_comm]; omega)
    omega
theorem rgC_lt {a b c : Int} (hc : 0 < c) : (rgC a b c).Pairwise (· < ·) := by
  unfold rgC
  rw [List.pairwise_map]
  refine List.pairwise_lt_range.imp fun {m n} h => ?_
  have : (m : Int) * c < n * c := Int.mul_lt_mul_of_pos_right (by omega) hc
  omega
theorem by_row {r g : Int} {k : Nat} (hg : 0 < g) : rgC (r % g) k g = byRow r g k := by
  have e0 := Int.emod_nonneg r (show g ≠ 0 by omega)
  have e1 := Int.emod_lt_of_pos r hg
  refine lt_ext _ _ (rgC_lt hg) (byRow_lt ..) fun z => ?_
  rw [rgC_mem hg e1 e0, byRow_mem]
  have key : (z - r % g) % g = 0 ↔ (z - r) % g = 0 := by
    rw [Int.sub_emod z (r % g), Int.emod_emod, ← Int.sub_emod]
  rw [key]
  constructor
  · rintro ⟨a, b, c⟩; exact ⟨by omega, b, c⟩
  · rintro ⟨a, b, c⟩
    refine ⟨?_, b, c⟩
    have h1 : z % g = r % g := Int.emod_eq_emod_iff_emod_sub_eq_zero.mpr c
    have h2 : z % g ≤ z := by
      have := Int.ediv_mul_le z (show g ≠ 0 by omega)
      have h3 := Int.emod_add_mul_ediv z g
      have h4 : 0 ≤ g * (z / g) := Int.mul_nonneg (by omega) (Int.ediv_nonneg a (by omega))
      omega
    omega
/-! ### promises -/
def spPowers : Sp := fun vs H Q _ => ∃ (S C : Addr), vs = [.ref S] ∧ StOk H S C ∧ ∀ H' d ps, Mod S C H H' → StOk H' S C → H d = none → H' d = some (.dK (kvP ps)) → PowOk ps → Q (.ref d) H'
def spProduct : Sp := fun vs H Q _ => ∃ (d : Addr) (ps : List (Nat × Nat)), vs = [.ref d] ∧ H d = some (.dK (kvP ps)) ∧ PowOk ps ∧ Q (.int (prodP ps : Nat)) H
def spPart : Sp := fun vs H Q _ => ∃ (d : Addr) (ps : List (Nat × Nat)) (n : Int), vs = [.ref d, .int n] ∧ H d = some (.dK (kvP ps)) ∧ PowOk ps ∧ 0 < n ∧ n.natAbs < 2 ^ 4000 ∧ Q (.int (Int.gcd (prodP ps : Nat) n : Nat)) H
def spByRight : Sp := fun vs H Q _ => ∃ (t d : Addr) (r N : Int) (ps : List (Nat × Nat)), vs = [.ref t, .ref d, .int N] ∧ RestAt H t r (prodP ps : Nat) ∧ H d = some (.dK (kvP ps)) ∧ PowOk ps ∧ 1 ≤ N ∧ N ≤ 1000 ∧ ∀ H', Same H H' → Q (.bl true) H'
end GL
namespace GL
open PySem PySem.Spec PyProof.Rows L2
theorem upd_back {H : Hp} {d : Addr} {o u : HO} (h : H d = some u) : upd (upd H d o) d u = H := by
  funext x
  by_cases e : x = d
  · rw [e, upd_same, h]
  · rw [upd_ne e, upd_ne e]
theorem upd_of {H : Hp} {p : Addr} {o : HO} (h : H p = none) : upd H p o p = some o := upd_same
def PL : List (Nat × Nat) := [(2, 20), (3, 12), (5, 8), (7, 6), (11, 4), (13, 4), (1000003, 2)]
theorem PL_fst : PL.map (·.1) = PRIMES := rfl
theorem PL_len : PL.length = 7 := rfl
def TupsAt (H : Hp) (ts : List Addr) : Prop := ts.length = 7 ∧ ∀ (i : Nat) (t : Addr) (x : Nat × Nat), ts[i]? = some t → PL[i]? = some x → H t = some (.tup [.int (x.1 : Int), .int (x.2 : Int)])
theorem TupsAt.keep {H H' : Hp} {ts : List Addr} (h : TupsAt H ts) (k : ∀ t o, H t = some (.tup o) → H' t = some (.tup o)) : TupsAt H' ts := ⟨h.1, fun i t x a b => k _ _ (h.2 i t x a b)⟩
theorem tups_at {H : Hp} {t1 t2 t3 t4 t5 t6 t7 : Addr} (h1 : H t1 = some (.tup [.int 2, .int 20])) (h2 : H t2 = some (.tup [.int 3, .int 12])) (h3 : H t3 = some (.tup [.int 5, .int 8])) (h4 : H t4 = some (.tup [.int 7, .int 6])) (h5 : H t5 = some (.tup [.int 11, .int 4])) (h6 : H t6 = some (.tup [.int 13, .int 4])) (h7 : H t7 = some (.tup [.int 1000003, .int 2])) : TupsAt H [t1, t2, t3, t4, t5, t6, t7] := by
  refine ⟨rfl, fun i t x ht hx => ?_⟩
  rcases i with _ | _ | _ | _ | _ | _ | _ | i
  · injection ht with ht; injection hx with hx; subst ht; subst hx; exact h1
  · injection ht with ht; injection hx with hx; subst ht; subst hx; exact h2
  · injection ht with ht; injection hx with hx; subst ht; subst hx; exact h3
  · injection ht with ht; injection hx with hx; subst ht; subst hx; exact h4
  · injection ht with ht; injection hx with hx; subst ht; subst hx; exact h5
  · injection ht with ht; injection hx with hx; subst ht; subst hx; exact h6
  · injection ht with ht; injection hx with hx; subst ht; subst hx; exact h7
  · cases ht
theorem putK_new {ps : List (Nat × Nat)} {p e : Nat} (h : p ∉ ps.map (·.1)) : putK (kvP ps) (Sum.inl (p : Int)) (.int (e : Int)) = kvP (ps ++ [(p, e)]) := by
  unfold putK
  have : (kvP ps).any (fun kv => decide (kv.1 = Sum.inl (p : Int))) = false := by
    rw [List.any_eq_false]
    intro kv hkv
    obtain ⟨x, hx, rfl⟩ := List.mem_map.mp hkv
    rw [decide_eq_true_eq]
    intro e'
    injection e' with e'
    exact h (by rw [show p = x.1 by omega]; exact List.mem_map_of_mem hx)
  rw [this, if_neg (by decide)]
  unfold kvP
  rw [List.map_append]
  rfl
theorem PL_le : ∀ x ∈ PL, x.2 ≤ 20 := by decide
theorem take_notin {l : List Nat} {i p : Nat} (hn : l.Nodup) (h : l[i]? = some p) : p ∉ l.take i := by
  intro hm
  obtain ⟨j, hj⟩ := List.mem_iff_getElem?.mp hm
  rw [List.getElem?_take] at hj
  split at hj
  · rename_i hji
    obtain ⟨h1, e1⟩ := List.getElem?_eq_some_iff.mp hj
    obtain ⟨h2, e2⟩ := List.getElem?_eq_some_iff.mp h
    have := (List.getElem_inj hn).mp (e1.trans e2.symm)
    omega
  · cases hj
theorem inV_ints (x : Int) : ∀ ys : List Int, inV (.int x) (ys.map V.int) = decide (x ∈ ys)
  | [] => rfl
  | y :: r => by
    have ih := inV_ints x r
    unfold inV at ih ⊢
    rw [List.map_cons, List.any_cons, ih]
    show ((y == x) || decide (x ∈ r)) = _
    by_cases e : y = x
    · subst e; simp
    · simp [e, Ne.symm e]
theorem flat_ints : ∀ ys : List Int, (ys.map V.int).all flatV = true
  | [] => rfl
  | y :: r => by rw [List.map_cons, List.all_cons, flat_ints r]; rfl
end GL
namespace GL
open PySem PySem.Spec PyProof.Rows L2
theorem byRow_succ (r g : Int) (j : Nat) : byRow r g (j + 1) = if ((j : Int) - r) % g = 0 then byRow r g j ++ [(j : Int)] else byRow r g j := by
  unfold byRow
  rw [List.range_succ, List.map_append, List.filter_append]
  split
  · rename_i h
    congr 1
    simp [h]
  · rename_i h
    simp [h]
theorem byRow_len (r g : Int) (j : Nat) : (byRow r g j).length ≤ j := by
  unfold byRow
  refine Nat.le_trans (List.length_filter_le ..) ?_
  rw [List.length_map, List.length_range]
  exact Nat.le_refl _
end GL
namespace GL
open PySem PySem.Spec PyProof.Rows L2
theorem mod_back {r m f : Int} (h0 : 0 ≤ r) (h1 : r < m) : ((r + f) % m + (0 - f)) % m = r := by
  rw [Int.emod_add_emod, show r + f + (0 - f) = r by omega]
  exact Int.emod_eq_of_lt h0 h1
theorem mod_whole {r m : Int} (h0 : 0 ≤ r) (h1 : r < m) : (r + m) % m = r := by
  rw [Int.add_emod_right]
  exact Int.emod_eq_of_lt h0 h1
theorem cond_moved {r m s n f : Int} : ((s + f) % n - (r + f) % m) % (Int.gcd m n : Int) = (s - r) % (Int.gcd m n : Int) := by
  have a : ((s + f) % n) % (Int.gcd m n : Int) = (s + f) % (Int.gcd m n : Int) := Int.emod_emod_of_dvd _ (Int.gcd_dvd_right ..)
  have b : ((r + f) % m) % (Int.gcd m n : Int) = (r + f) % (Int.gcd m n : Int) := Int.emod_emod_of_dvd _ (Int.gcd_dvd_left ..)
  rw [Int.sub_emod, a, b, ← Int.sub_emod, show s + f - (r + f) = s - r by omega]
theorem cond_sec {x m y n : Int} : (y % n - x % m) % (Int.gcd m n : Int) = (y - x) % (Int.gcd m n : Int) := by
  have := cond_moved (r := x) (m := m) (s := y) (n := n) (f := 0)
  rwa [Int.add_zero, Int.add_zero] at this
theorem lcm_left {m n : Int} : m ∣ m * (n / (Int.gcd m n : Int)) := ⟨_, rfl⟩
theorem lcm_right {m n : Int} (hm : 0 < m) : n ∣ m * (n / (Int.gcd m n : Int)) := by
  have hg := gcd_pos (n := n) hm
  obtain ⟨a, ha⟩ := Int.gcd_dvd_left (a := m) (b := n)
  obtain ⟨b, hb⟩ := Int.gcd_dvd_right (a := m) (b := n)
  generalize (Int.gcd m n : Int) = G at *
  have e2 : n / G = b := by rw [hb]; exact Int.mul_ediv_cancel_left _ (by omega)
  rw [e2]
  refine ⟨a, ?_⟩
  rw [ha, hb, Int.mul_assoc, Int.mul_assoc, Int.mul_comm a b]
theorem moved_both {m n r s f x y : Int} (hm : 0 < m) (hn : 0 < n) (h1 : x % m = r) (h2 : x % n = s) (y0 : 0 ≤ y) (y1 : y < m * (n / (Int.gcd m n : Int))) (k1 : y % m = (r + f) % m) (k2 : y % n = (s + f) % n) : y = (x + f) % (m * (n / (Int.gcd m n : Int))) := by
  have hL : 0 < m * (n / (Int.gcd m n : Int)) := by omega
  refine crt_one hm y0 y1 (Int.emod_nonneg _ (by omega)) (Int.emod_lt_of_pos _ hL) ?_ ?_
  · rw [k1, Int.emod_emod_of_dvd _ lcm_left, ← h1, Int.emod_add_emod]
  · rw [k2, Int.emod_emod_of_dvd _ (lcm_right hm), ← h2, Int.emod_add_emod]
theorem shaped_two (a b c d : Int) : SeqAt.shaped (.list [.tuple [.int a, .int b], .tuple [.int c, .int d]]) = true := by
  unfold SeqAt.shaped
  rfl
theorem eqv_two (a b c d : Int) : PyData.eqv (.list [.tuple [.int a, .int b], .tuple [.int c, .int d]]) (.list [.tuple [.int a, .int b], .tuple [.int c, .int d]]) = true := by
  simp [PyData.eqv, PyData.eqvAll]
end GL
namespace GL
open PySem PySem.Spec PyProof.Rows L2
theorem pmapF {α β : Type} {F G : α → β → Prop} (h : ∀ a b, F a b → G a b) : ∀ {xs : List α} {ys : List β}, Paired F xs ys → Paired G xs ys
  | _, _, .nil => .nil
  | _, _, .cons a r => .cons (h _ _ a) (pmapF h r)
theorem psnoc {α β : Type} {F : α → β → Prop} {a : α} {b : β} (h : F a b) : ∀ {xs : List α} {ys : List β}, Paired F xs ys → Paired F (xs ++ [a]) (ys ++ [b])
  | _, _, .nil => .cons h .nil
  | _, _, .cons x r => .cons x (psnoc h r)
theorem plen {α β : Type} {F : α → β → Prop} : ∀ {xs : List α} {ys : List β}, Paired F xs ys → xs.length = ys.length
  | _, _, .nil => rfl
  | _, _, .cons x r => by rw [List.length_cons, List.length_cons, plen r]
end GL
namespace GL
open PySem PySem.Spec PyProof.Rows L2
theorem iteN {d e : PyData} {A B : Prop} (h : PyData.eqv d e = true) (b : B) : if (!PyData.eqv d e) = true then A else B := by
  rw [h]
  exact iteF b
theorem eqv_pair (a b : Int) : PyData.eqv (.tuple [.int a, .int b]) (.tuple [.int a, .int b]) = true := (eqvi_tups [a, b] [a, b]).trans (decide_eq_true rfl)
end GL
/-! Rests by numbers gone through. -/
namespace GL
open PySem PySem.Spec PyProof.Rows L2
theorem inv_ex {a p : Int} : ∀ (n : Nat) {h l t o : Int}, InvW a p h l t o → l.toNat ≤ n → ∃ t, p ∣ a * t - 1
  | n, h, l, t, o, W, hn => by
    by_cases hl : l = 0
    · subst hl
      exact ⟨_, W.fin.1⟩
    · have l0 := W.l0
      have hpos : 0 < l := by omega
      have e : h - h / l * l = h % l := by
        have := Int.emod_add_mul_ediv h l
        rw [Int.mul_comm l] at this
        omega
      have m1 : h - h / l * l < l := by rw [e]; exact Int.emod_lt_of_pos _ hpos
      have m0 : 0 ≤ h - h / l * l := by rw [e]; exact Int.emod_nonneg _ hl
      cases n with
      | zero => omega
      | succ n => exact inv_ex n (W.step hpos) (by omega)
theorem inv_some {a p : Int} (ha : 0 < a) (hp : 0 < p) (hc : Int.gcd a p = 1) : ∃ t, p ∣ a * t - 1 := inv_ex _ (InvW.start ha hp hc) (Nat.le_refl _)
theorem parts_pos {m n : Int} (hm : 0 < m) (hn : 0 < n) : 0 < m / (Int.gcd m n : Int) ∧ 0 < n / (Int.gcd m n : Int) := by
  have hg := gcd_pos (n := n) hm
  have a := Int.le_of_dvd hm (Int.gcd_dvd_left (a := m) (b := n))
  have b := Int.le_of_dvd hn (Int.gcd_dvd_right (a := m) (b := n))
  exact ⟨Int.ediv_pos_of_pos_of_dvd hm (by omega) (Int.gcd_dvd_left ..), Int.ediv_pos_of_pos_of_dvd hn (by omega) (Int.gcd_dvd_right ..)⟩
/-- the step to a number that has both -/
theorem crt_some {r m s n : Int} (h0 : 0 ≤ r) (h1 : r < m) (hs0 : 0 ≤ s) (hs1 : s < n) (hd : (s - r) % (Int.gcd m n : Int) = 0) :
    ∃ k : Int, 0 ≤ k ∧ k < n / (Int.gcd m n : Int) ∧ r + m * k < m * (n / (Int.gcd m n : Int)) ∧ (r + m * k) % m = r ∧ (r + m * k) % n = s := by
  have hm : 0 < m := by omega
  have hn : 0 < n := by omega
  obtain ⟨pa, pb⟩ := parts_pos hm hn
  obtain ⟨inv, hi⟩ := inv_some pa pb (coprime_parts hm)
  obtain ⟨a, b, c, d, e⟩ := crt_step hm hn h0 h1 hs0 hs1 hd hi
  exact ⟨_, Int.emod_nonneg _ (by omega), Int.emod_lt_of_pos _ pb, c, d, e⟩
def dueRow (r m s n : Int) (k : Nat) : List Int := ((List.range k).map fun i : Nat => (i : Int)).filter fun z => decide (z % m = r) && decide (z % n = s)
theorem dueRow_mem {r m s n z : Int} {k : Nat} : z ∈ dueRow r m s n k ↔ 0 ≤ z ∧ z < k ∧ z % m = r ∧ z % n = s := by
  unfold dueRow
  rw [List.mem_filter, List.mem_map, Bool.and_eq_true, decide_eq_true_eq, decide_eq_true_eq]
  constructor
  · rintro ⟨⟨i, hi, rfl⟩, h⟩
    rw [List.mem_range] at hi
    exact ⟨by omega, by omega, h⟩
  · rintro ⟨h0, h1, h⟩
    exact ⟨⟨z.toNat, by rw [List.mem_range]; omega, by omega⟩, h⟩
theorem dueRow_lt (r m s n : Int) (k : Nat) : (dueRow r m s n k).Pairwise (· < ·) := by
  refine List.Pairwise.filter _ ?_
  rw [List.pairwise_map]
  exact List.pairwise_lt_range.imp fun h => by omega
theorem dueRow_succ (r m s n : Int) (j : Nat) : dueRow r m s n (j + 1) = if ((j : Int) % m = r ∧ (j : Int) % n = s) then dueRow r m s n j ++ [(j : Int)] else dueRow r m s n j := by
  unfold dueRow
  rw [List.range_succ, List.map_append, List.filter_append]
  split
  · rename_i h
    congr 1
    simp [h.1, h.2]
  · rename_i h
    simp [h]
theorem dueRow_len (r m s n : Int) (j : Nat) : (dueRow r m s n j).length ≤ j := by
  unfold dueRow
  refine Nat.le_trans (List.length_filter_le ..) ?_
  rw [List.length_map, List.length_range]
  exact Nat.le_refl _
theorem due_none {r m s n : Int} {k : Nat} (h : ¬ (s - r) % (Int.gcd m n : Int) = 0) : dueRow r m s n k = [] := by
  rw [List.eq_nil_iff_forall_not_mem]
  intro z hz
  obtain ⟨_, _, a, b⟩ := dueRow_mem.mp hz
  exact h (crt_none a b)
theorem lcm_gcd {m n : Int} (hm : 0 < m) : m * n = m * (n / (Int.gcd m n : Int)) * (Int.gcd m n : Int) := by
  rw [Int.mul_assoc, Int.ediv_mul_cancel (Int.gcd_dvd_right ..)]
/-- what is due, where there is any -/
theorem due_some {r m s n : Int} {k : Nat} (h0 : 0 ≤ r) (h1 : r < m) (hs0 : 0 ≤ s) (hs1 : s < n) (hk : (k : Int) = m * n) (hd : (s - r) % (Int.gcd m n : Int) = 0) :
    ∃ x : Int, 0 ≤ x ∧ x < m * (n / (Int.gcd m n : Int)) ∧ x % m = r ∧ x % n = s ∧ (dueRow r m s n k)[0]? = some x ∧ ((dueRow r m s n k).length : Int) = (Int.gcd m n : Int) ∧ m * n / (Int.gcd m n : Int) = m * (n / (Int.gcd m n : Int)) := by
  have hm : 0 < m := by omega
  have hn : 0 < n := by omega
  have hg := gcd_pos (n := n) hm
  obtain ⟨j, j0, j1, xL, e1, e2⟩ := crt_some h0 h1 hs0 hs1 hd
  have x0 : 0 ≤ r + m * j := by have := Int.mul_nonneg (show 0 ≤ m by omega) j0; omega
  generalize r + m * j = x at *
  have eL := lcm_gcd (n := n) hm
  have dl : m ∣ m * (n / (Int.gcd m n : Int)) := lcm_left
  have dr : n ∣ m * (n / (Int.gcd m n : Int)) := lcm_right hm
  have dd : ∀ d, m ∣ d → n ∣ d → m * (n / (Int.gcd m n : Int)) ∣ d := fun d a b => lcm_dvd hm a b
  have hq : m * n / (Int.gcd m n : Int) = m * (n / (Int.gcd m n : Int)) := Int.mul_ediv_assoc _ (Int.gcd_dvd_right ..)
  generalize m * (n / (Int.gcd m n : Int)) = L at *
  generalize (Int.gcd m n : Int) = g at *
  have L0 : 0 < L := by omega
  have row : dueRow r m s n k = rgC x (m * n) L := by
    refine lt_ext _ _ (dueRow_lt ..) (rgC_lt L0) fun z => ?_
    rw [dueRow_mem, rgC_mem L0 xL x0, hk]
    constructor
    · rintro ⟨a, b, c, d⟩
      have k1 : m ∣ z - x := by rw [← emod_iff, Int.sub_emod, c, e1, Int.sub_self, Int.zero_emod]
      have k2 : n ∣ z - x := by rw [← emod_iff, Int.sub_emod, d, e2, Int.sub_self, Int.zero_emod]
      have k3 := dd _ k1 k2
      refine ⟨?_, b, emod_iff.mpr k3⟩
      obtain ⟨w, hw⟩ := k3
      rcases Int.lt_or_le w 0 with h' | h'
      · have : L * w ≤ L * (-1) := Int.mul_le_mul_of_nonneg_left (by omega) (by omega)
        omega
      · have := Int.mul_nonneg (show 0 ≤ L by omega) h'
        omega
    · rintro ⟨a, b, c⟩
      have k3 := emod_iff.mp c
      have k1 := Int.dvd_trans dl k3
      have k2 := Int.dvd_trans dr k3
      refine ⟨by omega, b, ?_, ?_⟩
      · rw [← e1]
        exact Int.emod_eq_emod_iff_emod_sub_eq_zero.mpr (emod_iff.mpr k1)
      · rw [← e2]
        exact Int.emod_eq_emod_iff_emod_sub_eq_zero.mpr (emod_iff.mpr k2)
  have xF : x < m * n := by
    rw [eL]
    have : L * 1 ≤ L * g := Int.mul_le_mul_of_nonneg_left (by omega) (by omega)
    omega
  have size : Builtin.Range.rangeSize x (m * n) L = g := by
    unfold Builtin.Range.rangeSize
    rw [if_pos (show L > 0 from L0), if_pos xF, eL]
    have : (L * g - x - 1) / L = g - 1 := by
      have e : L * g - x - 1 = (L - x - 1) + L * (g - 1) := by rw [Int.mul_sub]; omega
      rw [e, Int.add_mul_ediv_left _ _ (by omega), Int.ediv_eq_zero_of_lt (by omega) (by omega)]
      omega
    omega
  refine ⟨x, x0, xL, e1, e2, ?_, ?_, hq⟩
  · rw [row]
    unfold rgC
    rw [size, List.getElem?_map, List.getElem?_range (by omega)]
    simp
  · rw [row]
    unfold rgC
    rw [size, List.length_map, List.length_range]
    omega
/-- the keys gone through -/
def KeysOf (r m N : Int) (j : Nat) (ks : List Int) : Prop := ks.Nodup ∧ ks.length ≤ j ∧ ∀ z, z ∈ ks ↔ ∃ k : Nat, k < j ∧ z = (r + m * (k : Int)) % N
theorem putK_old {kvs : List (Key × V)} {k : Key} {v : V} (h : k ∈ kvs.map (·.1)) : (putK kvs k v).map (·.1) = kvs.map (·.1) := by
  unfold putK
  have : kvs.any (fun kv => decide (kv.1 = k)) = true := by
    obtain ⟨kv, hkv, e⟩ := List.mem_map.mp h
    exact List.any_eq_true.mpr ⟨kv, hkv, decide_eq_true e⟩
  rw [if_pos this, List.map_map]
  refine List.map_congr_left fun kv _ => ?_
  show (if kv.1 = k then (kv.1, v) else kv).1 = kv.1
  split <;> rfl
theorem putK_fresh {kvs : List (Key × V)} {k : Key} {v : V} (h : k ∉ kvs.map (·.1)) : (putK kvs k v).map (·.1) = kvs.map (·.1) ++ [k] := by
  unfold putK
  have : kvs.any (fun kv => decide (kv.1 = k)) = false := by
    rw [List.any_eq_false]
    intro kv hkv
    rw [decide_eq_true_eq]
    intro e
    exact h (by rw [← e]; exact List.mem_map_of_mem hkv)
  rw [this, if_neg (by decide), List.map_append]
  rfl
theorem inl_mem {z : Int} {ks : List Int} : (Sum.inl z : Key) ∈ ks.map Sum.inl ↔ z ∈ ks := by
  constructor
  · intro h
    obtain ⟨y, hy, e⟩ := List.mem_map.mp h
    injection e with e
    rw [← e]
    exact hy
  · exact fun h => List.mem_map_of_mem h
theorem KeysOf.step {r m N : Int} {j : Nat} {ks : List Int} {kvs : List (Key × V)} {v : V} (h : KeysOf r m N j ks) (hk : kvs.map (·.1) = ks.map Sum.inl) :
    ∃ ks', KeysOf r m N (j + 1) ks' ∧ (putK kvs (Sum.inl ((r + m * (j : Int)) % N)) v).map (·.1) = ks'.map Sum.inl := by
  obtain ⟨nd, len, mem⟩ := h
  by_cases hz : (r + m * (j : Int)) % N ∈ ks
  · refine ⟨ks, ⟨nd, by omega, fun z => (mem z).trans ⟨fun ⟨k, a, b⟩ => ⟨k, by omega, b⟩, fun ⟨k, a, b⟩ => ?_⟩⟩, ?_⟩
    · by_cases e : k = j
      · rw [b, e]
        exact (mem _).mp hz
      · exact ⟨k, by omega, b⟩
    · rw [putK_old (by rw [hk]; exact inl_mem.mpr hz), hk]
  · refine ⟨ks ++ [(r + m * (j : Int)) % N], ⟨?_, by rw [List.length_append]; exact Nat.add_le_add_right len 1, fun z => ?_⟩, ?_⟩
    · rw [List.nodup_append]
      refine ⟨nd, List.nodup_cons.mpr ⟨(fun h => nomatch h), List.nodup_nil⟩, fun a ha b hb => ?_⟩
      rw [List.mem_singleton] at hb
      rw [hb]
      exact fun e => hz (e ▸ ha)
    · rw [List.mem_append, List.mem_singleton, mem]
      constructor
      · rintro (⟨k, a, b⟩ | e)
        · exact ⟨k, by omega, b⟩
        · exact ⟨j, by omega, e⟩
      · rintro ⟨k, a, b⟩
        by_cases e : k = j
        · exact .inr (by rw [b, e])
        · exact .inl ⟨k, by omega, b⟩
    · rw [putK_fresh (by rw [hk]; exact fun e => hz (inl_mem.mp e)), hk, List.map_append]
      rfl
theorem keys_row {r m : Int} {N : Nat} {ks ms : List Int} (h0 : 0 ≤ r) (h1 : r < m) (hN : 0 < N) (h : KeysOf r m N N ks) (hp : ms.Perm ks) (hs : ms.Pairwise (· ≤ ·)) : ms = rgC (r % (Int.gcd m N : Int)) N (Int.gcd m N : Int) := by
  have hm : 0 < m := by omega
  have hg := gcd_pos (n := (N : Int)) hm
  rw [by_row hg]
  obtain ⟨nd, len, mem⟩ := h
  have nd' : ms.Nodup := hp.nodup_iff.mpr nd
  refine lt_ext _ _ ?_ (byRow_lt ..) fun z => ?_
  · exact (hs.and nd').imp fun {a b} ⟨x, y⟩ => by omega
  · rw [hp.mem_iff, mem, byRow_mem]
    constructor
    · rintro ⟨k, a, rfl⟩
      refine ⟨Int.emod_nonneg _ (by omega), Int.emod_lt_of_pos _ (by omega), ?_⟩
      rw [Int.sub_emod, Int.emod_emod_of_dvd _ (Int.gcd_dvd_right ..), ← Int.sub_emod, show r + m * (k : Int) - r = m * k by omega, emod_iff]
      exact Int.dvd_mul_of_dvd_left (Int.gcd_dvd_left ..)
    · rintro ⟨a, b, c⟩
      obtain ⟨k, k0, k1, _, _, e⟩ := crt_some h0 h1 a b c
      have le : (N : Int) / (Int.gcd m N : Int) ≤ N := Int.ediv_le_self _ (by omega)
      exact ⟨k.toNat, by omega, by rw [Int.toNat_of_nonneg k0]; exact e.symm⟩
/-! ### promises -/
def spExact : Sp := fun vs H Q _ => ∃ x y : V, vs = [x, y] ∧
  ((x = .non ∧ y = .non) ∨ (∃ (a b : Addr) (i j : Int), x = .ref a ∧ y = .ref b ∧ H a = some (.tup [.int i, .int j]) ∧ H b = some (.tup [.int i, .int j])) ∨
    (∃ (a b : Addr) (ns : List Int), x = .ref a ∧ y = .ref b ∧ H a = some (.lst (ns.map V.int)) ∧ H b = some (.lst (ns.map V.int)))) ∧ ∀ H', Same H H' → Q (.bl true) H'
def spSizes : Sp := fun vs H Q _ => ∃ (S C : Addr), vs = [.ref S] ∧ StOk H S C ∧ ∀ H' t m n, Mod S C H H' → StOk H' S C → H' t = some (.tup [.int m, .int n]) → 1 ≤ m → m ≤ 30 → 1 ≤ n → n ≤ 30 → Q (.ref t) H'
def spDue : Sp := fun vs H Q _ => ∃ (t u : Addr) (r m s n : Int), vs = [.ref t, .ref u] ∧ RestAt H t r m ∧ RestAt H u s n ∧ m ≤ 30 ∧ n ≤ 30 ∧
  (¬ (s - r) % (Int.gcd m n : Int) = 0 → ∀ H', Same H H' → Q .non H') ∧
  ((s - r) % (Int.gcd m n : Int) = 0 → ∀ H' q x, Same H H' → H' q = some (.tup [.int x, .int (m * (n / (Int.gcd m n : Int)))]) → 0 ≤ x → x < m * (n / (Int.gcd m n : Int)) → x % m = r → x % n = s → Q (.ref q) H')
def spByRight2 : Sp := fun vs H Q _ => ∃ (t : Addr) (r m N : Int), vs = [.ref t, .int N] ∧ RestAt H t r m ∧ 1 ≤ N ∧ N ≤ 1000 ∧ ∀ H', Same H H' → Q (.bl true) H'
end GL
namespace GL
open PySem PySem.Spec PyProof.Rows L2
theorem cond_swap {r m s n : Int} : (r - s) % (Int.gcd n m : Int) = 0 ↔ (s - r) % (Int.gcd m n : Int) = 0 := by
  rw [Int.gcd_comm n m, emod_iff, emod_iff, show s - r = -(r - s) by omega, Int.dvd_neg]
theorem lcm_swap {m n : Int} : n * (m / (Int.gcd n m : Int)) = m * (n / (Int.gcd m n : Int)) := by
  rw [Int.gcd_comm n m, ← Int.mul_ediv_assoc _ (Int.gcd_dvd_left ..), ← Int.mul_ediv_assoc _ (Int.gcd_dvd_right ..), Int.mul_comm]
theorem self_m {m : Int} (hm : 0 < m) : m * (m / (Int.gcd m m : Int)) = m := by
  rw [Int.gcd_self, show ((m.natAbs : Nat) : Int) = m by omega, Int.ediv_self (by omega), Int.mul_one]
theorem one_m {m : Int} : m * (1 / (Int.gcd m 1 : Int)) = m := by
  rw [Int.gcd_one_right]
  show m * (1 / 1) = m
  rw [Int.ediv_one, Int.mul_one]
theorem both_same {m n x y r s : Int} (hm : 0 < m) (x0 : 0 ≤ x) (x1 : x < m * (n / (Int.gcd m n : Int))) (a : x % m = r) (b : x % n = s) (y0 : 0 ≤ y) (y1 : y < m * (n / (Int.gcd m n : Int))) (c : y % m = r) (d : y % n = s) : y = x :=
  crt_one hm y0 y1 x0 x1 (c.trans a.symm) (d.trans b.symm)
theorem great_bd {z f : Int} (z0 : 0 ≤ z) (h : z < 10 ^ f.toNat) (hf : f ≤ 60) : (1 + z).natAbs < 2 ^ 4000 := by
  obtain ⟨k, rfl⟩ : ∃ k : Nat, z = (k : Int) := ⟨z.toNat, by omega⟩
  have h1 : k < 10 ^ f.toNat := by
    have : ((10 ^ f.toNat : Nat) : Int) = 10 ^ f.toNat := by rw [Int.natCast_pow]; rfl
    omega
  have h2 : 10 ^ f.toNat ≤ 10 ^ 60 := Nat.pow_le_pow_right (by decide) (by omega)
  have h3 : (10 : Nat) ^ 60 < 2 ^ 200 := by decide
  have h4 : (2 : Nat) ^ 200 ≤ 2 ^ 4000 := Nat.pow_le_pow_right (by decide) (by decide)
  have h5 : (1 + (k : Int)).natAbs = 1 + k := by omega
  rw [h5]
  exact Nat.lt_of_lt_of_le (Nat.lt_of_le_of_lt (show 1 + k ≤ 10 ^ 60 by omega) h3) h4
end GL
namespace K02
open PySem PySem.Spec PyProof.Rows L2
def topS (i : Nat) : Stmt := PySem.Challenge.pw_goersay_k02_rests_by_numbers_gone_throug.main.body.getD i (.Pass ⟨0, 0, 0, 0⟩)
abbrev s_is_number : Stmt := topS 7
abbrev N_is_number : List Str := ["thing"]
abbrev P_is_number : List Str := ["thing"]
theorem sc_is_number : FnScope N_is_number P_is_number (defScope s_is_number) := ⟨rfl, rfl, rfl, by decide +kernel, rfl, by decide +kernel, by decide +kernel⟩
abbrev s_is_rest : Stmt := topS 8
abbrev N_is_rest : List Str := ["thing", "r", "m"]
abbrev P_is_rest : List Str := ["thing"]
theorem sc_is_rest : FnScope N_is_rest P_is_rest (defScope s_is_rest) := ⟨rfl, rfl, rfl, by decide +kernel, rfl, by decide +kernel, by decide +kernel⟩
abbrev s_check_between : Stmt := topS 14
abbrev N_check_between : List Str := ["thing", "low", "high"]
abbrev P_check_between : List Str := ["thing", "low", "high"]
theorem sc_check_between : FnScope N_check_between P_check_between (defScope s_check_between) := ⟨rfl, rfl, rfl, by decide +kernel, rfl, by decide +kernel, by decide +kernel⟩
abbrev s_has : Stmt := topS 9
abbrev N_has : List Str := ["rest", "number", "r", "m"]
abbrev P_has : List Str := ["rest", "number"]
theorem sc_has : FnScope N_has P_has (defScope s_has) := ⟨rfl, rfl, rfl, by decide +kernel, rfl, by decide +kernel, by decide +kernel⟩
abbrev s_both : Stmt := topS 10
abbrev N_both : List Str := ["one", "other", "r", "m", "s", "n", "shared", "period", "steps"]
abbrev P_both : List Str := ["one", "other"]
theorem sc_both : FnScope N_both P_both (defScope s_both) := ⟨rfl, rfl, rfl, by decide +kernel, rfl, by decide +kernel, by decide +kernel⟩
abbrev s_by : Stmt := topS 11
abbrev N_by : List Str := ["rest", "m", "shared"]
abbrev P_by : List Str := ["rest", "m"]
theorem sc_by : FnScope N_by P_by (defScope s_by) := ⟨rfl, rfl, rfl, by decide +kernel, rfl, by decide +kernel, by decide +kernel⟩
abbrev s_least : Stmt := topS 12
abbrev N_least : List Str := ["rest"]
abbrev P_least : List Str := ["rest"]
theorem sc_least : FnScope N_least P_least (defScope s_least) := ⟨rfl, rfl, rfl, by decide +kernel, rfl, by decide +kernel, by decide +kernel⟩
abbrev s_check_rest : Stmt := topS 15
abbrev N_check_rest : List Str := ["thing"]
abbrev P_check_rest : List Str := ["thing"]
theorem sc_check_rest : FnScope N_check_rest P_check_rest (defScope s_check_rest) := ⟨rfl, rfl, rfl, by decide +kernel, rfl, by decide +kernel, by decide +kernel⟩
abbrev s_check_number : Stmt := topS 13
abbrev N_check_number : List Str := ["thing"]
abbrev P_check_number : List Str := ["thing"]
theorem sc_check_number : FnScope N_check_number P_check_number (defScope s_check_number) := ⟨rfl, rfl, rfl, by decide +kernel, rfl, by decide +kernel, by decide +kernel⟩
abbrev s_inverse : Stmt := topS 16
abbrev N_inverse : List Str := ["number", "m", "high", "low", "turns", "others", "quotient"]
abbrev P_inverse : List Str := ["number", "m"]
theorem sc_inverse : FnScope N_inverse P_inverse (defScope s_inverse) := ⟨rfl, rfl, rfl, by decide +kernel, rfl, by decide +kernel, by decide +kernel⟩
abbrev s_l_state : Stmt := topS 18
abbrev N_l_state : List Str := ["_law_script", "_law_cell"]
abbrev P_l_state : List Str := ["_law_script"]
theorem sc_l_state : FnScope N_l_state P_l_state (defScope s_l_state) := ⟨rfl, rfl, rfl, by decide +kernel, rfl, by decide +kernel, by decide +kernel⟩
abbrev s_l_draw : Stmt := topS 19
abbrev N_l_draw : List Str := ["_law_state_here", "_law_many", "_law_cells", "_law_at", "_law_cell"]
abbrev P_l_draw : List Str := ["_law_state_here", "_law_many"]
theorem sc_l_draw : FnScope N_l_draw P_l_draw (defScope s_l_draw) := ⟨rfl, rfl, rfl, by decide +kernel, rfl, by decide +kernel, by decide +kernel⟩
abbrev s_l_great : Stmt := topS 20
abbrev N_l_great : List Str := ["_law_state_here", "_law_figures", "_law_found", "_law_turn"]
abbrev P_l_great : List Str := ["_law_state_here", "_law_figures"]
theorem sc_l_great : FnScope N_l_great P_l_great (defScope s_l_great) := ⟨rfl, rfl, rfl, by decide +kernel, rfl, by decide +kernel, by decide +kernel⟩
abbrev s_l_exact : Stmt := topS 21
abbrev N_l_exact : List Str := ["_law_told", "_law_want", "_law_one"]
abbrev P_l_exact : List Str := ["_law_told", "_law_want"]
theorem sc_l_exact : FnScope N_l_exact P_l_exact (defScope s_l_exact) := ⟨rfl, rfl, rfl, by decide +kernel, rfl, by decide +kernel, by decide +kernel⟩
abbrev s_l_sizes : Stmt := topS 22
abbrev N_l_sizes : List Str := ["_law_state_here", "_law_one", "_law_other", "_law_part", "_law_way"]
abbrev P_l_sizes : List Str := ["_law_state_here"]
theorem sc_l_sizes : FnScope N_l_sizes P_l_sizes (defScope s_l_sizes) := ⟨rfl, rfl, rfl, by decide +kernel, rfl, by decide +kernel, by decide +kernel⟩
abbrev s_l_due : Stmt := topS 23
abbrev N_l_due : List Str := ["_law_one", "_law_other", "_law_far", "_law_found", "_law_number"]
abbrev P_l_due : List Str := ["_law_one", "_law_other"]
theorem sc_l_due : FnScope N_l_due P_l_due (defScope s_l_due) := ⟨rfl, rfl, rfl, by decide +kernel, rfl, by decide +kernel, by decide +kernel⟩
abbrev s_l_by_right : Stmt := topS 24
abbrev N_l_by_right : List Str := ["_law_rest_one", "_law_size", "_law_found", "_law_k", "_law_told"]
abbrev P_l_by_right : List Str := ["_law_rest_one", "_law_size"]
theorem sc_l_by_right : FnScope N_l_by_right P_l_by_right (defScope s_l_by_right) := ⟨rfl, rfl, rfl, by decide +kernel, rfl, by decide +kernel, by decide +kernel⟩
abbrev s_law : Stmt := topS 25
abbrev N_law : List Str := ["_law_script", "_law_state_here", "_law_turn", "_law_first", "_law_second", "_law_one", "_law_other", "_law_want", "_law_numbers", "_law_number", "_law_told", "_law_great_here", "_law_far", "_law_sizes_here", "_law_size", "_law_k"]
abbrev P_law : List Str := ["_law_script"]
theorem sc_law : FnScope N_law P_law (defScope s_law) := ⟨rfl, rfl, rfl, by decide +kernel, rfl, by decide +kernel, by decide +kernel⟩
/-- what the top has written -/
structure Tx (K : PySem.W.Frag) (mg : Str → Option Value) where
  a_is_number : Addr
  fd_is_number : FuncData
  F_is_number : Fun K "is_number" "is_number" s_is_number a_is_number fd_is_number
  b_is_number : Binds K fd_is_number P_is_number []
  g_is_number : mg "is_number" = some (.ref a_is_number)
  a_is_rest : Addr
  fd_is_rest : FuncData
  F_is_rest : Fun K "is_rest" "is_rest" s_is_rest a_is_rest fd_is_rest
  b_is_rest : Binds K fd_is_rest P_is_rest []
  g_is_rest : mg "is_rest" = some (.ref a_is_rest)
  a_check_between : Addr
  fd_check_between : FuncData
  F_check_between : Fun K "check_between" "check_between" s_check_between a_check_between fd_check_between
  b_check_between : Binds K fd_check_between P_check_between []
  g_check_between : mg "check_between" = some (.ref a_check_between)
  a_has : Addr
  fd_has : FuncData
  F_has : Fun K "has" "has" s_has a_has fd_has
  b_has : Binds K fd_has P_has []
  g_has : mg "has" = some (.ref a_has)
  a_both : Addr
  fd_both : FuncData
  F_both : Fun K "both" "both" s_both a_both fd_both
  b_both : Binds K fd_both P_both []
  g_both : mg "both" = some (.ref a_both)
  a_by : Addr
  fd_by : FuncData
  F_by : Fun K "by" "by" s_by a_by fd_by
  b_by : Binds K fd_by P_by []
  g_by : mg "by" = some (.ref a_by)
  a_least : Addr
  fd_least : FuncData
  F_least : Fun K "least" "least" s_least a_least fd_least
  b_least : Binds K fd_least P_least []
  g_least : mg "least" = some (.ref a_least)
  a_check_rest : Addr
  fd_check_rest : FuncData
  F_check_rest : Fun K "_check_rest" "_check_rest" s_check_rest a_check_rest fd_check_rest
  b_check_rest : Binds K fd_check_rest P_check_rest []
  g_check_rest : mg "_check_rest" = some (.ref a_check_rest)
  a_check_number : Addr
  fd_check_number : FuncData
  F_check_number : Fun K "check_number" "check_number" s_check_number a_check_number fd_check_number
  b_check_number : Binds K fd_check_number P_check_number []
  g_check_number : mg "check_number" = some (.ref a_check_number)
  a_inverse : Addr
  fd_inverse : FuncData
  F_inverse : Fun K "_inverse" "_inverse" s_inverse a_inverse fd_inverse
  b_inverse : Binds K fd_inverse P_inverse []
  g_inverse : mg "_inverse" = some (.ref a_inverse)
  a_l_state : Addr
  fd_l_state : FuncData
  F_l_state : Fun K "_law_state" "_law_state" s_l_state a_l_state fd_l_state
  b_l_state : Binds K fd_l_state P_l_state []
  g_l_state : mg "_law_state" = some (.ref a_l_state)
  a_l_draw : Addr
  fd_l_draw : FuncData
  F_l_draw : Fun K "_law_draw" "_law_draw" s_l_draw a_l_draw fd_l_draw
  b_l_draw : Binds K fd_l_draw P_l_draw []
  g_l_draw : mg "_law_draw" = some (.ref a_l_draw)
  a_l_great : Addr
  fd_l_great : FuncData
  F_l_great : Fun K "_law_great" "_law_great" s_l_great a_l_great fd_l_great
  b_l_great : Binds K fd_l_great P_l_great []
  g_l_great : mg "_law_great" = some (.ref a_l_great)
  a_l_exact : Addr
  fd_l_exact : FuncData
  F_l_exact : Fun K "_law_exact" "_law_exact" s_l_exact a_l_exact fd_l_exact
  b_l_exact : Binds K fd_l_exact P_l_exact []
  g_l_exact : mg "_law_exact" = some (.ref a_l_exact)
  a_l_sizes : Addr
  fd_l_sizes : FuncData
  F_l_sizes : Fun K "_law_sizes" "_law_sizes" s_l_sizes a_l_sizes fd_l_sizes
  b_l_sizes : Binds K fd_l_sizes P_l_sizes []
  g_l_sizes : mg "_law_sizes" = some (.ref a_l_sizes)
  a_l_due : Addr
  fd_l_due : FuncData
  F_l_due : Fun K "_law_due" "_law_due" s_l_due a_l_due fd_l_due
  b_l_due : Binds K fd_l_due P_l_due []
  g_l_due : mg "_law_due" = some (.ref a_l_due)
  a_l_by_right : Addr
  fd_l_by_right : FuncData
  F_l_by_right : Fun K "_law_by_right" "_law_by_right" s_l_by_right a_l_by_right fd_l_by_right
  b_l_by_right : Binds K fd_l_by_right P_l_by_right []
  g_l_by_right : mg "_law_by_right" = some (.ref a_l_by_right)
  a_law : Addr
  fd_law : FuncData
  F_law : Fun K "law" "law" s_law a_law fd_law
  b_law : Binds K fd_law P_law []
  g_law : mg "law" = some (.ref a_law)
  tk_MOST_BY : Tok
  g_MOST_BY : mg "MOST_BY" = some (.int 1000 tk_MOST_BY)
  m_abs : mg "abs" = none
  m_bool : mg "bool" = none
  m_int : mg "int" = none
  m_isinstance : mg "isinstance" = none
  m_len : mg "len" = none
  m_list : mg "list" = none
  m_range : mg "range" = none
  m_tuple : mg "tuple" = none
  m_sorted : mg "sorted" = none
  i_gcd : mg "gcd" = some (.builtin "math.gcd")
end K02
namespace K02
open PySem PySem.Spec PyProof.Rows L2 GL
section
variable {P : Program} {w : World} {K : PySem.W.Frag} {mg : Str → Option Value} {base : Heap}
theorem ok_is_number (T : Tx K mg) : FnOk P w K mg base CX0 1 T.a_is_number T.fd_is_number P_is_number spIsInt := by
  refine T.F_is_number.ok sc_is_number (fun vs H Q E h => ?_) (fun cdv A outer s H vs Q E hr h => ?_)
  · obtain ⟨z, rfl, _⟩ := h
    rfl
  · obtain ⟨z, rfl, q⟩ := h
    refine ⟨_, (pss_one (ps_ret (pe_and (pe_callB call_isi (by rfl) T.m_isinstance (by decide +kernel) (pa_cons (pv 0) (pa_cons (pe_bltn (v := .ty "int") (by rfl) T.m_int (by decide +kernel) rfl) pa_nil))) (pe_one (pe_not (pe_callB call_isi (by rfl) T.m_isinstance (by decide +kernel) (pa_cons (pv 0) (pa_cons (pe_bltn (v := .ty "bool") (by rfl) T.m_bool (by decide +kernel) rfl) pa_nil)))))))), ?_⟩
    refine ⟨_, rfl, _, _, _, _, true, rfl, .ty _, .base (.int z), kit_ty (by decide +kernel), true, rfl, ?_⟩
    exact ⟨_, rfl, _, _, _, _, false, rfl, .ty _, .base (.int z), kit_ty (by decide +kernel), false, rfl, q⟩
theorem ok_is_rest (T : Tx K mg) : FnOk P w K mg base CX0 2 T.a_is_rest T.fd_is_rest P_is_rest spIsRest := by
  refine T.F_is_rest.ok sc_is_rest (fun vs H Q E h => ?_) (fun cdv A outer s H vs Q E hr h => ?_)
  · obtain ⟨t, r, m, rfl, _⟩ := h
    rfl
  · obtain ⟨t, r, m, rfl, R, q⟩ := h
    refine ⟨_, (pss_cons (ps_if (PW.pt (pw_or (pt_not (pt_val (pe_callB call_isi (by rfl) T.m_isinstance (by decide +kernel) (pa_cons (pv 0) (pa_cons (pe_bltn (v := .ty "tuple") (by rfl) T.m_tuple (by decide +kernel) rfl) pa_nil))))) (pw_or1 (pt_cmpR op_ne (pe_callB call_len_seq (by rfl) T.m_len (by decide +kernel) (pa_cons (pv 0) pa_nil)) pe_int (nomark _)))))
       (pss_one (ps_ret pe_bl))
       pss_nil)
      (pss_cons (ps_asg (pv 0) (pg_tup (by rfl) (pgs_cons (pg_name (i := 1) sc_is_rest.nd rfl (.inl rfl)) (pgs_cons (pg_name (i := 2) sc_is_rest.nd rfl (.inl rfl)) pgs_nil))))
      (pss_one (ps_ret (pe_and (pe_call (ok_is_number T) (hr.mono (by decide)) (by rfl) T.g_is_number T.F_is_number.kp T.b_is_number .nil pass0 (pa_cons (pv 1) pa_nil)) (pe_and (pe_call (ok_is_number T) (hr.mono (by decide)) (by rfl) T.g_is_number T.F_is_number.kp T.b_is_number .nil pass0 (pa_cons (pv 2) pa_nil)) (pe_one (pe_chain op_le op_lt pe_int (pv 1) (pv 2))))))))), ?_⟩
    refine ⟨_, rfl, _, _, _, _, true, rfl, .ty _, .base (.tup R.at'), kit_ty (by decide +kernel), true, rfl, ?_⟩
    refine ⟨_, rfl, t, _, rfl, .inr (SqT.of R.at'), rfl, _, rfl, ?_⟩
    refine ⟨_, rfl, t, _, rfl, SqT.of R.at', rfl, _, _, rfl, _, _, rfl, rfl, ?_⟩
    refine ⟨_, rfl, r, rfl, true, rfl, ?_⟩
    refine ⟨_, rfl, m, rfl, true, rfl, ?_⟩
    refine ⟨_, rfl, _, _, rfl, rfl, _, rfl, ?_⟩
    rw [decide_eq_true R.r0]
    refine ⟨_, rfl, _, _, rfl, rfl, ?_⟩
    show Q (.bl (decide (r < m))) H
    rw [decide_eq_true R.rm]
    exact q
theorem ok_check_rest (T : Tx K mg) : FnOk P w K mg base CX0 3 T.a_check_rest T.fd_check_rest P_check_rest spChRest := by
  refine T.F_check_rest.ok sc_check_rest (fun vs H Q E h => ?_) (fun cdv A outer s H vs Q E hr h => ?_)
  · obtain ⟨t, r, m, rfl, _⟩ := h
    rfl
  · obtain ⟨t, r, m, rfl, R, q⟩ := h
    refine ⟨_, (pss_one (ps_if (pt_not (pt_val (pe_call (ok_is_rest T) (hr.mono (by decide)) (by rfl) T.g_is_rest T.F_is_rest.kp T.b_is_rest .nil pass0 (pa_cons (pv 0) pa_nil))))
       (pss_one ps_never)
       pss_nil)), ?_⟩
    exact ⟨_, rfl, t, r, m, rfl, R, true, rfl, q⟩
theorem ok_check_number (T : Tx K mg) : FnOk P w K mg base CX0 2 T.a_check_number T.fd_check_number P_check_number spChNum := by
  refine T.F_check_number.ok sc_check_number (fun vs H Q E h => ?_) (fun cdv A outer s H vs Q E hr h => ?_)
  · obtain ⟨z, rfl, _⟩ := h
    rfl
  · obtain ⟨z, rfl, q⟩ := h
    refine ⟨_, (pss_one (ps_if (pt_not (pt_val (pe_call (ok_is_number T) (hr.mono (by decide)) (by rfl) T.g_is_number T.F_is_number.kp T.b_is_number .nil pass0 (pa_cons (pv 0) pa_nil))))
       (pss_one ps_never)
       pss_nil)), ?_⟩
    exact ⟨_, rfl, z, rfl, true, rfl, q⟩
def WInv (a p : Int) (m : Nat) (σ : L2.St) : Prop := ∃ (h l t o : Int) (u : Option V), m = l.toNat ∧ σ = [some (.int a), some (.int p), some (.int h), some (.int l), some (.int t), some (.int o), u] ∧ InvW a p h l t o ∧ h.natAbs < 2 ^ 4000 ∧ l.natAbs < 2 ^ 4000
theorem ok_inverse (T : Tx K mg) : FnOk P w K mg base CX0 1 T.a_inverse T.fd_inverse P_inverse spInv := by
  refine T.F_inverse.ok sc_inverse (fun vs H Q E h => ?_) (fun cdv A outer s H vs Q E hr h => ?_)
  · obtain ⟨a, p, rfl, _⟩ := h
    rfl
  · obtain ⟨a, p, rfl, ha, hp, ba, bp, hc, q⟩ := h
    refine ⟨_, (pss_cons (ps_par (i := 2) (j := 3) (by rfl) sc_inverse.nd rfl rfl (by decide) rfl rfl (pa_cons (pv 0) (pa_cons (pv 1) pa_nil)) (by rfl))
      (pss_cons (ps_asg (pe_tup (pa_cons pe_int (pa_cons pe_int pa_nil))) (pg_tup (by rfl) (pgs_cons (pg_name (i := 4) sc_inverse.nd rfl (.inl rfl)) (pgs_cons (pg_name (i := 5) sc_inverse.nd rfl (.inl rfl)) pgs_nil))))
      (pss_cons (ps_while PassesOwn.never (pt_cmpR op_ne (pv 3) pe_int (nomark _))
       (pss_cons (ps_set (i := 6) sc_inverse.nd rfl (.inl rfl) (pe_op op_fdivW (pv 2) (pv 3)))
        (pss_cons (ps_par (i := 2) (j := 3) (by rfl) sc_inverse.nd rfl rfl (by decide) rfl rfl (pa_cons (pv 3) (pa_cons (pe_op op_sub (pv 2) (pe_op op_mulW (pv 6) (pv 3))) pa_nil)) (by rfl))
        (pss_one (ps_par (i := 4) (j := 5) (by rfl) sc_inverse.nd rfl rfl (by decide) rfl rfl (pa_cons (pv 5) (pa_cons (pe_op op_sub (pv 4) (pe_op op_mulW (pv 6) (pv 5))) pa_nil)) (by rfl))))))
      (pss_one (ps_ret (pv 4)))))), ?_⟩
    refine ⟨_, rfl, _, rfl, _, _, rfl, (by show 2 ≤ sizeLine; decide), fun tt ntt => ?_⟩
    refine ⟨tt, _, rfl, SqT.of upd_same, rfl, _, _, rfl, _, _, rfl, rfl, ?_⟩
    refine ⟨fun m σ H1 => WInv a p m σ ∧ Same H H1, ⟨p.toNat, ⟨a, p, 1, 0, none, rfl, rfl, InvW.start ha hp hc, ba, bp⟩, same_new ntt⟩, fun m σ H1 hW => ?_⟩
    obtain ⟨⟨h, l, t, o, u, rfl, rfl, W, bh, bl⟩, sm⟩ := hW
    refine ⟨_, rfl, rfl, _, rfl, ?_⟩
    by_cases hl : l = 0
    · subst hl
      rw [decide_eq_true rfl]
      obtain ⟨f1, f2⟩ := W.fin
      exact iteF ⟨_, rfl, q _ _ sm f1 f2⟩
    · rw [decide_eq_false (fun e => hl (V.int.inj e))]
      have l0 := W.l0
      have lp : 0 < l := by omega
      have W2 := W.step lp
      have q0 : 0 ≤ h / l := Int.ediv_nonneg (by have := W.hp; omega) l0
      have q1 : h / l ≤ h := Int.ediv_le_self _ (by have := W.hp; omega)
      have bq : (h / l).natAbs < 2 ^ 4000 := by omega
      have bo := W.bound.1
      refine iteT ⟨fun σ' H' => ∃ m', m' < l.toNat ∧ WInv a p m' σ' ∧ Same H H', fun _ _ h => h, ?_⟩
      refine ⟨_, rfl, _, rfl, _, _, rfl, rfl, wide_div lp bl (by decide) (by decide), ?_⟩
      refine ⟨_, rfl, _, rfl, _, rfl, _, rfl, _, _, rfl, rfl, wide_mul bq bl (by decide) (by decide) (by decide), _, _, rfl, rfl, _, _, rfl, ?_⟩
      refine ⟨_, rfl, _, rfl, _, rfl, _, rfl, _, _, rfl, rfl, wide_mul bq (Nat.lt_of_le_of_lt bo bp) (by decide) (by decide) (by decide), _, _, rfl, rfl, _, _, rfl, ?_⟩
      have hm : h - h / l * l = h % l := by
        have := Int.emod_add_mul_ediv h l
        rw [Int.mul_comm l] at this
        omega
      have m1 : h % l < l := Int.emod_lt_of_pos _ lp
      have m0 : 0 ≤ h % l := Int.emod_nonneg _ (by omega)
      exact ⟨(h - h / l * l).toNat, by omega, ⟨l, h - h / l * l, o, t - h / l * o, _, rfl, rfl, W2, bl, by omega⟩, sm⟩
theorem ok_both (T : Tx K mg) : FnOk P w K mg base CX0 4 T.a_both T.fd_both P_both spBoth := by
  refine T.F_both.ok sc_both (fun vs H Q E h => ?_) (fun cdv A outer s H vs Q E hr h => ?_)
  · obtain ⟨t, u, r, m, s, n, rfl, _⟩ := h
    rfl
  · obtain ⟨t, u, r, m, sv, n, rfl, R, S, kn, ks⟩ := h
    refine ⟨_, (pss_cons (ps_expr (pe_call (ok_check_rest T) (hr.mono (by decide)) (by rfl) T.g_check_rest T.F_check_rest.kp T.b_check_rest .nil pass0 (pa_cons (pv 0) pa_nil)))
      (pss_cons (ps_expr (pe_call (ok_check_rest T) (hr.mono (by decide)) (by rfl) T.g_check_rest T.F_check_rest.kp T.b_check_rest .nil pass0 (pa_cons (pv 1) pa_nil)))
      (pss_cons (ps_asg (pv 0) (pg_tup (by rfl) (pgs_cons (pg_name (i := 2) sc_both.nd rfl (.inl rfl)) (pgs_cons (pg_name (i := 3) sc_both.nd rfl (.inl rfl)) pgs_nil))))
      (pss_cons (ps_asg (pv 1) (pg_tup (by rfl) (pgs_cons (pg_name (i := 4) sc_both.nd rfl (.inl rfl)) (pgs_cons (pg_name (i := 5) sc_both.nd rfl (.inl rfl)) pgs_nil))))
      (pss_cons (ps_set (i := 6) sc_both.nd rfl (.inl rfl) (pe_callBfun cr_gcd rfl T.i_gcd (pa_cons (pv 3) (pa_cons (pv 5) pa_nil))))
      (pss_cons (ps_if (pt_cmpR op_ne (pe_op op_mod (pe_op op_sub (pv 4) (pv 2)) (pv 6)) pe_int (nomark _))
       (pss_one (ps_ret pe_non))
       pss_nil)
      (pss_cons (ps_set (i := 7) sc_both.nd rfl (.inl rfl) (pe_op op_fdivW (pv 5) (pv 6)))
      (pss_cons (ps_set (i := 8) sc_both.nd rfl (.inl rfl) (pe_op op_mod (pe_op op_mulW (pe_op op_fdivW (pe_op op_sub (pv 4) (pv 2)) (pv 6)) (pe_call (ok_inverse T) (hr.mono (by decide)) (by rfl) T.g_inverse T.F_inverse.kp T.b_inverse .nil pass0 (pa_cons (pe_op op_fdivW (pv 3) (pv 6)) (pa_cons (pv 7) pa_nil)))) (pv 7)))
      (pss_one (ps_ret (pe_tup (pa_cons (pe_op op_add (pv 2) (pe_op op_mulW (pv 3) (pv 8))) (pa_cons (pe_op op_mulW (pv 3) (pv 7)) pa_nil))))))))))))), ?_⟩
    have hm := R.pos
    have hn := S.pos
    have hg := gcd_pos (n := n) hm
    have gm : (Int.gcd m n : Int) ≤ m := Int.le_of_dvd hm (Int.gcd_dvd_left ..)
    have gn : (Int.gcd m n : Int) ≤ n := Int.le_of_dvd hn (Int.gcd_dvd_right ..)
    have bm := R.big
    have bn := S.big
    have r0 := R.r0
    have r1 := R.rm
    have s0 := S.r0
    have s1 := S.rm
    refine ⟨_, rfl, t, r, m, rfl, R, ?_⟩
    refine ⟨_, rfl, u, sv, n, rfl, S, ?_⟩
    refine ⟨_, rfl, t, _, rfl, SqT.of R.at', rfl, _, _, rfl, _, _, rfl, rfl, ?_⟩
    refine ⟨_, rfl, u, _, rfl, SqT.of S.at', rfl, _, _, rfl, _, _, rfl, rfl, ?_⟩
    refine ⟨_, rfl, _, rfl, m, n, rfl, ?_⟩
    rw [show (Nat.gcd m.natAbs n.natAbs : Nat) = Int.gcd m n from rfl]
    refine ⟨_, rfl, _, rfl, _, _, rfl, rfl, _, rfl, _, _, rfl, rfl, hg, rfl, _, rfl, ?_⟩
    by_cases hd : (sv - r) % (Int.gcd m n : Int) = 0
    · rw [decide_eq_true (congrArg V.int hd)]
      refine iteF ?_
      have bg : (Int.gcd m n : Int).natAbs < 2 ^ 4000 := by omega
      have hcp := coprime_parts (n := n) hm
      have p0 : 0 < n / (Int.gcd m n : Int) := Int.ediv_pos_of_pos_of_dvd hn (by omega) (Int.gcd_dvd_right ..)
      have a0 : 0 < m / (Int.gcd m n : Int) := Int.ediv_pos_of_pos_of_dvd hm (by omega) (Int.gcd_dvd_left ..)
      have p1 : n / (Int.gcd m n : Int) ≤ n := Int.ediv_le_self _ (by omega)
      have a1 : m / (Int.gcd m n : Int) ≤ m := Int.ediv_le_self _ (by omega)
      have bp : (n / (Int.gcd m n : Int)).natAbs < 2 ^ 4000 := by omega
      have ba : (m / (Int.gcd m n : Int)).natAbs < 2 ^ 4000 := by omega
      have bk : ((sv - r) / (Int.gcd m n : Int)).natAbs < 2 ^ 4001 := by
        have h1 : ((sv - r) / (Int.gcd m n : Int)).natAbs ≤ (sv - r).natAbs := Int.natAbs_ediv_le_natAbs _ _
        have h2 : (sv - r).natAbs < 2 ^ 4000 + 2 ^ 4000 := by omega
        have h3 : 2 ^ 4001 = 2 ^ 4000 + 2 ^ 4000 := by rw [Nat.pow_succ]; omega
        omega
      refine ⟨_, rfl, _, rfl, _, _, rfl, rfl, wide_div hg bg (by decide) (by decide), ?_⟩
      refine ⟨_, rfl, _, rfl, _, _, rfl, rfl, _, rfl, _, _, rfl, rfl, wide_div hg bg (by decide) (by decide), ?_⟩
      refine ⟨_, rfl, _, rfl, _, _, rfl, rfl, wide_div hg bg (by decide) (by decide), _, rfl, _, _, rfl, a0, p0, ba, bp, hcp, fun H2 iv sm2 hiv biv => ?_⟩
      refine ⟨_, _, rfl, rfl, wide_mul bk (Nat.lt_of_le_of_lt biv bp) (by decide) (by decide) (by decide), _, rfl, _, _, rfl, rfl, p0, ?_⟩
      obtain ⟨c1, c2, c3, c4, c5⟩ := crt_step (inv := iv) hm hn r0 r1 s0 s1 hd hiv
      have st0 := Int.emod_nonneg ((sv - r) / (Int.gcd m n : Int) * iv) (show n / (Int.gcd m n : Int) ≠ 0 by omega)
      have st1 := Int.emod_lt_of_pos ((sv - r) / (Int.gcd m n : Int) * iv) p0
      refine ⟨_, rfl, _, rfl, _, rfl, _, _, rfl, rfl, wide_mul bm (show (((sv - r) / (Int.gcd m n : Int) * iv) % (n / (Int.gcd m n : Int))).natAbs < 2 ^ 4000 by omega) (by decide) (by decide) (by decide), _, _, rfl, rfl, _, rfl, _, rfl, _, _, rfl, rfl, wide_mul bm bp (by decide) (by decide) (by decide), (by show 2 ≤ sizeLine; decide), fun q nq => ?_⟩
      exact ks hd _ q _ (sm2.trans (same_new nq)) (sm2.free nq) upd_same c2 c3 c4 c5
    · rw [decide_eq_false (fun e => hd (V.int.inj e))]
      exact iteT (kn hd)
theorem ok_least (T : Tx K mg) : FnOk P w K mg base CX0 4 T.a_least T.fd_least P_least spLeast := by
  refine T.F_least.ok sc_least (fun vs H Q E h => ?_) (fun cdv A outer s H vs Q E hr h => ?_)
  · obtain ⟨t, r, m, rfl, _⟩ := h
    rfl
  · obtain ⟨t, r, m, rfl, R, q⟩ := h
    refine ⟨_, (pss_cons (ps_expr (pe_call (ok_check_rest T) (hr.mono (by decide)) (by rfl) T.g_check_rest T.F_check_rest.kp T.b_check_rest .nil pass0 (pa_cons (pv 0) pa_nil)))
      (pss_one (ps_ret (pe_ix ix_tup (pv 0) pe_int (fun _ _ => rfl))))), ?_⟩
    refine ⟨_, rfl, t, r, m, rfl, R, ?_⟩
    exact ⟨_, rfl, t, _, 0, .int r, rfl, rfl, SqT.of R.at', atI_nat (j := 0) rfl, q⟩
end
end K02
namespace K02
open PySem PySem.Spec PyProof.Rows L2 GL
section
variable {P : Program} {w : World} {K : PySem.W.Frag} {mg : Str → Option Value} {base : Heap}
theorem ok_check_between (T : Tx K mg) : FnOk P w K mg base CX0 2 T.a_check_between T.fd_check_between P_check_between spBetween := by
  refine T.F_check_between.ok sc_check_between (fun vs H Q E h => ?_) (fun cdv A outer s H vs Q E hr h => ?_)
  · obtain ⟨z, lo, hi, rfl, _⟩ := h
    rfl
  · obtain ⟨z, lo, hi, rfl, h1, h2, q⟩ := h
    refine ⟨_, (pss_one (ps_if (PW.pt (pw_or (pt_not (pt_val (pe_call (ok_is_number T) (hr.mono (by decide)) (by rfl) T.g_is_number T.F_is_number.kp T.b_is_number .nil pass0 (pa_cons (pv 0) pa_nil)))) (pw_or1 (pt_not (pt_chain op_le op_le (pv 1) (pv 0) (pv 2))))))
       (pss_one ps_never)
       pss_nil)), ?_⟩
    refine ⟨_, rfl, z, rfl, true, rfl, ?_⟩
    refine ⟨_, rfl, _, rfl, _, _, rfl, rfl, _, rfl, ?_⟩
    rw [decide_eq_true h1]
    exact ⟨_, rfl, _, _, rfl, rfl, true, congrArg V.bl (decide_eq_true h2), q⟩
theorem ok_by (T : Tx K mg) : FnOk P w K mg base CX0 4 T.a_by T.fd_by P_by spBy := by
  refine T.F_by.ok sc_by (fun vs H Q E h => ?_) (fun cdv A outer s H vs Q E hr h => ?_)
  · obtain ⟨t, r, m, k, rfl, _⟩ := h
    rfl
  · obtain ⟨t, r, m, k, rfl, R, k1, k2, q⟩ := h
    refine ⟨_, (pss_cons (ps_expr (pe_call (ok_check_rest T) (hr.mono (by decide)) (by rfl) T.g_check_rest T.F_check_rest.kp T.b_check_rest .nil pass0 (pa_cons (pv 0) pa_nil)))
      (pss_cons (ps_expr (pe_call (ok_check_between T) (hr.mono (by decide)) (by rfl) T.g_check_between T.F_check_between.kp T.b_check_between .nil pass0 (pa_cons (pv 1) (pa_cons pe_int (pa_cons (pe_glob (v := .int 1000) rfl T.g_MOST_BY ⟨_, rfl⟩) pa_nil)))))
      (pss_cons (ps_set (i := 2) sc_by.nd rfl (.inl rfl) (pe_callBfun cr_gcd rfl T.i_gcd (pa_cons (pe_ix ix_tup (pv 0) pe_int (fun _ _ => rfl)) (pa_cons (pv 1) pa_nil))))
      (pss_one (ps_ret (pe_listRgC rfl T.m_list T.m_range (pa_cons (pe_op op_mod (pe_ix ix_tup (pv 0) pe_int (fun _ _ => rfl)) (pv 2)) (pa_cons (pv 1) (pa_cons (pv 2) pa_nil))))))))), ?_⟩
    have hm := R.pos
    have hg := gcd_pos (n := k) hm
    have gk : (Int.gcd m k : Int) ≤ k := Int.le_of_dvd (by omega) (Int.gcd_dvd_right ..)
    have e0 := Int.emod_nonneg r (show (Int.gcd m k : Int) ≠ 0 by omega)
    have e1 := Int.emod_lt_of_pos r hg
    refine ⟨_, rfl, t, r, m, rfl, R, ?_⟩
    refine ⟨_, rfl, k, 1, 1000, rfl, k1, k2, ?_⟩
    refine ⟨_, rfl, t, _, 1, .int m, rfl, rfl, SqT.of R.at', atI_nat (j := 1) rfl, _, rfl, m, k, rfl, ?_⟩
    rw [show (Nat.gcd m.natAbs k.natAbs : Nat) = Int.gcd m k from rfl]
    refine ⟨_, rfl, t, _, 0, .int r, rfl, rfl, SqT.of R.at', atI_nat (j := 0) rfl, _, rfl, _, _, rfl, rfl, hg, _, rfl, _, rfl, _, _, _, rfl, ⟨by omega, by omega, by omega, by omega, by omega, by omega⟩, fun p np => ?_⟩
    exact q _ p (same_new np) np upd_same
end
end K02
namespace K02
open PySem PySem.Spec PyProof.Rows L2 GL
section
variable {P : Program} {w : World} {K : PySem.W.Frag} {mg : Str → Option Value} {base : Heap}
theorem ok_l_draw (T : Tx K mg) : FnOk P w K mg base CX0 1 T.a_l_draw T.fd_l_draw P_l_draw spDraw := by
  refine T.F_l_draw.ok sc_l_draw (fun vs H Q E h => ?_) (fun cdv A outer s H vs Q E hr h => ?_)
  · obtain ⟨S, C, n, rfl, _⟩ := h
    rfl
  · obtain ⟨S, C, n, rfl, hn, hn2, hst, q⟩ := h
    have hSC := hst.ne
    obtain ⟨cells, k, m, hS, hC, hc0, hc63, hpos, hk, hm, hm2⟩ := hst
    have hz : (0 : Int) < ((cells.map V.int).length : Int) := by rw [List.length_map]; omega
    have b1 := Int.emod_nonneg k (Int.ne_of_gt hz)
    have b2 := Int.emod_lt_of_pos k hz
    obtain ⟨j, c, ej, hj, _, hcj, hcm⟩ := cell_at (xs := cells) b1 (by rw [List.length_map] at b2 ⊢; exact b2)
    have c0 := hpos c hcm
    refine ⟨_, (pss_cons (ps_set (i := 2) sc_l_draw.nd rfl (.inl rfl) (pe_ix ix_list (pv 0) pe_int (fun _ _ => rfl)))
      (pss_cons (ps_set (i := 3) sc_l_draw.nd rfl (.inl rfl) (pe_op op_mod (pe_ix ix_list (pv 0) pe_int (fun _ _ => rfl)) (pe_callB call_len_seq (by rfl) T.m_len (by decide +kernel) (pa_cons (pv 2) pa_nil))))
      (pss_cons (ps_set (i := 4) sc_l_draw.nd rfl (.inl rfl) (pe_ix ix_list (pv 2) (pv 3) (fun _ _ => rfl)))
      (pss_cons (ps_if (pt_cmpR op_ge (pv 4) pe_int (nomark _))
       (pss_cons (ps_asg (pe_op op_fdivW (pv 4) (pv 1)) (pg_sub (pv 2) (pv 3) set_list))
        (pss_one (ps_ret (pe_op op_mod (pv 4) (pv 1)))))
       pss_nil)
      (pss_cons (ps_asg (pe_op op_add (pe_ix ix_list (pv 0) pe_int (fun _ _ => rfl)) pe_int) (pg_sub (pv 0) pe_int set_list))
      (pss_cons (ps_asg (pe_op op_mod (pe_op op_add (pe_op op_add (pe_op op_add (pe_op op_mul (pe_ix ix_list (pv 0) pe_int (fun _ _ => rfl)) pe_int) (pv 4)) (pe_op op_mul pe_int (pe_ix ix_list (pv 0) pe_int (fun _ _ => rfl)))) pe_int) pe_int) (pg_sub (pv 0) pe_int set_list))
      (pss_one (ps_ret (pe_op op_mod (pe_op op_fdiv (pe_op op_mod (pe_op op_mul (pe_ix ix_list (pv 0) pe_int (fun _ _ => rfl)) (pe_ix ix_list (pv 0) pe_int (fun _ _ => rfl))) pe_int) pe_int) (pv 1)))))))))), ?_⟩
    refine ⟨_, rfl, _, _, _, _, rfl, rfl, SqL.of hS, rfl, ?_⟩
    refine ⟨_, rfl, _, _, _, _, rfl, rfl, SqL.of hS, rfl, _, rfl, C, _, rfl, .inl (SqL.of hC), _, _, rfl, rfl, hz, ?_⟩
    refine ⟨_, rfl, _, rfl, _, _, _, _, rfl, rfl, SqL.of hC, at_of ej hcj, ?_⟩
    refine ⟨_, rfl, _, _, rfl, rfl, _, rfl, ite2 (fun hbig => ?_) (fun hsmall => ?_)⟩
    · refine ⟨_, rfl, _, rfl, _, _, rfl, rfl, wide_div hn hn2 (by decide) (by decide), _, rfl, _, rfl, C, _, _, j, rfl, rfl, hC, ixN_of ej (by rw [List.length_map]; exact hj), ?_⟩
      refine ⟨_, rfl, _, rfl, _, _, rfl, rfl, hn, ?_⟩
      refine q _ _ (fun b o e n1 n2 => by rw [upd_ne n2]; exact e) ⟨cells.set j (c / n), k, m, by rw [upd_ne hSC]; exact hS, by rw [upd_same, List.map_set], by rw [List.length_set]; exact hc0, by rw [List.length_set]; exact hc63, fun x hx => ?_, hk, hm, hm2⟩ (Int.emod_nonneg _ (Int.ne_of_gt hn)) (Int.emod_lt_of_pos _ hn)
      rcases List.mem_or_eq_of_mem_set hx with hx | rfl
      · exact hpos x hx
      · exact Int.ediv_nonneg c0 (Int.le_of_lt hn)
    · refine ⟨_, rfl, _, _, _, _, rfl, rfl, SqL.of hS, rfl, _, _, rfl, rfl, _, rfl, S, _, _, 1, rfl, rfl, hS, rfl, ?_⟩
      rw [lst3_set1]
      refine ⟨_, rfl, _, _, _, _, rfl, rfl, SqL.of upd_same, rfl, _, _, rfl, rfl, .inl (by omega), _, rfl, _, _, rfl, rfl, _, rfl, _, _, _, _, rfl, rfl, SqL.of upd_same, rfl, _, _, rfl, rfl, .inl ⟨by decide, by decide⟩, _, _, rfl, rfl, _, _, rfl, rfl, _, _, rfl, rfl, (by show (0 : Int) < 2147483647; decide), _, rfl, S, _, _, 2, rfl, rfl, upd_same, rfl, ?_⟩
      have n1 := Int.emod_nonneg (m * 48271 + c + 7919 * (k + 1) + 12345) (show (2147483647 : Int) ≠ 0 by decide)
      have n2 := Int.emod_lt_of_pos (m * 48271 + c + 7919 * (k + 1) + 12345) (show (0 : Int) < 2147483647 by decide)
      refine ⟨_, rfl, _, _, _, _, rfl, rfl, SqL.of upd_same, rfl, _, rfl, _, _, _, _, rfl, rfl, SqL.of upd_same, rfl, _, _, rfl, rfl, .inl (by omega), _, _, rfl, rfl, (by show (0 : Int) < 2147483629; decide), _, _, rfl, rfl, ⟨by decide, by decide⟩, _, rfl, _, _, rfl, rfl, hn, ?_⟩
      refine q _ _ (fun b o e n1 n2 => by rw [upd_ne n1, upd_ne n1]; exact e) ⟨cells, k + 1, _, upd_same, by rw [upd_ne hSC.symm, upd_ne hSC.symm]; exact hC, hc0, hc63, hpos, by omega, n1, n2⟩ (Int.emod_nonneg _ (Int.ne_of_gt hn)) (Int.emod_lt_of_pos _ hn)
theorem ok_l_great (T : Tx K mg) : FnOk P w K mg base CX0 2 T.a_l_great T.fd_l_great P_l_great spGreat := by
  refine T.F_l_great.ok sc_l_great (fun vs H Q E h => ?_) (fun cdv A outer s H vs Q E hr h => ?_)
  · obtain ⟨S, C, n, rfl, _⟩ := h
    rfl
  · obtain ⟨S, C, f, rfl, f0, f1, hst, q⟩ := h
    refine ⟨_, (pss_cons (ps_set (i := 2) sc_l_great.nd rfl (.inl rfl) pe_int)
      (pss_cons (ps_for PassesOwn.never rfl (pi_range1 (by rfl) T.m_range (pa_cons (pv 1) pa_nil)) (pg_name (i := 3) sc_l_great.nd rfl (.inl rfl))
       (pss_one (ps_set (i := 2) sc_l_great.nd rfl (.inl rfl) (pe_op op_add (pe_op op_mul (pv 2) pe_int) (pe_call (ok_l_draw T) (hr.mono (by decide)) (by rfl) T.g_l_draw T.F_l_draw.kp T.b_l_draw .nil pass0 (pa_cons (pv 0) (pa_cons pe_int pa_nil)))))))
      (pss_one (ps_ret (pv 2))))), ?_⟩
    refine ⟨_, rfl, f, rfl, by omega, by omega, ?_⟩
    refine for_range (lo := 0) (n := f.toNat) (fun i σ H1 => Mod S C H H1 ∧ StOk H1 S C ∧ ∃ (z : Int) (u : Option V), σ = [some (.ref S), some (.int f), some (.int z), u] ∧ 0 ≤ z ∧ z < 10 ^ i)
      ⟨Mod.refl S C H, hst, 0, none, rfl, by decide, by decide⟩ (fun i σ H1 hi hP => ?_) (fun σ H1 hP => ?_)
    · obtain ⟨m1, st1, z, u, rfl, z0, z1⟩ := hP
      refine ⟨_, rfl, _, _, rfl, rfl, .inr ⟨by decide, by decide⟩, _, rfl, S, C, _, rfl, by decide, by decide, st1, fun H2 d m2 st2 d0 d1 => ?_⟩
      refine ⟨_, _, rfl, rfl, m1.trans m2, st2, z * 10 + d, _, rfl, by omega, ?_⟩
      rw [Int.pow_succ]
      omega
    · obtain ⟨m1, st1, z, u, rfl, z0, z1⟩ := hP
      exact ⟨_, rfl, q _ _ m1 st1 z0 z1⟩
theorem ok_l_state (T : Tx K mg) : FnOk P w K mg base CX0 1 T.a_l_state T.fd_l_state P_l_state (spState K) := by
  refine T.F_l_state.ok sc_l_state (fun vs H Q E h => ?_) (fun cdv A outer s H vs Q E hr h => ?_)
  · obtain ⟨a, ns, rfl, _⟩ := h
    rfl
  · obtain ⟨a, ns, rfl, ha, hl, q⟩ := h
    refine ⟨_, (pss_one (ps_ret (pe_lst (pa_cons (pe_orT (pe_lc (own := [("_law_cell", 1)]) (g := gName 1) (tt := tYes) rfl sc_l_state.nd (pi_list (pe_slice sl_list (pv 0) po_none (po_some pe_int))) (blkOk_by (N := N_l_state) (sc := defScope s_l_state) (by decide +kernel)) (fun _ _ _ _ _ => pg_name (i := 1) sc_l_state.nd rfl (Or.inl rfl)) (fun _ _ _ _ _ => pts_nil) (fun _ _ _ _ _ => (pe_callB call_abs (by rfl) T.m_abs (by decide +kernel) (pa_cons (pv 1) pa_nil)))) (pe_one (pe_lst (pa_cons pe_int pa_nil)))) (pa_cons pe_int (pa_cons pe_int pa_nil)))))), ?_⟩
    refine ⟨_, rfl, 63, rfl, a, _, rfl, ha, fun c nc => ?_⟩
    rw [show cutV (ns.map V.int) none (some 63) = ns.map V.int from (cut_take _ 63).trans (List.take_of_length_le (by rw [List.length_map]; exact hl))]
    have Dn : ∀ D, (upd H c (.lst (ns.map V.int))) D = none → D ≠ c ∧ H D = none := fun D nD => by
      have k : D ≠ c := fun e => by rw [e, upd_same] at nD; cases nD
      exact ⟨k, by rw [upd_ne k] at nD; exact nD⟩
    refine ⟨c, rfl, ⟨_, SqL.of upd_same⟩, fun D nD => ?_⟩
    obtain ⟨nDc, nD0⟩ := Dn D nD
    refine lc_list (K := K) (a := c) (xs := ns.map V.int) (fun i H' => Same H H' ∧ H' c = some (.lst (ns.map V.int)) ∧ H' D = some (.lst (((ns.take i).map fun n => if n < 0 then -n else n).map V.int))) ⟨(same_new nc).own nD0, by rw [upd_ne nDc.symm, upd_same], upd_same⟩ (fun i H' _ p => SqL.of p.2.1) (fun i x H' hx p => ?_) (fun H' p => ?_)
    · obtain ⟨sm, hc, hD⟩ := p
      obtain ⟨z, hz, rfl⟩ := of_ints_at hx
      have hlt := (List.getElem?_eq_some_iff.mp hz).1
      refine ⟨rfl, ?_⟩
      refine ⟨_, rfl, z, rfl, _, hD, by rw [List.length_map, List.length_map, List.length_take]; exact small_lt (by omega), ?_⟩
      refine ⟨L2.Same.own sm nD0, by rw [upd_ne nDc.symm]; exact hc, ?_⟩
      rw [upd_same, take_snoc hz, List.map_append, List.map_append]
      rfl
    · obtain ⟨sm, hc, hD⟩ := p
      rw [List.length_map, List.take_length] at hD
      generalize hcs : (ns.map fun n => if n < 0 then -n else n) = cs at hD
      have hpos : ∀ z ∈ cs, 0 ≤ z := fun z hz => by
        rw [← hcs] at hz
        obtain ⟨n, _, rfl⟩ := List.mem_map.mp hz
        split <;> omega
      have hcl : cs.length ≤ 63 := by rw [← hcs, List.length_map]; exact hl
      refine ⟨!cs.isEmpty, .inl ⟨_, SqL.of hD, by cases cs <;> rfl⟩, ?_⟩
      cases cs with
      | nil =>
        refine ⟨(by show 1 ≤ sizeLine; decide), fun p np => ?_⟩
        refine ⟨(by show 3 ≤ sizeLine; decide), fun S nS => ?_⟩
        have nSp : S ≠ p := fun z => by rw [z, upd_same] at nS; cases nS
        have nS0 : H S = none := sm.free (by rw [upd_ne nSp] at nS; exact nS)
        exact q _ S p ((sm.trans (same_new np)).trans (same_new nS)) nS0 (sm.free np) ⟨[7], 0, 1, upd_same, by rw [upd_ne nSp.symm, upd_same]; rfl, by decide, by decide, by decide, by decide, by decide, by decide⟩
      | cons c0 cr =>
        refine ⟨(by show 3 ≤ sizeLine; decide), fun S nS => ?_⟩
        have nS0 : H S = none := sm.free nS
        have hSD : S ≠ D := fun z => by rw [z, hD] at nS; cases nS
        exact q _ S D (sm.trans (same_new nS)) nS0 nD0 ⟨c0 :: cr, 0, 1, upd_same, by rw [upd_ne hSD.symm]; exact hD, Nat.succ_pos _, hcl, hpos, by decide, by decide, by decide⟩
end
end K02
namespace K02
open PySem PySem.Spec PyProof.Rows L2 GL
section
variable {P : Program} {w : World} {K : PySem.W.Frag} {mg : Str → Option Value} {base : Heap}
theorem ok_has (T : Tx K mg) : FnOk P w K mg base CX0 4 T.a_has T.fd_has P_has spHas := by
  refine T.F_has.ok sc_has (fun vs H Q E h => ?_) (fun cdv A outer s H vs Q E hr h => ?_)
  · obtain ⟨t, r, m, z, rfl, _⟩ := h
    rfl
  · obtain ⟨t, r, m, z, rfl, R, q⟩ := h
    refine ⟨_, (pss_cons (ps_expr (pe_call (ok_check_rest T) (hr.mono (by decide)) (by rfl) T.g_check_rest T.F_check_rest.kp T.b_check_rest .nil pass0 (pa_cons (pv 0) pa_nil)))
      (pss_cons (ps_expr (pe_call (ok_check_number T) (hr.mono (by decide)) (by rfl) T.g_check_number T.F_check_number.kp T.b_check_number .nil pass0 (pa_cons (pv 1) pa_nil)))
      (pss_cons (ps_asg (pv 0) (pg_tup (by rfl) (pgs_cons (pg_name (i := 2) sc_has.nd rfl (.inl rfl)) (pgs_cons (pg_name (i := 3) sc_has.nd rfl (.inl rfl)) pgs_nil))))
      (pss_one (ps_ret (pe_cmpR op_eq (pe_op op_mod (pv 1) (pv 3)) (pv 2) (nomark _))))))), ?_⟩
    have hm := R.pos
    refine ⟨_, rfl, t, r, m, rfl, R, ?_⟩
    refine ⟨_, rfl, z, rfl, ?_⟩
    refine ⟨_, rfl, t, _, rfl, SqT.of R.at', rfl, _, _, rfl, _, _, rfl, rfl, ?_⟩
    refine ⟨_, rfl, _, rfl, _, _, rfl, rfl, hm, _, rfl, rfl, ?_⟩
    show Q (.bl (decide (V.int (z % m) = V.int r))) H
    rw [show decide (V.int (z % m) = V.int r) = decide (z % m = r) from by rw [decide_eq_decide]; exact ⟨fun e => by injection e, fun e => by rw [e]⟩]
    exact q
theorem ok_l_exact (T : Tx K mg) : FnOk P w K mg base CX0 1 T.a_l_exact T.fd_l_exact P_l_exact spExact := by
  refine T.F_l_exact.ok sc_l_exact (fun vs H Q E h => ?_) (fun cdv A outer s H vs Q E hr h => ?_)
  · obtain ⟨x, y, rfl, _⟩ := h
    rfl
  · obtain ⟨x, y, rfl, h, q⟩ := h
    refine ⟨_, (pss_cons (ps_if (PW.pt (pw_or (pt_cmpR op_ne (pe_callB call_isi (by rfl) T.m_isinstance (by decide +kernel) (pa_cons (pv 0) (pa_cons (pe_bltn (v := .ty "tuple") (by rfl) T.m_tuple (by decide +kernel) rfl) pa_nil))) (pe_callB call_isi (by rfl) T.m_isinstance (by decide +kernel) (pa_cons (pv 1) (pa_cons (pe_bltn (v := .ty "tuple") (by rfl) T.m_tuple (by decide +kernel) rfl) pa_nil))) (nomark _)) (pw_or1 (pt_cmpR op_ne (pe_callB call_isi (by rfl) T.m_isinstance (by decide +kernel) (pa_cons (pv 0) (pa_cons (pe_bltn (v := .ty "list") (by rfl) T.m_list (by decide +kernel) rfl) pa_nil))) (pe_callB call_isi (by rfl) T.m_isinstance (by decide +kernel) (pa_cons (pv 1) (pa_cons (pe_bltn (v := .ty "list") (by rfl) T.m_list (by decide +kernel) rfl) pa_nil))) (nomark _)))))
       (pss_one (ps_ret pe_bl))
       pss_nil)
      (pss_cons (ps_if (PW.pt (pw_or (pt_cmpR (op_neD hr.units) (pv 0) (pv 1) (nomark _)) (pw_or1 (pt_cmpR op_isN (pv 1) pe_non (nomark _)))))
       (pss_one (ps_ret (pe_and (pe_cmpR op_isN (pv 0) pe_non (nomark _)) (pe_one (pe_cmpR op_isN (pv 1) pe_non (nomark _))))))
       pss_nil)
      (pss_one (ps_ret (pe_cmpR (op_eqD hr.units) (pe_lc (own := [("_law_one", 2)]) (g := gName 2)  rfl sc_l_exact.nd (pi_either (pi_list (pv 0)) (pi_tup (pv 0))) (blkOk_by (N := N_l_exact) (sc := defScope s_l_exact) (by decide +kernel)) (fun _ _ _ _ _ => pg_name (i := 2) sc_l_exact.nd rfl (Or.inl rfl)) (fun _ _ _ _ _ => pts_one (PW.pt (pw_or (pt_val (pe_callB (show CallR _ (.builtin "isinstance") (rIsi K) from call_isi) (by rfl) T.m_isinstance (by decide +kernel) (pa_cons (pv 2) (pa_cons (pe_bltn (v := .ty "bool") (by rfl) T.m_bool (by decide +kernel) rfl) pa_nil)))) (pw_or1 (pt_not (pt_val (pe_callB (show CallR _ (.builtin "isinstance") (rIsi K) from call_isi) (by rfl) T.m_isinstance (by decide +kernel) (pa_cons (pv 2) (pa_cons (pe_bltn (v := .ty "int") (by rfl) T.m_int (by decide +kernel) rfl) pa_nil))))))))) (fun _ _ _ _ _ => (pv 2))) (pe_lst pa_nil) (nomark _)))))), ?_⟩
    rcases h with ⟨rfl, rfl⟩ | ⟨a, b, i, j, rfl, rfl, ha, hb⟩ | ⟨a, b, ns, rfl, rfl, ha, hb⟩
    · refine ⟨_, rfl, _, _, _, _, false, rfl, .ty _, .base .non, kit_ty (by decide +kernel), _, rfl, _, _, _, _, false, rfl, .ty _, .base .non, kit_ty (by decide +kernel), rfl, _, rfl, ?_⟩
      refine iteF ?_
      refine ⟨_, rfl, _, _, _, _, false, rfl, .ty _, .base .non, kit_ty (by decide +kernel), _, rfl, _, _, _, _, false, rfl, .ty _, .base .non, kit_ty (by decide +kernel), rfl, _, rfl, ?_⟩
      refine iteF ?_
      refine ⟨_, rfl, _, rfl, _, _, .non, .non, rfl, rfl, _, rfl, ?_⟩
      refine iteF ?_
      refine ⟨_, rfl, rfl, _, rfl, ?_⟩
      refine iteT ?_
      refine ⟨_, rfl, rfl, _, rfl, ?_⟩
      exact iteT ⟨_, rfl, rfl, q H (fun _ _ h => h)⟩
    · refine ⟨_, rfl, _, _, _, _, true, rfl, .ty _, .base (.tup ha), kit_ty (by decide +kernel), _, rfl, _, _, _, _, true, rfl, .ty _, .base (.tup hb), kit_ty (by decide +kernel), rfl, _, rfl, ?_⟩
      refine iteF ?_
      refine ⟨_, rfl, _, _, _, _, false, rfl, .ty _, .base (.tup ha), kit_ty (by decide +kernel), _, rfl, _, _, _, _, false, rfl, .ty _, .base (.tup hb), kit_ty (by decide +kernel), rfl, _, rfl, ?_⟩
      refine iteF ?_
      refine ⟨_, rfl, _, rfl, _, _, .tup (SqT.of ha) (dpi_all [_, _]), .tup (SqT.of hb) (dpi_all [_, _]), shapedi_tup [_, _], shapedi_tup [_, _], _, rfl, ?_⟩
      refine iteN (eqv_pair _ _) ?_
      refine ⟨_, rfl, rfl, _, rfl, ?_⟩
      refine iteF ?_
      refine .inr ⟨_, rfl, a, rfl, ⟨_, SqT.of ha⟩, fun D nD => ?_⟩
      refine lc_tup (K := K) (a := a) (xs := [.int i, .int j]) (fun i H1 => Same H H1 ∧ H1 D = some (.lst [])) ⟨same_new nD, upd_same⟩ (fun i H1 _ p => SqT.of (p.1 _ _ ha)) (fun k x H1 hx p => ?_) (fun H1 p => ?_)
      · obtain ⟨z, rfl⟩ : ∃ z, x = .int z := by
          rcases k with _ | _ | k
          · injection hx with hx; exact ⟨_, hx.symm⟩
          · injection hx with hx; exact ⟨_, hx.symm⟩
          · cases hx
        exact ⟨rfl, _, rfl, _, _, _, _, false, rfl, .ty _, .base (.int z), kit_ty (by decide +kernel), false, rfl, _, rfl, _, _, _, _, true, rfl, .ty _, .base (.int z), kit_ty (by decide +kernel), true, rfl, p⟩
      · obtain ⟨sm, hD⟩ := p
        refine ⟨Nat.zero_le _, fun l nl => ?_⟩
        have sl := same_new (o := .lst []) nl
        refine ⟨_, _, .lst (SqL.of (sl _ _ hD)) .nil, .lst (SqL.of upd_same) .nil, shapedi_list [], shapedi_list [], ?_⟩
        rw [show PyData.eqv (.list []) (.list []) = true from (eqvi_lists [] []).trans (decide_eq_true rfl)]
        exact q _ (sm.trans sl)
    · refine ⟨_, rfl, _, _, _, _, false, rfl, .ty _, .base (.lst ha), kit_ty (by decide +kernel), _, rfl, _, _, _, _, false, rfl, .ty _, .base (.lst hb), kit_ty (by decide +kernel), rfl, _, rfl, ?_⟩
      refine iteF ?_
      refine ⟨_, rfl, _, _, _, _, true, rfl, .ty _, .base (.lst ha), kit_ty (by decide +kernel), _, rfl, _, _, _, _, true, rfl, .ty _, .base (.lst hb), kit_ty (by decide +kernel), rfl, _, rfl, ?_⟩
      refine iteF ?_
      refine ⟨_, rfl, _, rfl, _, _, .lst (SqL.of ha) (dpi_all _), .lst (SqL.of hb) (dpi_all _), shapedi_list _, shapedi_list _, _, rfl, ?_⟩
      refine iteN ((eqvi_lists _ _).trans (decide_eq_true rfl)) ?_
      refine ⟨_, rfl, rfl, _, rfl, ?_⟩
      refine iteF ?_
      refine .inl ⟨_, rfl, a, rfl, ⟨_, SqL.of ha⟩, fun D nD => ?_⟩
      refine lc_list (K := K) (a := a) (xs := ns.map V.int) (fun i H1 => Same H H1 ∧ H1 D = some (.lst [])) ⟨same_new nD, upd_same⟩ (fun i H1 _ p => SqL.of (p.1 _ _ ha)) (fun k x H1 hx p => ?_) (fun H1 p => ?_)
      · obtain ⟨z, rfl⟩ : ∃ z, x = .int z := by
          obtain ⟨z, _, e⟩ := of_ints_at hx
          exact ⟨z, e⟩
        exact ⟨rfl, _, rfl, _, _, _, _, false, rfl, .ty _, .base (.int z), kit_ty (by decide +kernel), false, rfl, _, rfl, _, _, _, _, true, rfl, .ty _, .base (.int z), kit_ty (by decide +kernel), true, rfl, p⟩
      · obtain ⟨sm, hD⟩ := p
        refine ⟨Nat.zero_le _, fun l nl => ?_⟩
        have sl := same_new (o := .lst []) nl
        refine ⟨_, _, .lst (SqL.of (sl _ _ hD)) .nil, .lst (SqL.of upd_same) .nil, shapedi_list [], shapedi_list [], ?_⟩
        rw [show PyData.eqv (.list []) (.list []) = true from (eqvi_lists [] []).trans (decide_eq_true rfl)]
        exact q _ (sm.trans sl)
theorem prod_small {a b : Int} (a1 : 1 ≤ a) (a2 : a ≤ 6) (b1 : 1 ≤ b) (b2 : b ≤ 5) : 1 ≤ a * b ∧ a * b ≤ 30 := by
  have h1 : a * b ≤ 6 * b := Int.mul_le_mul_of_nonneg_right a2 (by omega)
  have h2 : 1 * b ≤ a * b := Int.mul_le_mul_of_nonneg_right a1 (by omega)
  omega
theorem ok_l_sizes (T : Tx K mg) : FnOk P w K mg base CX0 2 T.a_l_sizes T.fd_l_sizes P_l_sizes spSizes := by
  refine T.F_l_sizes.ok sc_l_sizes (fun vs H Q E h => ?_) (fun cdv A outer s H vs Q E hr h => ?_)
  · obtain ⟨S, C, rfl, _⟩ := h
    rfl
  · obtain ⟨S, C, rfl, st, q⟩ := h
    refine ⟨_, (pss_cons (ps_par3 (i := 1) (j := 2) (l := 3) (by rfl) sc_l_sizes.nd rfl rfl rfl (by decide) (by decide) (by decide) rfl rfl rfl (pa_cons (pe_op op_add pe_int (pe_call (ok_l_draw T) (hr.mono (by decide)) (by rfl) T.g_l_draw T.F_l_draw.kp T.b_l_draw .nil pass0 (pa_cons (pv 0) (pa_cons pe_int pa_nil)))) (pa_cons (pe_op op_add pe_int (pe_call (ok_l_draw T) (hr.mono (by decide)) (by rfl) T.g_l_draw T.F_l_draw.kp T.b_l_draw .nil pass0 (pa_cons (pv 0) (pa_cons pe_int pa_nil)))) (pa_cons (pe_op op_add pe_int (pe_call (ok_l_draw T) (hr.mono (by decide)) (by rfl) T.g_l_draw T.F_l_draw.kp T.b_l_draw .nil pass0 (pa_cons (pv 0) (pa_cons pe_int pa_nil)))) pa_nil))) (by rfl))
      (pss_cons (ps_set (i := 4) sc_l_sizes.nd rfl (.inl rfl) (pe_call (ok_l_draw T) (hr.mono (by decide)) (by rfl) T.g_l_draw T.F_l_draw.kp T.b_l_draw .nil pass0 (pa_cons (pv 0) (pa_cons pe_int pa_nil))))
      (pss_cons (ps_if (pt_cmpR op_eq (pv 4) pe_int (nomark _))
       (pss_one (ps_ret (pe_tup (pa_cons (pv 1) (pa_cons (pv 2) pa_nil)))))
       pss_nil)
      (pss_cons (ps_if (pt_cmpR op_eq (pv 4) pe_int (nomark _))
       (pss_one (ps_ret (pe_tup (pa_cons (pe_op op_mul (pv 3) (pe_op op_add pe_int (pe_op op_mod (pv 1) pe_int))) (pa_cons (pv 3) pa_nil)))))
       pss_nil)
      (pss_one (ps_ret (pe_ifExp (pt_cmpR op_eq (pv 4) pe_int (nomark _)) (pe_tup (pa_cons (pe_op op_mul (pv 3) (pe_op op_add pe_int (pe_op op_mod (pv 1) pe_int))) (pa_cons (pe_op op_mul (pv 3) (pe_op op_add pe_int (pe_op op_mod (pv 2) pe_int))) pa_nil))) (pe_tup (pa_cons (pv 1) (pa_cons (pv 1) pa_nil)))))))))), ?_⟩
    refine ⟨_, rfl, S, C, _, rfl, by decide, by decide, st, fun H1 x1 m1 st1 a0 a1 => ⟨_, _, rfl, rfl, ?_⟩⟩
    refine ⟨_, rfl, S, C, _, rfl, by decide, by decide, st1, fun H2 x2 m2 st2 b0 b1 => ⟨_, _, rfl, rfl, ?_⟩⟩
    refine ⟨_, rfl, S, C, _, rfl, by decide, by decide, st2, fun H3 x3 m3 st3 c0 c1 => ⟨_, _, rfl, rfl, ?_⟩⟩
    refine ⟨_, _, _, rfl, ?_⟩
    refine ⟨_, rfl, S, C, _, rfl, by decide, by decide, st3, fun H4 w m4 st4 d0 d1 => ?_⟩
    have mm := ((m1.trans m2).trans m3).trans m4
    have q1 : 0 ≤ (1 + x1) % 5 ∧ (1 + x1) % 5 ≤ 4 := by omega
    have q2 : 0 ≤ (1 + x2) % 5 ∧ (1 + x2) % 5 ≤ 4 := by omega
    refine ⟨_, rfl, rfl, _, rfl, ?_⟩
    show if decide (V.int w = V.int 0) = true then _ else _
    by_cases w0 : w = 0
    · rw [w0, decide_eq_true rfl]
      refine iteT ⟨_, rfl, _, rfl, (by show 2 ≤ sizeLine; decide), fun t nt => ?_⟩
      exact q _ t _ _ (mm.trans (Mod.of (same_new nt))) (st4.same (same_new nt)) upd_same (by omega) (by omega) (by omega) (by omega)
    rw [decide_eq_false (fun e => w0 (by injection e))]
    refine iteF ?_
    refine ⟨_, rfl, rfl, _, rfl, ?_⟩
    show if decide (V.int w = V.int 1) = true then _ else _
    by_cases w1 : w = 1
    · rw [w1, decide_eq_true rfl]
      refine iteT ⟨_, rfl, _, rfl, _, _, rfl, rfl, (by show (0 : Int) < 5; decide), _, _, rfl, rfl, _, _, rfl, rfl, .inl ⟨by omega, by omega⟩, _, rfl, (by show 2 ≤ sizeLine; decide), fun t nt => ?_⟩
      have b1 := (prod_small (by omega) (by omega) (by omega) (by omega) : 1 ≤ (1 + x3) * (1 + (1 + x1) % 5) ∧ (1 + x3) * (1 + (1 + x1) % 5) ≤ 30)
      exact q _ t _ _ (mm.trans (Mod.of (same_new nt))) (st4.same (same_new nt)) upd_same b1.1 b1.2 (by omega) (by omega)
    rw [decide_eq_false (fun e => w1 (by injection e))]
    refine iteF ?_
    refine ⟨_, rfl, rfl, _, rfl, ?_⟩
    show if decide (V.int w = V.int 2) = true then _ else _
    by_cases w2 : w = 2
    · rw [w2, decide_eq_true rfl]
      refine iteT ⟨_, rfl, _, rfl, _, _, rfl, rfl, (by show (0 : Int) < 5; decide), _, _, rfl, rfl, _, _, rfl, rfl, .inl ⟨by omega, by omega⟩, _, rfl, _, rfl, _, _, rfl, rfl, (by show (0 : Int) < 5; decide), _, _, rfl, rfl, _, _, rfl, rfl, .inl ⟨by omega, by omega⟩, (by show 2 ≤ sizeLine; decide), fun t nt => ?_⟩
      have b1 := (prod_small (by omega) (by omega) (by omega) (by omega) : 1 ≤ (1 + x3) * (1 + (1 + x1) % 5) ∧ (1 + x3) * (1 + (1 + x1) % 5) ≤ 30)
      have b2 := (prod_small (by omega) (by omega) (by omega) (by omega) : 1 ≤ (1 + x3) * (1 + (1 + x2) % 5) ∧ (1 + x3) * (1 + (1 + x2) % 5) ≤ 30)
      exact q _ t _ _ (mm.trans (Mod.of (same_new nt))) (st4.same (same_new nt)) upd_same b1.1 b1.2 b2.1 b2.2
    rw [decide_eq_false (fun e => w2 (by injection e))]
    refine iteF ⟨_, rfl, _, rfl, (by show 2 ≤ sizeLine; decide), fun t nt => ?_⟩
    exact q _ t _ _ (mm.trans (Mod.of (same_new nt))) (st4.same (same_new nt)) upd_same (by omega) (by omega) (by omega) (by omega)
end
end K02
namespace K02
open PySem PySem.Spec PyProof.Rows L2 GL
section
variable {P : Program} {w : World} {K : PySem.W.Frag} {mg : Str → Option Value} {base : Heap}
theorem far_small {m n : Int} (m1 : 1 ≤ m) (m2 : m ≤ 30) (n1 : 1 ≤ n) (n2 : n ≤ 30) : 1 ≤ m * n ∧ m * n ≤ 900 := by
  have h1 : m * n ≤ 30 * n := Int.mul_le_mul_of_nonneg_right m2 (by omega)
  have h2 : 1 * n ≤ m * n := Int.mul_le_mul_of_nonneg_right m1 (by omega)
  omega
theorem int_dec (x y : Int) : decide (V.int x = V.int y) = decide (x = y) := by rw [decide_eq_decide]; exact ⟨fun e => by injection e, fun e => by rw [e]⟩
theorem ok_l_due (T : Tx K mg) : FnOk P w K mg base CX0 1 T.a_l_due T.fd_l_due P_l_due spDue := by
  refine T.F_l_due.ok sc_l_due (fun vs H Q E h => ?_) (fun cdv A outer s H vs Q E hr h => ?_)
  · obtain ⟨t, u, r, m, s, n, rfl, _⟩ := h
    rfl
  · obtain ⟨t, u, r, m, s', n, rfl, R1, R2, m2, n2, q1, q2⟩ := h
    refine ⟨_, (pss_cons (ps_set (i := 2) sc_l_due.nd rfl (.inl rfl) (pe_op op_mul (pe_ix ix_tup (pv 0) pe_int (fun _ _ => rfl)) (pe_ix ix_tup (pv 1) pe_int (fun _ _ => rfl))))
      (pss_cons (ps_setLc (i := 3) (own := [("_law_number", 4)]) (g := gName 4)  rfl sc_l_due.nd rfl rfl (sw_true rfl rfl rfl (by decide +kernel)) (pi_range1 (by rfl) T.m_range (pa_cons (pv 2) pa_nil)) (blkOk_by (N := N_l_due) (sc := defScope s_l_due) (by decide +kernel)) (fun _ _ _ _ _ => pg_name (i := 4) sc_l_due.nd rfl (Or.inl rfl)) (fun _ _ _ _ _ => pts_one (PW.pt (pw_and (pt_cmpR op_eq (pe_op op_mod (pv 4) (pe_ix (show IxR _ (rIxT K) from ix_tup) (pv 0) pe_int (fun _ _ => rfl))) (pe_ix (show IxR _ (rIxT K) from ix_tup) (pv 0) pe_int (fun _ _ => rfl)) (nomark _)) (pw_and1 (pt_cmpR op_eq (pe_op op_mod (pv 4) (pe_ix (show IxR _ (rIxT K) from ix_tup) (pv 1) pe_int (fun _ _ => rfl))) (pe_ix (show IxR _ (rIxT K) from ix_tup) (pv 1) pe_int (fun _ _ => rfl)) (nomark _)))))) (fun _ _ _ _ _ => (pv 4)))
      (pss_cons (ps_if (pt_cmpR (op_eqD hr.units) (pv 3) (pe_lst pa_nil) (nomark _))
       (pss_one (ps_ret pe_non))
       pss_nil)
      (pss_one (ps_ret (pe_tup (pa_cons (pe_ix ix_list (pv 3) pe_int (fun _ _ => rfl)) (pa_cons (pe_op op_fdiv (pv 2) (pe_callB call_len_seq (by rfl) T.m_len (by decide +kernel) (pa_cons (pv 3) pa_nil))) pa_nil)))))))), ?_⟩
    have hm := R1.pos
    have hn := R2.pos
    have hg := gcd_pos (n := n) hm
    have hF := far_small (show 1 ≤ m by omega) m2 (show 1 ≤ n by omega) n2
    refine ⟨_, rfl, t, _, 1, .int m, rfl, rfl, SqT.of R1.at', atI_nat (j := 1) rfl, _, rfl, u, _, 1, .int n, rfl, rfl, SqT.of R2.at', atI_nat (j := 1) rfl, _, _, rfl, rfl, .inl ⟨by omega, by omega⟩, ?_⟩
    refine ⟨_, rfl, _, rfl, by omega, by omega, fun D nD => ?_⟩
    have hk : (((m * n).toNat : Nat) : Int) = m * n := Int.toNat_of_nonneg (by omega)
    have hk9 : (m * n).toNat ≤ 900 := by omega
    refine lc_range (lo := 0) (n := (m * n).toNat) (fun j H1 => Same H H1 ∧ H1 D = some (.lst ((dueRow r m s' n j).map V.int))) ⟨same_new nD, upd_same⟩ (fun j H1 hj hP => ?_) (fun H1 hP => ?_)
    · obtain ⟨sm, hD⟩ := hP
      have A1 := SqT.of (K := K) (sm _ _ R1.at')
      have A2 := SqT.of (K := K) (sm _ _ R2.at')
      refine ⟨rfl, _, rfl, _, rfl, t, _, 1, .int m, rfl, rfl, A1, atI_nat (j := 1) rfl, _, _, rfl, rfl, hm, _, rfl, t, _, 0, .int r, rfl, rfl, A1, atI_nat (j := 0) rfl, rfl, _, rfl, ?_⟩
      show if decide (V.int ((0 + (j : Int)) % m) = V.int r) = true then _ else _
      rw [int_dec, Int.zero_add, dueRow_succ]
      by_cases c1 : (j : Int) % m = r
      · rw [decide_eq_true c1]
        refine iteT ⟨_, rfl, _, rfl, u, _, 1, .int n, rfl, rfl, A2, atI_nat (j := 1) rfl, _, _, rfl, rfl, hn, _, rfl, u, _, 0, .int s', rfl, rfl, A2, atI_nat (j := 0) rfl, rfl, _, rfl, ?_⟩
        show if decide (V.int ((j : Int) % n) = V.int s') = true then _ else _
        rw [int_dec]
        by_cases c2 : (j : Int) % n = s'
        · rw [decide_eq_true c2, if_pos (show (j : Int) % m = r ∧ (j : Int) % n = s' from ⟨c1, c2⟩)]
          refine iteT ⟨_, rfl, _, hD, by have := dueRow_len r m s' n j; rw [List.length_map]; exact small_lt (by omega), sm.own nD, ?_⟩
          rw [upd_same, List.map_append]
          rfl
        · rw [decide_eq_false c2, if_neg (show ¬ ((j : Int) % m = r ∧ (j : Int) % n = s') from fun e => c2 e.2)]
          exact iteF ⟨sm, hD⟩
      · rw [decide_eq_false c1, if_neg (show ¬ ((j : Int) % m = r ∧ (j : Int) % n = s') from fun e => c1 e.1)]
        exact iteF ⟨sm, hD⟩
    · obtain ⟨sm, hD⟩ := hP
      refine ⟨_, rfl, Nat.zero_le _, fun l nl => ?_⟩
      have sl := same_new (o := .lst []) nl
      have hD2 := sl _ _ hD
      refine ⟨_, _, .lst (SqL.of hD2) (dpi_all _), .lst (SqL.of upd_same) (dpi_all []), shapedi_list _, shapedi_list [], _, rfl, ?_⟩
      rw [eqvi_lists]
      by_cases hd : (s' - r) % (Int.gcd m n : Int) = 0
      · obtain ⟨x, x0, x1, e1, e2, h0, hlen, hq⟩ := due_some R1.r0 R1.rm R2.r0 R2.rm hk hd
        rw [decide_eq_false (fun e => by rw [e] at h0; cases h0)]
        have g30 : (Int.gcd m n : Int) ≤ 30 := by have := Int.le_of_dvd hm (Int.gcd_dvd_left (a := m) (b := n)); omega
        refine iteF ⟨_, rfl, D, _, 0, .int x, rfl, rfl, SqL.of hD2, atI_nat (j := 0) (by rw [List.getElem?_map, h0]; rfl), _, rfl, _, rfl, D, _, rfl, .inl (SqL.of hD2), _, _, rfl, rfl, ⟨by rw [List.length_map, hlen]; omega, by rw [List.length_map, hlen]; omega⟩, (by show 2 ≤ sizeLine; decide), fun p np => ?_⟩
        refine q2 hd _ p x ((sm.trans sl).trans (same_new np)) ?_ x0 x1 e1 e2
        rw [upd_same]
        dsimp only
        rw [List.length_map, hlen, hq]
      · rw [due_none hd]
        exact iteT (q1 hd _ (sm.trans sl))
end
end K02
namespace K02
open PySem PySem.Spec PyProof.Rows L2 GL
section
variable {P : Program} {w : World} {K : PySem.W.Frag} {mg : Str → Option Value} {base : Heap}
theorem ok_l_by_right (T : Tx K mg) : FnOk P w K mg base CX0 5 T.a_l_by_right T.fd_l_by_right P_l_by_right spByRight2 := by
  refine T.F_l_by_right.ok sc_l_by_right (fun vs H Q E h => ?_) (fun cdv A outer s H vs Q E hr h => ?_)
  · obtain ⟨t, r, m, N, rfl, _⟩ := h
    rfl
  · obtain ⟨t, r, m, N, rfl, R, n1, n2, q⟩ := h
    obtain ⟨k, rfl⟩ : ∃ k : Nat, N = (k : Int) := ⟨N.toNat, by omega⟩
    have hu := hu_of hr
    have hm := R.pos
    refine ⟨_, (pss_cons (ps_set (i := 2) sc_l_by_right.nd rfl (.inl rfl) pe_dnewK)
      (pss_cons (ps_for PassesOwn.never rfl (pi_range1 (by rfl) T.m_range (pa_cons (pv 1) pa_nil)) (pg_name (i := 3) sc_l_by_right.nd rfl (.inl rfl))
       (pss_one (ps_dput hu (pv 2) (pe_op op_mod (pe_op op_add (pe_ix ix_tup (pv 0) pe_int (fun _ _ => rfl)) (pe_op op_mul (pe_ix ix_tup (pv 0) pe_int (fun _ _ => rfl)) (pv 3))) (pv 1)) pe_bl rfl)))
      (pss_cons (ps_set (i := 4) sc_l_by_right.nd rfl (.inl rfl) (pe_call (ok_by T) (hr.mono (by decide)) (by rfl) T.g_by T.F_by.kp T.b_by .nil pass0 (pa_cons (pv 0) (pa_cons (pv 1) pa_nil))))
      (pss_cons (ps_if (pt_not (pt_val (pe_call (ok_l_exact T) (hr.mono (by decide)) (by rfl) T.g_l_exact T.F_l_exact.kp T.b_l_exact .nil pass0 (pa_cons (pv 4) (pa_cons (pe_callB (cr_sortedKeys rfl) (by rfl) T.m_sorted (by decide +kernel) (pa_cons (pv 2) pa_nil)) pa_nil)))))
       (pss_one (ps_ret pe_bl))
       pss_nil)
      (pss_cons (ps_expr (pe_bm0 PySem.F.plainAttrs_list PySem.F.slot_list_clear PySem.F.type_list_clear mt_clear (pv 4)))
      (pss_one (ps_ret (pe_call (ok_l_exact T) (hr.mono (by decide)) (by rfl) T.g_l_exact T.F_l_exact.kp T.b_l_exact .nil pass0 (pa_cons (pe_call (ok_by T) (hr.mono (by decide)) (by rfl) T.g_by T.F_by.kp T.b_by .nil pass0 (pa_cons (pv 0) (pa_cons (pv 1) pa_nil))) (pa_cons (pe_callB (cr_sortedKeys rfl) (by rfl) T.m_sorted (by decide +kernel) (pa_cons (pv 2) pa_nil)) pa_nil)))))))))), ?_⟩
    refine fun d nd => ?_
    refine ⟨_, rfl, _, rfl, by omega, by omega, ?_⟩
    refine for_range (lo := 0) (n := (k : Int).toNat) (fun j σ H1 => (∃ u3 u4, σ = [some (.ref t), some (.int (k : Int)), some (.ref d), u3, u4]) ∧ Same H H1 ∧ ∃ (kvs : List (Key × V)) (ks : List Int), H1 d = some (.dK kvs) ∧ kvs.map (·.1) = ks.map Sum.inl ∧ KeysOf r m k j ks)
      ⟨⟨none, none, rfl⟩, same_new nd, [], [], upd_same, rfl, List.nodup_nil, Nat.le_refl _, fun z => ⟨(fun h => nomatch h), fun ⟨k, a, _⟩ => absurd a (Nat.not_lt_zero _)⟩⟩ (fun j σ H1 hj hP => ?_) (fun σ H1 hP => ?_)
    · obtain ⟨⟨u3, u4, rfl⟩, sm, kvs, ks, hd, hk, KO⟩ := hP
      have A1 := SqT.of (K := K) (sm _ _ R.at')
      have hlen : kvs.length < sizeLine := by
        have e := congrArg List.length hk
        rw [List.length_map, List.length_map] at e
        have := KO.2.1
        exact small_lt (by omega)
      refine ⟨_, rfl, _, rfl, t, _, 0, .int r, rfl, rfl, A1, atI_nat (j := 0) rfl, _, rfl, t, _, 1, .int m, rfl, rfl, A1, atI_nat (j := 1) rfl, _, rfl, _, _, rfl, rfl, .inr ⟨by omega, by omega⟩, _, _, rfl, rfl, _, rfl, _, _, rfl, rfl, (by omega), ?_⟩
      refine ⟨d, _, rfl, .inl ⟨kvs, Sum.inl ((r + m * (0 + (j : Int))) % (k : Int)), hd, rfl, hlen, rfl⟩, ⟨_, _, rfl⟩, sm.own nd, ?_⟩
      obtain ⟨ks', KO', hk'⟩ := KO.step (v := .bl true) hk
      rw [Int.zero_add]
      exact ⟨_, ks', upd_same, hk', KO'⟩
    · obtain ⟨⟨u3, u4, rfl⟩, sm, kvs, ks, hd, hk, KO⟩ := hP
      rw [Int.toNat_natCast] at KO
      have hks : ks.length ≤ 5000 := by have := KO.2.1; omega
      refine ⟨_, rfl, _, rfl, t, r, m, (k : Int), rfl, R.same sm, n1, n2, fun H2 p sm2 np hp => ?_⟩
      have hd2 := sm2 _ _ hd
      have R2 := (R.same sm).same sm2
      refine ⟨_, rfl, _, rfl, d, kvs, ks, rfl, .inl hd2, hk, hks, fun ms qd pm so nq => ?_⟩
      have sq := same_new (o := .lst (ms.map V.int)) nq
      have ems := keys_row R.r0 R.rm (show 0 < k by omega) KO pm so
      refine ⟨_, _, rfl, .inr (.inr ⟨p, qd, ms, rfl, rfl, by have e := sq _ _ hp; rwa [← ems] at e, upd_same⟩), fun H3 sm3 => ⟨true, rfl, ?_⟩⟩
      have sm23 := sq.trans sm3
      have hp3 := sm23 _ _ hp
      have hd3 := sm23 _ _ hd2
      have R3 := R2.same sm23
      refine ⟨_, rfl, .inl ⟨rfl, _, SqL.of hp3⟩, p, _, rfl, rfl, hp3, ?_⟩
      have ntp : t ≠ p := ne_of R3.at' hp3 (fun z => nomatch z)
      have ndp : d ≠ p := ne_of hd3 hp3 (fun z => nomatch z)
      have hp0 : H p = none := sm.free np
      have smE : Same H (upd H3 p (.lst [])) := ((sm.trans sm2).trans sm23).own hp0
      have R4 : RestAt (upd H3 p (.lst [])) t r m := R.same smE
      have hd4 : upd H3 p (.lst []) d = some (.dK kvs) := by rw [upd_ne ndp]; exact hd3
      refine ⟨_, rfl, _, rfl, t, r, m, (k : Int), rfl, R4, n1, n2, fun H5 p5 sm5 np5 hp5 => ?_⟩
      refine ⟨_, rfl, d, kvs, ks, rfl, .inl (sm5 _ _ hd4), hk, hks, fun ms2 qd2 pm2 so2 nq2 => ?_⟩
      have sq2 := same_new (o := .lst (ms2.map V.int)) nq2
      have ems2 := keys_row R.r0 R.rm (show 0 < k by omega) KO pm2 so2
      exact ⟨_, _, rfl, .inr (.inr ⟨p5, qd2, ms2, rfl, rfl, by have e := sq2 _ _ hp5; rwa [← ems2] at e, upd_same⟩), fun H6 sm6 => q _ (((smE.trans sm5).trans sq2).trans sm6)⟩
end
end K02
namespace K02
open PySem PySem.Spec PyProof.Rows L2 GL
section
variable {P : Program} {w : World} {K : PySem.W.Frag} {mg : Str → Option Value} {base : Heap}
theorem one_to {z : Int} (a : 0 ≤ z) (b : z < 60) : 1 ≤ 1 + z ∧ 1 + z ≤ 1000 := by omega
theorem near_thousand {z : Int} (a : 0 ≤ z) (b : z < 11) : 1 ≤ 990 + z ∧ 990 + z ≤ 1000 := by omega
theorem small_rest {m : Int} (a : 1 ≤ m) (b : m ≤ 30) : 0 < m ∧ m.natAbs < 2 ^ 200 ∧ m.natAbs < 2 ^ 4000 := ⟨by omega, Nat.lt_of_le_of_lt (show m.natAbs ≤ 30 by omega) (by decide), Nat.lt_of_le_of_lt (show m.natAbs ≤ 30 by omega) (by decide)⟩
theorem ok_law (T : Tx K mg) : FnOk P w K mg base CX0 9 T.a_law T.fd_law P_law (spLaw K) := by
  refine T.F_law.ok sc_law (fun vs H Q E h => ?_) (fun cdv A outer s H vs Q E hr h => ?_)
  · obtain ⟨a, ns, rfl, _⟩ := h
    rfl
  · obtain ⟨a, ns, rfl, ha, hl, q⟩ := h
    have hu := hu_of hr
    refine ⟨_, (pss_cons (ps_set (i := 1) sc_law.nd rfl (.inr rfl) (pe_call (ok_l_state T) (hr.mono (by decide)) (by rfl) T.g_l_state T.F_l_state.kp T.b_l_state .nil pass0 (pa_cons (pv 0) pa_nil)))
      (pss_cons (ps_for PassesOwn.never rfl (pi_range1 (by rfl) T.m_range (pa_cons pe_int pa_nil)) (pg_name (i := 2) sc_law.nd rfl (.inl rfl))
       (pss_cons (ps_asg (pe_call (ok_l_sizes T) (hr.mono (by decide)) (by rfl) T.g_l_sizes T.F_l_sizes.kp T.b_l_sizes .nil pass0 (pa_cons (pv 1) pa_nil)) (pg_tup (by rfl) (pgs_cons (pg_name (i := 3) sc_law.nd rfl (.inl rfl)) (pgs_cons (pg_name (i := 4) sc_law.nd rfl (.inl rfl)) pgs_nil))))
        (pss_cons (ps_par (i := 5) (j := 6) (by rfl) sc_law.nd rfl rfl (by decide) rfl rfl (pa_cons (pe_tup (pa_cons (pe_call (ok_l_draw T) (hr.mono (by decide)) (by rfl) T.g_l_draw T.F_l_draw.kp T.b_l_draw .nil pass0 (pa_cons (pv 1) (pa_cons (pv 3) pa_nil))) (pa_cons (pv 3) pa_nil))) (pa_cons (pe_tup (pa_cons (pe_call (ok_l_draw T) (hr.mono (by decide)) (by rfl) T.g_l_draw T.F_l_draw.kp T.b_l_draw .nil pass0 (pa_cons (pv 1) (pa_cons (pv 4) pa_nil))) (pa_cons (pv 4) pa_nil))) pa_nil)) (by rfl))
        (pss_cons (ps_set (i := 7) sc_law.nd rfl (.inl rfl) (pe_call (ok_l_due T) (hr.mono (by decide)) (by rfl) T.g_l_due T.F_l_due.kp T.b_l_due .nil pass0 (pa_cons (pv 5) (pa_cons (pv 6) pa_nil))))
        (pss_cons (ps_if (PW.pt (pw_or (pt_not (pt_val (pe_call (ok_l_exact T) (hr.mono (by decide)) (by rfl) T.g_l_exact T.F_l_exact.kp T.b_l_exact .nil pass0 (pa_cons (pe_call (ok_both T) (hr.mono (by decide)) (by rfl) T.g_both T.F_both.kp T.b_both .nil pass0 (pa_cons (pv 5) (pa_cons (pv 6) pa_nil))) (pa_cons (pv 7) pa_nil))))) (pw_or1 (pt_not (pt_val (pe_call (ok_l_exact T) (hr.mono (by decide)) (by rfl) T.g_l_exact T.F_l_exact.kp T.b_l_exact .nil pass0 (pa_cons (pe_call (ok_both T) (hr.mono (by decide)) (by rfl) T.g_both T.F_both.kp T.b_both .nil pass0 (pa_cons (pv 6) (pa_cons (pv 5) pa_nil))) (pa_cons (pv 7) pa_nil))))))))
         (pss_one (ps_ret pe_bl))
         pss_nil)
        (pss_cons (ps_if (PW.pt (pw_or (pt_not (pt_val (pe_call (ok_l_exact T) (hr.mono (by decide)) (by rfl) T.g_l_exact T.F_l_exact.kp T.b_l_exact .nil pass0 (pa_cons (pe_call (ok_both T) (hr.mono (by decide)) (by rfl) T.g_both T.F_both.kp T.b_both .nil pass0 (pa_cons (pv 5) (pa_cons (pv 5) pa_nil))) (pa_cons (pv 5) pa_nil))))) (pw_or1 (pt_not (pt_val (pe_call (ok_l_exact T) (hr.mono (by decide)) (by rfl) T.g_l_exact T.F_l_exact.kp T.b_l_exact .nil pass0 (pa_cons (pe_call (ok_both T) (hr.mono (by decide)) (by rfl) T.g_both T.F_both.kp T.b_both .nil pass0 (pa_cons (pv 5) (pa_cons (pe_tup (pa_cons pe_int (pa_cons pe_int pa_nil))) pa_nil))) (pa_cons (pv 5) pa_nil))))))))
         (pss_one (ps_ret pe_bl))
         pss_nil)
        (pss_cons (ps_set (i := 8) sc_law.nd rfl (.inl rfl) (pe_op op_cat (pe_lc (own := [("_law_k", 15)]) (g := gName 15) (tt := tYes) rfl sc_law.nd (pi_range1 (by rfl) T.m_range (pa_cons pe_int pa_nil)) (blkOk_by (N := N_law) (sc := defScope s_law) (by decide +kernel)) (fun _ _ _ _ _ => pg_name (i := 15) sc_law.nd rfl (Or.inl rfl)) (fun _ _ _ _ _ => pts_nil) (fun _ _ _ _ _ => (pe_op op_sub (pe_call (ok_l_draw T) (hr.mono (by decide)) (by rfl) T.g_l_draw T.F_l_draw.kp T.b_l_draw .nil pass0 (pa_cons (pv 1) (pa_cons pe_int pa_nil))) pe_int))) (pe_lst (pa_cons (pe_op op_sub (pe_ix ix_tup (pv 5) pe_int (fun _ _ => rfl)) (pe_op op_mul (pv 3) pe_int)) (pa_cons (pe_op op_add (pe_ix ix_tup (pv 5) pe_int (fun _ _ => rfl)) (pe_op op_mul (pv 3) (pe_op op_pow pe_int pe_int))) pa_nil)))))
        (pss_cons (ps_for PassesOwn.never rfl (pi_list (pv 8)) (pg_name (i := 9) sc_law.nd rfl (.inl rfl))
         (pss_cons (ps_set (i := 10) sc_law.nd rfl (.inl rfl) (pe_call (ok_has T) (hr.mono (by decide)) (by rfl) T.g_has T.F_has.kp T.b_has .nil pass0 (pa_cons (pv 5) (pa_cons (pv 9) pa_nil))))
          (pss_one (ps_if (PW.pt (pw_or (pt_not (pt_val (pe_callB call_isi (by rfl) T.m_isinstance (by decide +kernel) (pa_cons (pv 10) (pa_cons (pe_bltn (v := .ty "bool") (by rfl) T.m_bool (by decide +kernel) rfl) pa_nil))))) (pw_or (pt_cmpR op_ne (pv 10) (pe_cmpR op_eq (pe_op op_mod (pv 9) (pv 3)) (pe_ix ix_tup (pv 5) pe_int (fun _ _ => rfl)) (nomark _)) (nomark _)) (pw_or1 (pt_cmpR op_notBl (pe_call (ok_has T) (hr.mono (by decide)) (by rfl) T.g_has T.F_has.kp T.b_has .nil pass0 (pa_cons (pe_tup (pa_cons pe_int (pa_cons pe_int pa_nil))) (pa_cons (pv 9) pa_nil))) pe_bl (nomark _))))))
           (pss_one (ps_ret pe_bl))
           pss_nil))))
        (pss_cons (ps_if (PW.pt (pw_or (pt_cmpR op_ne (pe_call (ok_least T) (hr.mono (by decide)) (by rfl) T.g_least T.F_least.kp T.b_least .nil pass0 (pa_cons (pv 5) pa_nil)) (pe_ix ix_tup (pv 5) pe_int (fun _ _ => rfl)) (nomark _)) (pw_or1 (pt_val (pe_callB call_isi (by rfl) T.m_isinstance (by decide +kernel) (pa_cons (pe_call (ok_least T) (hr.mono (by decide)) (by rfl) T.g_least T.F_least.kp T.b_least .nil pass0 (pa_cons (pv 5) pa_nil)) (pa_cons (pe_bltn (v := .ty "bool") (by rfl) T.m_bool (by decide +kernel) rfl) pa_nil)))))))
         (pss_one (ps_ret pe_bl))
         pss_nil)
        (pss_cons (ps_set (i := 11) sc_law.nd rfl (.inl rfl) (pe_op op_add pe_int (pe_call (ok_l_great T) (hr.mono (by decide)) (by rfl) T.g_l_great T.F_l_great.kp T.b_l_great .nil pass0 (pa_cons (pv 1) (pa_cons (pe_op op_add pe_int (pe_call (ok_l_draw T) (hr.mono (by decide)) (by rfl) T.g_l_draw T.F_l_draw.kp T.b_l_draw .nil pass0 (pa_cons (pv 1) (pa_cons pe_int pa_nil)))) pa_nil)))))
        (pss_cons (ps_set (i := 12) sc_law.nd rfl (.inl rfl) (pe_tup (pa_cons (pe_op op_mod (pe_call (ok_l_great T) (hr.mono (by decide)) (by rfl) T.g_l_great T.F_l_great.kp T.b_l_great .nil pass0 (pa_cons (pv 1) (pa_cons pe_int pa_nil))) (pv 11)) (pa_cons (pv 11) pa_nil))))
        (pss_cons (ps_set (i := 13) sc_law.nd rfl (.inl rfl) (pe_lst (pa_cons pe_int (pa_cons (pe_op op_add pe_int (pe_call (ok_l_draw T) (hr.mono (by decide)) (by rfl) T.g_l_draw T.F_l_draw.kp T.b_l_draw .nil pass0 (pa_cons (pv 1) (pa_cons pe_int pa_nil)))) (pa_cons (pe_op op_add pe_int (pe_call (ok_l_draw T) (hr.mono (by decide)) (by rfl) T.g_l_draw T.F_l_draw.kp T.b_l_draw .nil pass0 (pa_cons (pv 1) (pa_cons pe_int pa_nil)))) pa_nil)))))
        (pss_one (ps_for PassesOwn.never rfl (pi_list (pv 13)) (pg_name (i := 14) sc_law.nd rfl (.inl rfl))
         (pss_one (ps_if (PW.pt (pw_or (pt_not (pt_val (pe_call (ok_l_by_right T) (hr.mono (by decide)) (by rfl) T.g_l_by_right T.F_l_by_right.kp T.b_l_by_right .nil pass0 (pa_cons (pv 5) (pa_cons (pv 14) pa_nil))))) (pw_or1 (pt_not (pt_val (pe_call (ok_l_by_right T) (hr.mono (by decide)) (by rfl) T.g_l_by_right T.F_l_by_right.kp T.b_l_by_right .nil pass0 (pa_cons (pv 12) (pa_cons (pv 14) pa_nil))))))))
           (pss_one (ps_ret pe_bl))
           pss_nil))))))))))))))))
      (pss_one (ps_ret pe_bl)))), ?_⟩
    refine ⟨_, rfl, a, ns, rfl, ha, hl, fun H1 S C sm1 nS nC st1 => ?_⟩
    refine ⟨4, rfl, by decide, by decide, ?_⟩
    refine for_range (lo := 0) (n := (4 : Int).toNat) (fun i σ H2 => (∃ u2 u3 u4 u5 u6 u7 u8 u9 u10 u11 u12 u13 u14 u15, σ = [some (.ref a), some (.ref S), u2, u3, u4, u5, u6, u7, u8, u9, u10, u11, u12, u13, u14, u15]) ∧ StOk H2 S C)
      ⟨⟨none, none, none, none, none, none, none, none, none, none, none, none, none, none, rfl⟩, st1⟩ (fun i σ H2 hi hP => ?_) (fun σ H2 hP => ?_)
    rotate_left
    · obtain ⟨⟨u2, u3, u4, u5, u6, u7, u8, u9, u10, u11, u12, u13, u14, u15, rfl⟩, _⟩ := hP
      exact q _
    · clear st1 sm1 nS nC
      obtain ⟨⟨u2, u3, u4, u5, u6, u7, u8, u9, u10, u11, u12, u13, u14, u15, rfl⟩, st2⟩ := hP
      refine ⟨_, rfl, S, C, rfl, st2, fun H3 p0 m n m3 st3 hp0 m1 m2 n1 n2 => ?_⟩
      refine ⟨p0, _, rfl, SqT.of hp0, rfl, _, _, rfl, _, _, rfl, rfl, ?_⟩
      obtain ⟨hm, bm, bM⟩ := small_rest m1 m2
      obtain ⟨hn, bn, bN⟩ := small_rest n1 n2
      refine ⟨_, rfl, _, rfl, S, C, _, rfl, hm, bm, st3, fun H4 r m4 st4 r0 r1 => ⟨_, rfl, (by show 2 ≤ sizeLine; decide), fun t nt => ?_⟩⟩
      have stt := same_new (o := .tup [.int r, .int m]) nt
      have R1 : RestAt _ t r m := ⟨upd_of (o := .tup [.int r, .int m]) nt, r0, r1, bM⟩
      have st5 := st4.same stt
      generalize upd H4 t (.tup [.int r, .int m]) = H5 at *
      clear m3 hp0 st2 st3 m4 st4 nt stt
      refine ⟨_, rfl, _, rfl, S, C, _, rfl, hn, bn, st5, fun H6 s' m6 st6 s0 s1 => ⟨_, rfl, (by show 2 ≤ sizeLine; decide), fun u nu => ?_⟩⟩
      have suu := same_new (o := .tup [.int s', .int n]) nu
      have R2 : RestAt _ u s' n := ⟨upd_of (o := .tup [.int s', .int n]) nu, s0, s1, bN⟩
      have R1 := (R1.mod m6 st5).same suu
      have st7 := st6.same suu
      generalize upd H6 u (.tup [.int s', .int n]) = H7 at *
      clear st5 m6 st6 nu suu
      refine ⟨_, _, rfl, ?_⟩
      refine ⟨_, rfl, _, rfl, t, u, r, m, s', n, rfl, R1, R2, m2, n2, fun hno H8 sm8 => ?_, fun hyes H8 q8 x sm8 hq8 x0 x1 e1 e2 => ?_⟩
      · have R1 := R1.same sm8
        have R2 := R2.same sm8
        have st8 := st7.same sm8
        refine ⟨_, rfl, _, rfl, t, u, _, _, _, _, rfl, R1, R2, fun _ => ?_, fun hy _ _ _ _ _ _ _ _ _ _ => absurd hy hno⟩
        refine ⟨_, rfl, _, _, rfl, .inl ⟨rfl, rfl⟩, fun H9 sm9 => ⟨true, rfl, ?_⟩⟩
        have R1 := R1.same sm9
        have R2 := R2.same sm9
        have st9 := st8.same sm9
        refine ⟨_, rfl, _, rfl, u, t, _, _, _, _, rfl, R2, R1, fun _ => ?_, fun hy _ _ _ _ _ _ _ _ _ _ => absurd (cond_swap.mp hy) hno⟩
        refine ⟨_, rfl, _, _, rfl, .inl ⟨rfl, rfl⟩, fun HZ smA => ⟨true, rfl, ?_⟩⟩
        have R1 := R1.same smA
        have stG := st9.same smA
        clear sm8 sm9 smA st8 st9 st7 R2
        -- with itself, and with what says nothing
        have dself : (r - r) % (Int.gcd m m : Int) = 0 := by rw [Int.sub_self, Int.zero_emod]
        have done : (0 - r) % (Int.gcd m 1 : Int) = 0 := by rw [Int.gcd_one_right]; exact Int.emod_one _
        have rmod : ∀ y, 0 ≤ y → y < m → y % m = r → y = r := fun y a b c => by rw [← c, Int.emod_eq_of_lt a b]
        refine ⟨_, rfl, _, rfl, t, t, _, _, _, _, rfl, R1, R1, fun hy => absurd dself hy, fun _ Ha qa xa sma nqa hqa xa0 xa1 xa2 _ => ?_⟩
        rw [self_m hm] at hqa xa1
        rw [rmod xa xa0 xa1 xa2] at hqa
        refine ⟨_, rfl, _, _, rfl, .inr (.inl ⟨qa, t, _, _, rfl, rfl, hqa, (R1.same sma).at'⟩), fun Hb smb => ⟨true, rfl, ?_⟩⟩
        have R1 := (R1.same sma).same smb
        have stG := (stG.same sma).same smb
        refine ⟨_, rfl, (by show 2 ≤ sizeLine; decide), fun wz nw => ?_⟩
        have sw := same_new (o := .tup [.int 0, .int 1]) nw
        refine ⟨t, wz, _, _, _, _, rfl, R1.same sw, ⟨upd_of (o := .tup [.int 0, .int 1]) nw, by decide, by decide, by decide⟩, fun hy => absurd done hy, fun _ Hc qc xc smc nqc hqc xc0 xc1 xc2 _ => ?_⟩
        rw [one_m] at hqc xc1
        rw [rmod xc xc0 xc1 xc2] at hqc
        have R1 := (R1.same sw).same smc
        have stG := (stG.same sw).same smc
        refine ⟨_, rfl, _, _, rfl, .inr (.inl ⟨qc, t, _, _, rfl, rfl, hqc, R1.at'⟩), fun Hd smd => ⟨true, rfl, ?_⟩⟩
        have R1 := R1.same smd
        have stG := stG.same smd
        clear sma smb smc smd hqa hqc nqa nqc nw sw xa0 xa1 xa2 xc0 xc1 xc2
        -- the numbers
        refine ⟨6, rfl, by decide, by decide, fun D nD => ?_⟩
        refine lc_range (lo := 0) (n := (6 : Int).toNat) (fun j H9 => Mod S C Hd H9 ∧ StOk H9 S C ∧ ∃ zs : List Int, H9 D = some (.lst (zs.map V.int)) ∧ zs.length = j) ⟨Mod.of (same_new nD), stG.same (same_new nD), [], upd_same, rfl⟩ (fun j H9 hj hP => ?_) (fun H9 hP => ?_)
        · obtain ⟨mm, sto, zs, hD, zl⟩ := hP
          have DS := stG.neS nD
          have DC := stG.neC nD
          refine ⟨rfl, _, rfl, S, C, _, rfl, by decide, by decide, sto, fun Hx z mx stx z0 z1 => ⟨_, _, rfl, rfl, ?_⟩⟩
          refine ⟨_, mx _ _ hD DS DC, by rw [List.length_map, zl]; exact Nat.lt_trans hj (by decide), (mm.trans mx).own nD, stx.upd DS DC, zs ++ [z - 100], by rw [upd_same, List.map_append]; rfl, by rw [List.length_append, zl]; rfl⟩
        · obtain ⟨mm, sto, zs, hD, zl⟩ := hP
          have R1 := R1.mod mm stG
          have A1 := SqT.of (K := K) R1.at'
          refine ⟨_, rfl, t, _, 0, .int r, rfl, rfl, A1, atI_nat (j := 0) rfl, _, rfl, _, _, rfl, rfl, .inl ⟨by omega, by omega⟩, _, _, rfl, rfl, _, rfl, t, _, 0, .int r, rfl, rfl, A1, atI_nat (j := 0) rfl, _, rfl, _, _, rfl, rfl, ⟨by decide, by decide, by decide⟩, _, _, rfl, rfl, .inl ⟨by omega, by omega⟩, _, _, rfl, rfl, (by show 2 ≤ sizeLine; decide), fun l nl => ?_⟩
          have sl := same_new (o := .lst ([r - m * 40, r + m * 10 ^ (40 : Int).toNat].map V.int)) nl
          have hl2 := upd_of (o := .lst ([r - m * 40, r + m * 10 ^ (40 : Int).toNat].map V.int)) nl
          refine ⟨D, l, _, _, rfl, rfl, sl _ _ hD, hl2, by rw [List.length_map, zl]; show 6 + 2 ≤ sizeLine; decide, fun b nb => ?_⟩
          rw [← List.map_append]
          generalize zs ++ [r - m * 40, r + m * 10 ^ (40 : Int).toNat] = zz
          have sb := same_new (o := .lst (zz.map V.int)) nb
          have hb := upd_of (o := .lst (zz.map V.int)) nb
          have R1 := (R1.same sl).same sb
          have stG := (sto.same sl).same sb
          clear sl sb hl2 hD nb nl A1
          -- has
          refine ⟨_, rfl, b, rfl, ⟨_, SqL.of hb⟩, ?_⟩
          refine for_list (K := K) (a := b) (xs := zz.map V.int) (fun j σ H0 => (∃ u2 u4 u6 u7 u8 u9 u10 u11 u12 u13 u14 u15, σ = [some (.ref a), some (.ref S), u2, some (.int m), u4, some (.ref t), u6, u7, u8, u9, u10, u11, u12, u13, u14, u15]) ∧ Same (upd (upd H9 l (.lst ([r - m * 40, r + m * 10 ^ (40 : Int).toNat].map V.int))) b (.lst (zz.map V.int))) H0) ⟨⟨some (.int (0 + (i : Nat))), some (.int n), some (.ref u), some .non, some (.ref b), u9, u10, u11, u12, u13, u14, u15, rfl⟩, fun _ _ h => h⟩ (fun j σ H9 _ hP => SqL.of (hP.2 _ _ hb)) (fun j x σ H9 hx hP => ?_) (fun σ H9 hP => ?_)
          · obtain ⟨⟨u2, u4, u6, u7, u8, u9, u10, u11, u12, u13, u14, u15, rfl⟩, sm⟩ := hP
            obtain ⟨z, _, rfl⟩ := of_ints_at hx
            have R1 := R1.same sm
            refine ⟨_, rfl, _, rfl, t, r, m, z, rfl, R1, ?_⟩
            refine ⟨_, rfl, _, _, _, _, true, rfl, .ty _, .base (.bl _), kit_ty (by decide +kernel), true, rfl, ?_⟩
            refine ⟨_, rfl, _, rfl, _, rfl, _, _, rfl, rfl, hm, _, rfl, t, _, 0, .int r, rfl, rfl, SqT.of R1.at', atI_nat (j := 0) rfl, rfl, rfl, _, rfl, ?_⟩
            show if (!decide (V.bl (decide (z % m = r)) = V.bl (decide (V.int (z % m) = V.int r)))) = true then _ else _
            rw [int_dec, decide_eq_true rfl]
            refine iteF ?_
            refine ⟨(by show 2 ≤ sizeLine; decide), fun ww nww => ?_⟩
            have sw := same_new (o := .tup [.int 0, .int 1]) nww
            refine ⟨_, rfl, ww, 0, 1, z, rfl, ⟨upd_of (o := .tup [.int 0, .int 1]) nww, by decide, by decide, by decide⟩, _, true, rfl, rfl, _, rfl, ?_⟩
            rw [show decide (z % 1 = 0) = true from decide_eq_true (Int.emod_one z)]
            exact iteF ⟨⟨_, _, _, _, _, _, _, _, _, _, _, _, rfl⟩, sm.trans sw⟩
          · obtain ⟨⟨u2, u4, u6, u7, u8, u9, u10, u11, u12, u13, u14, u15, rfl⟩, sm⟩ := hP
            have R1 := R1.same sm
            have stG := stG.same sm
            -- least
            refine ⟨_, rfl, t, r, m, rfl, R1, _, rfl, t, _, 0, .int r, rfl, rfl, SqT.of R1.at', atI_nat (j := 0) rfl, rfl, _, rfl, ?_⟩
            show if (!decide (V.int r = V.int r)) = true then _ else _
            rw [decide_eq_true rfl]
            refine iteF ?_
            refine ⟨_, rfl, t, r, m, rfl, R1, _, _, _, _, false, rfl, .ty _, .base (.int r), kit_ty (by decide +kernel), false, rfl, ?_⟩
            -- far
            refine ⟨_, rfl, _, rfl, S, C, _, rfl, by decide, by decide, stG, fun Hf f mf stf f0 f1 => ⟨_, _, rfl, rfl, ?_⟩⟩
            refine ⟨S, C, _, rfl, by omega, by omega, stf, fun Hg gr mg stg g0 g1 => ⟨_, _, rfl, rfl, ?_⟩⟩
            have bG := great_bd g0 g1 (by omega)
            have pG : 0 < 1 + gr := by omega
            have R1 := (R1.mod mf stG).mod mg stf
            refine ⟨_, rfl, S, C, _, rfl, by decide, by decide, stg, fun Hh gg mh sth h0 h1 => ⟨_, rfl, _, _, rfl, rfl, pG, _, rfl, (by show 2 ≤ sizeLine; decide), fun v nv => ?_⟩⟩
            have sv := same_new (o := .tup [.int (gg % (1 + gr)), .int (1 + gr)]) nv
            have R1 := (R1.mod mh stg).same sv
            have RF : RestAt _ v (gg % (1 + gr)) (1 + gr) := ⟨upd_of (o := .tup [.int (gg % (1 + gr)), .int (1 + gr)]) nv, Int.emod_nonneg _ (by omega), Int.emod_lt_of_pos _ pG, bG⟩
            have stv := sth.same sv
            -- sizes
            refine ⟨_, rfl, S, C, _, rfl, by decide, by decide, stv, fun Hk k1 mk stk k1a k1b => ⟨_, _, rfl, rfl, ?_⟩⟩
            refine ⟨_, rfl, S, C, _, rfl, by decide, by decide, stk, fun Hl k2 ml stl k2a k2b => ⟨_, _, rfl, rfl, ?_⟩⟩
            refine ⟨(by show 3 ≤ sizeLine; decide), fun c nc => ?_⟩
            have sc := same_new (o := .lst [.int 1, .int (1 + k1), .int (990 + k2)]) nc
            have hc := upd_of (o := .lst [.int 1, .int (1 + k1), .int (990 + k2)]) nc
            have R1 := ((R1.mod mk stv).mod ml stk).same sc
            have RF := ((RF.mod mk stv).mod ml stk).same sc
            have stz := stl.same sc
            have i1 := one_to k1a k1b
            have i2 := near_thousand k2a k2b
            refine ⟨_, rfl, c, rfl, ⟨_, SqL.of hc⟩, ?_⟩
            refine for_list (K := K) (a := c) (xs := [.int 1, .int (1 + k1), .int (990 + k2)]) (fun j σ H9 => (∃ u2 u3 u4 u6 u7 u8 u9 u10 u11 u13 u14 u15, σ = [some (.ref a), some (.ref S), u2, u3, u4, some (.ref t), u6, u7, u8, u9, u10, u11, some (.ref v), u13, u14, u15]) ∧ Same (upd Hl c (.lst [.int 1, .int (1 + k1), .int (990 + k2)])) H9) ⟨⟨u2, some (.int m), u4, u6, u7, u8, u9, u10, some (.int (1 + gr)), some (.ref c), u14, u15, rfl⟩, fun _ _ h => h⟩ (fun j σ H9 _ hP => SqL.of (hP.2 _ _ hc)) (fun j x σ H9 hx hP => ?_) (fun σ H9 hP => ?_)
            · obtain ⟨⟨u2, u3, u4, u6, u7, u8, u9, u10, u11, u13, u14, u15, rfl⟩, sm8⟩ := hP
              obtain ⟨nn, rfl, nn0, nn1⟩ : ∃ nn : Int, x = .int nn ∧ 1 ≤ nn ∧ nn ≤ 1000 := by
                rcases j with _ | _ | _ | j
                · injection hx with hx; exact ⟨_, hx.symm, by decide, by decide⟩
                · injection hx with hx; exact ⟨_, hx.symm, i1.1, i1.2⟩
                · injection hx with hx; exact ⟨_, hx.symm, i2.1, i2.2⟩
                · cases hx
              refine ⟨_, rfl, _, rfl, t, _, _, nn, rfl, R1.same sm8, nn0, nn1, fun H10 sm10 => ⟨true, rfl, ?_⟩⟩
              have s10 := sm8.trans sm10
              refine ⟨_, rfl, _, rfl, v, _, _, nn, rfl, RF.same s10, nn0, nn1, fun H11 sm11 => ⟨true, rfl, ?_⟩⟩
              exact ⟨⟨_, _, _, _, _, _, _, _, _, _, _, _, rfl⟩, s10.trans sm11⟩
            · obtain ⟨⟨u2, u3, u4, u6, u7, u8, u9, u10, u11, u13, u14, u15, rfl⟩, sm8⟩ := hP
              exact ⟨⟨_, _, _, _, _, _, _, _, _, _, _, _, _, _, rfl⟩, stz.same sm8⟩
      · have R1 := R1.same sm8
        have R2 := R2.same sm8
        have st8 := st7.same sm8
        refine ⟨_, rfl, _, rfl, t, u, _, _, _, _, rfl, R1, R2, fun hy => absurd hyes hy, fun _ H9 q9 y sm9 nq9 hq9 y0 y1 k1 k2 => ?_⟩
        have ey := both_same hm x0 x1 e1 e2 y0 y1 k1 k2
        subst ey
        refine ⟨_, rfl, _, _, rfl, .inr (.inl ⟨q9, q8, _, _, rfl, rfl, hq9, sm9 _ _ hq8⟩), fun H10 sm10 => ⟨true, rfl, ?_⟩⟩
        have s910 := sm9.trans sm10
        have R1 := R1.same s910
        have R2 := R2.same s910
        have stA := st8.same s910
        have hq8 := s910 _ _ hq8
        refine ⟨_, rfl, _, rfl, u, t, _, _, _, _, rfl, R2, R1, fun hy => absurd (cond_swap.mpr hyes) hy, fun _ H11 q11 z sm11 nq11 hq11 z0 z1 l1 l2 => ?_⟩
        rw [lcm_swap] at hq11 z1
        have ez := both_same hm x0 x1 e1 e2 z0 z1 l2 l1
        subst ez
        refine ⟨_, rfl, _, _, rfl, .inr (.inl ⟨q11, q8, _, _, rfl, rfl, hq11, sm11 _ _ hq8⟩), fun HZ sm12 => ⟨true, rfl, ?_⟩⟩
        have s12 := sm11.trans sm12
        have R1 := R1.same s12
        have stG := stA.same s12
        clear sm8 sm9 sm10 s910 sm11 sm12 s12 st8 stA st7 R2 hq8 hq9 hq11 nq9 nq11 x0 x1 e1 e2 y0 y1 k1 k2 l1 l2
        -- with itself, and with what says nothing
        have dself : (r - r) % (Int.gcd m m : Int) = 0 := by rw [Int.sub_self, Int.zero_emod]
        have done : (0 - r) % (Int.gcd m 1 : Int) = 0 := by rw [Int.gcd_one_right]; exact Int.emod_one _
        have rmod : ∀ y, 0 ≤ y → y < m → y % m = r → y = r := fun y a b c => by rw [← c, Int.emod_eq_of_lt a b]
        refine ⟨_, rfl, _, rfl, t, t, _, _, _, _, rfl, R1, R1, fun hy => absurd dself hy, fun _ Ha qa xa sma nqa hqa xa0 xa1 xa2 _ => ?_⟩
        rw [self_m hm] at hqa xa1
        rw [rmod xa xa0 xa1 xa2] at hqa
        refine ⟨_, rfl, _, _, rfl, .inr (.inl ⟨qa, t, _, _, rfl, rfl, hqa, (R1.same sma).at'⟩), fun Hb smb => ⟨true, rfl, ?_⟩⟩
        have R1 := (R1.same sma).same smb
        have stG := (stG.same sma).same smb
        refine ⟨_, rfl, (by show 2 ≤ sizeLine; decide), fun wz nw => ?_⟩
        have sw := same_new (o := .tup [.int 0, .int 1]) nw
        refine ⟨t, wz, _, _, _, _, rfl, R1.same sw, ⟨upd_of (o := .tup [.int 0, .int 1]) nw, by decide, by decide, by decide⟩, fun hy => absurd done hy, fun _ Hc qc xc smc nqc hqc xc0 xc1 xc2 _ => ?_⟩
        rw [one_m] at hqc xc1
        rw [rmod xc xc0 xc1 xc2] at hqc
        have R1 := (R1.same sw).same smc
        have stG := (stG.same sw).same smc
        refine ⟨_, rfl, _, _, rfl, .inr (.inl ⟨qc, t, _, _, rfl, rfl, hqc, R1.at'⟩), fun Hd smd => ⟨true, rfl, ?_⟩⟩
        have R1 := R1.same smd
        have stG := stG.same smd
        clear sma smb smc smd hqa hqc nqa nqc nw sw xa0 xa1 xa2 xc0 xc1 xc2
        -- the numbers
        refine ⟨6, rfl, by decide, by decide, fun D nD => ?_⟩
        refine lc_range (lo := 0) (n := (6 : Int).toNat) (fun j H9 => Mod S C Hd H9 ∧ StOk H9 S C ∧ ∃ zs : List Int, H9 D = some (.lst (zs.map V.int)) ∧ zs.length = j) ⟨Mod.of (same_new nD), stG.same (same_new nD), [], upd_same, rfl⟩ (fun j H9 hj hP => ?_) (fun H9 hP => ?_)
        · obtain ⟨mm, sto, zs, hD, zl⟩ := hP
          have DS := stG.neS nD
          have DC := stG.neC nD
          refine ⟨rfl, _, rfl, S, C, _, rfl, by decide, by decide, sto, fun Hx z mx stx z0 z1 => ⟨_, _, rfl, rfl, ?_⟩⟩
          refine ⟨_, mx _ _ hD DS DC, by rw [List.length_map, zl]; exact Nat.lt_trans hj (by decide), (mm.trans mx).own nD, stx.upd DS DC, zs ++ [z - 100], by rw [upd_same, List.map_append]; rfl, by rw [List.length_append, zl]; rfl⟩
        · obtain ⟨mm, sto, zs, hD, zl⟩ := hP
          have R1 := R1.mod mm stG
          have A1 := SqT.of (K := K) R1.at'
          refine ⟨_, rfl, t, _, 0, .int r, rfl, rfl, A1, atI_nat (j := 0) rfl, _, rfl, _, _, rfl, rfl, .inl ⟨by omega, by omega⟩, _, _, rfl, rfl, _, rfl, t, _, 0, .int r, rfl, rfl, A1, atI_nat (j := 0) rfl, _, rfl, _, _, rfl, rfl, ⟨by decide, by decide, by decide⟩, _, _, rfl, rfl, .inl ⟨by omega, by omega⟩, _, _, rfl, rfl, (by show 2 ≤ sizeLine; decide), fun l nl => ?_⟩
          have sl := same_new (o := .lst ([r - m * 40, r + m * 10 ^ (40 : Int).toNat].map V.int)) nl
          have hl2 := upd_of (o := .lst ([r - m * 40, r + m * 10 ^ (40 : Int).toNat].map V.int)) nl
          refine ⟨D, l, _, _, rfl, rfl, sl _ _ hD, hl2, by rw [List.length_map, zl]; show 6 + 2 ≤ sizeLine; decide, fun b nb => ?_⟩
          rw [← List.map_append]
          generalize zs ++ [r - m * 40, r + m * 10 ^ (40 : Int).toNat] = zz
          have sb := same_new (o := .lst (zz.map V.int)) nb
          have hb := upd_of (o := .lst (zz.map V.int)) nb
          have R1 := (R1.same sl).same sb
          have stG := (sto.same sl).same sb
          clear sl sb hl2 hD nb nl A1
          -- has
          refine ⟨_, rfl, b, rfl, ⟨_, SqL.of hb⟩, ?_⟩
          refine for_list (K := K) (a := b) (xs := zz.map V.int) (fun j σ H0 => (∃ u2 u4 u6 u7 u8 u9 u10 u11 u12 u13 u14 u15, σ = [some (.ref a), some (.ref S), u2, some (.int m), u4, some (.ref t), u6, u7, u8, u9, u10, u11, u12, u13, u14, u15]) ∧ Same (upd (upd H9 l (.lst ([r - m * 40, r + m * 10 ^ (40 : Int).toNat].map V.int))) b (.lst (zz.map V.int))) H0) ⟨⟨some (.int (0 + (i : Nat))), some (.int n), some (.ref u), some (.ref q8), some (.ref b), u9, u10, u11, u12, u13, u14, u15, rfl⟩, fun _ _ h => h⟩ (fun j σ H9 _ hP => SqL.of (hP.2 _ _ hb)) (fun j x σ H9 hx hP => ?_) (fun σ H9 hP => ?_)
          · obtain ⟨⟨u2, u4, u6, u7, u8, u9, u10, u11, u12, u13, u14, u15, rfl⟩, sm⟩ := hP
            obtain ⟨z, _, rfl⟩ := of_ints_at hx
            have R1 := R1.same sm
            refine ⟨_, rfl, _, rfl, t, r, m, z, rfl, R1, ?_⟩
            refine ⟨_, rfl, _, _, _, _, true, rfl, .ty _, .base (.bl _), kit_ty (by decide +kernel), true, rfl, ?_⟩
            refine ⟨_, rfl, _, rfl, _, rfl, _, _, rfl, rfl, hm, _, rfl, t, _, 0, .int r, rfl, rfl, SqT.of R1.at', atI_nat (j := 0) rfl, rfl, rfl, _, rfl, ?_⟩
            show if (!decide (V.bl (decide (z % m = r)) = V.bl (decide (V.int (z % m) = V.int r)))) = true then _ else _
            rw [int_dec, decide_eq_true rfl]
            refine iteF ?_
            refine ⟨(by show 2 ≤ sizeLine; decide), fun ww nww => ?_⟩
            have sw := same_new (o := .tup [.int 0, .int 1]) nww
            refine ⟨_, rfl, ww, 0, 1, z, rfl, ⟨upd_of (o := .tup [.int 0, .int 1]) nww, by decide, by decide, by decide⟩, _, true, rfl, rfl, _, rfl, ?_⟩
            rw [show decide (z % 1 = 0) = true from decide_eq_true (Int.emod_one z)]
            exact iteF ⟨⟨_, _, _, _, _, _, _, _, _, _, _, _, rfl⟩, sm.trans sw⟩
          · obtain ⟨⟨u2, u4, u6, u7, u8, u9, u10, u11, u12, u13, u14, u15, rfl⟩, sm⟩ := hP
            have R1 := R1.same sm
            have stG := stG.same sm
            -- least
            refine ⟨_, rfl, t, r, m, rfl, R1, _, rfl, t, _, 0, .int r, rfl, rfl, SqT.of R1.at', atI_nat (j := 0) rfl, rfl, _, rfl, ?_⟩
            show if (!decide (V.int r = V.int r)) = true then _ else _
            rw [decide_eq_true rfl]
            refine iteF ?_
            refine ⟨_, rfl, t, r, m, rfl, R1, _, _, _, _, false, rfl, .ty _, .base (.int r), kit_ty (by decide +kernel), false, rfl, ?_⟩
            -- far
            refine ⟨_, rfl, _, rfl, S, C, _, rfl, by decide, by decide, stG, fun Hf f mf stf f0 f1 => ⟨_, _, rfl, rfl, ?_⟩⟩
            refine ⟨S, C, _, rfl, by omega, by omega, stf, fun Hg gr mg stg g0 g1 => ⟨_, _, rfl, rfl, ?_⟩⟩
            have bG := great_bd g0 g1 (by omega)
            have pG : 0 < 1 + gr := by omega
            have R1 := (R1.mod mf stG).mod mg stf
            refine ⟨_, rfl, S, C, _, rfl, by decide, by decide, stg, fun Hh gg mh sth h0 h1 => ⟨_, rfl, _, _, rfl, rfl, pG, _, rfl, (by show 2 ≤ sizeLine; decide), fun v nv => ?_⟩⟩
            have sv := same_new (o := .tup [.int (gg % (1 + gr)), .int (1 + gr)]) nv
            have R1 := (R1.mod mh stg).same sv
            have RF : RestAt _ v (gg % (1 + gr)) (1 + gr) := ⟨upd_of (o := .tup [.int (gg % (1 + gr)), .int (1 + gr)]) nv, Int.emod_nonneg _ (by omega), Int.emod_lt_of_pos _ pG, bG⟩
            have stv := sth.same sv
            -- sizes
            refine ⟨_, rfl, S, C, _, rfl, by decide, by decide, stv, fun Hk k1 mk stk k1a k1b => ⟨_, _, rfl, rfl, ?_⟩⟩
            refine ⟨_, rfl, S, C, _, rfl, by decide, by decide, stk, fun Hl k2 ml stl k2a k2b => ⟨_, _, rfl, rfl, ?_⟩⟩
            refine ⟨(by show 3 ≤ sizeLine; decide), fun c nc => ?_⟩
            have sc := same_new (o := .lst [.int 1, .int (1 + k1), .int (990 + k2)]) nc
            have hc := upd_of (o := .lst [.int 1, .int (1 + k1), .int (990 + k2)]) nc
            have R1 := ((R1.mod mk stv).mod ml stk).same sc
            have RF := ((RF.mod mk stv).mod ml stk).same sc
            have stz := stl.same sc
            have i1 := one_to k1a k1b
            have i2 := near_thousand k2a k2b
            refine ⟨_, rfl, c, rfl, ⟨_, SqL.of hc⟩, ?_⟩
            refine for_list (K := K) (a := c) (xs := [.int 1, .int (1 + k1), .int (990 + k2)]) (fun j σ H9 => (∃ u2 u3 u4 u6 u7 u8 u9 u10 u11 u13 u14 u15, σ = [some (.ref a), some (.ref S), u2, u3, u4, some (.ref t), u6, u7, u8, u9, u10, u11, some (.ref v), u13, u14, u15]) ∧ Same (upd Hl c (.lst [.int 1, .int (1 + k1), .int (990 + k2)])) H9) ⟨⟨u2, some (.int m), u4, u6, u7, u8, u9, u10, some (.int (1 + gr)), some (.ref c), u14, u15, rfl⟩, fun _ _ h => h⟩ (fun j σ H9 _ hP => SqL.of (hP.2 _ _ hc)) (fun j x σ H9 hx hP => ?_) (fun σ H9 hP => ?_)
            · obtain ⟨⟨u2, u3, u4, u6, u7, u8, u9, u10, u11, u13, u14, u15, rfl⟩, sm8⟩ := hP
              obtain ⟨nn, rfl, nn0, nn1⟩ : ∃ nn : Int, x = .int nn ∧ 1 ≤ nn ∧ nn ≤ 1000 := by
                rcases j with _ | _ | _ | j
                · injection hx with hx; exact ⟨_, hx.symm, by decide, by decide⟩
                · injection hx with hx; exact ⟨_, hx.symm, i1.1, i1.2⟩
                · injection hx with hx; exact ⟨_, hx.symm, i2.1, i2.2⟩
                · cases hx
              refine ⟨_, rfl, _, rfl, t, _, _, nn, rfl, R1.same sm8, nn0, nn1, fun H10 sm10 => ⟨true, rfl, ?_⟩⟩
              have s10 := sm8.trans sm10
              refine ⟨_, rfl, _, rfl, v, _, _, nn, rfl, RF.same s10, nn0, nn1, fun H11 sm11 => ⟨true, rfl, ?_⟩⟩
              exact ⟨⟨_, _, _, _, _, _, _, _, _, _, _, _, rfl⟩, s10.trans sm11⟩
            · obtain ⟨⟨u2, u3, u4, u6, u7, u8, u9, u10, u11, u13, u14, u15, rfl⟩, sm8⟩ := hP
              exact ⟨⟨_, _, _, _, _, _, _, _, _, _, _, _, _, _, rfl⟩, stz.same sm8⟩
end
end K02
namespace K02
open PySem PySem.Spec PyProof.Rows L2 GL
theorem all_mk {l : PySem.W.OpenLaw} {w : World} {K : PySem.W.Frag} {h : Heap} {mg : Str → Option Value} {fa : Addr}
    {f_is_number : Addr} {od_is_number an_is_number : Option Addr} {sl_is_number : Array (Option Value)} {oc_is_number kV_is_number dc_is_number pm_is_number cd_is_number ct_is_number : Value}
    {f_is_rest : Addr} {od_is_rest an_is_rest : Option Addr} {sl_is_rest : Array (Option Value)} {oc_is_rest kV_is_rest dc_is_rest pm_is_rest cd_is_rest ct_is_rest : Value}
    {f_check_between : Addr} {od_check_between an_check_between : Option Addr} {sl_check_between : Array (Option Value)} {oc_check_between kV_check_between dc_check_between pm_check_between cd_check_between ct_check_between : Value}
    {f_has : Addr} {od_has an_has : Option Addr} {sl_has : Array (Option Value)} {oc_has kV_has dc_has pm_has cd_has ct_has : Value}
    {f_both : Addr} {od_both an_both : Option Addr} {sl_both : Array (Option Value)} {oc_both kV_both dc_both pm_both cd_both ct_both : Value}
    {f_by : Addr} {od_by an_by : Option Addr} {sl_by : Array (Option Value)} {oc_by kV_by dc_by pm_by cd_by ct_by : Value}
    {f_least : Addr} {od_least an_least : Option Addr} {sl_least : Array (Option Value)} {oc_least kV_least dc_least pm_least cd_least ct_least : Value}
    {f_check_rest : Addr} {od_check_rest an_check_rest : Option Addr} {sl_check_rest : Array (Option Value)} {oc_check_rest kV_check_rest dc_check_rest pm_check_rest cd_check_rest ct_check_rest : Value}
    {f_check_number : Addr} {od_check_number an_check_number : Option Addr} {sl_check_number : Array (Option Value)} {oc_check_number kV_check_number dc_check_number pm_check_number cd_check_number ct_check_number : Value}
    {f_inverse : Addr} {od_inverse an_inverse : Option Addr} {sl_inverse : Array (Option Value)} {oc_inverse kV_inverse dc_inverse pm_inverse cd_inverse ct_inverse : Value}
    {f_l_state : Addr} {od_l_state an_l_state : Option Addr} {sl_l_state : Array (Option Value)} {oc_l_state kV_l_state dc_l_state pm_l_state cd_l_state ct_l_state : Value}
    {f_l_draw : Addr} {od_l_draw an_l_draw : Option Addr} {sl_l_draw : Array (Option Value)} {oc_l_draw kV_l_draw dc_l_draw pm_l_draw cd_l_draw ct_l_draw : Value}
    {f_l_great : Addr} {od_l_great an_l_great : Option Addr} {sl_l_great : Array (Option Value)} {oc_l_great kV_l_great dc_l_great pm_l_great cd_l_great ct_l_great : Value}
    {f_l_exact : Addr} {od_l_exact an_l_exact : Option Addr} {sl_l_exact : Array (Option Value)} {oc_l_exact kV_l_exact dc_l_exact pm_l_exact cd_l_exact ct_l_exact : Value}
    {f_l_sizes : Addr} {od_l_sizes an_l_sizes : Option Addr} {sl_l_sizes : Array (Option Value)} {oc_l_sizes kV_l_sizes dc_l_sizes pm_l_sizes cd_l_sizes ct_l_sizes : Value}
    {f_l_due : Addr} {od_l_due an_l_due : Option Addr} {sl_l_due : Array (Option Value)} {oc_l_due kV_l_due dc_l_due pm_l_due cd_l_due ct_l_due : Value}
    {f_l_by_right : Addr} {od_l_by_right an_l_by_right : Option Addr} {sl_l_by_right : Array (Option Value)} {oc_l_by_right kV_l_by_right dc_l_by_right pm_l_by_right cd_l_by_right ct_l_by_right : Value}
    {f_law : Addr} {od_law an_law : Option Addr} {sl_law : Array (Option Value)} {oc_law kV_law dc_law pm_law cd_law ct_law : Value}
    {tk_MOST_BY : Tok}
    (X : K.In h) (G : h.Ns mainGlobals mg) (hfa : mg "law" = some (.ref fa))
    (a_is_number : PySem.W.nsIn K mainGlobals "is_number" = some (some (.ref f_is_number)))
    (l_is_number : K.lookup f_is_number = some ⟨oc_is_number, od_is_number, .func (PySem.W.fnOf "is_number" "is_number" (defArgs s_is_number) (defBody s_is_number) (defScope s_is_number) .none kV_is_number dc_is_number pm_is_number an_is_number cd_is_number ct_is_number), sl_is_number⟩)
    (c_is_number_ : PySem.W.codeIn K cd_is_number "is_number" = true)
    (k_is_number : PySem.W.keepIn K (.ref f_is_number) = true)
    (a_is_rest : PySem.W.nsIn K mainGlobals "is_rest" = some (some (.ref f_is_rest)))
    (l_is_rest : K.lookup f_is_rest = some ⟨oc_is_rest, od_is_rest, .func (PySem.W.fnOf "is_rest" "is_rest" (defArgs s_is_rest) (defBody s_is_rest) (defScope s_is_rest) .none kV_is_rest dc_is_rest pm_is_rest an_is_rest cd_is_rest ct_is_rest), sl_is_rest⟩)
    (c_is_rest_ : PySem.W.codeIn K cd_is_rest "is_rest" = true)
    (k_is_rest : PySem.W.keepIn K (.ref f_is_rest) = true)
    (a_check_between : PySem.W.nsIn K mainGlobals "check_between" = some (some (.ref f_check_between)))
    (l_check_between : K.lookup f_check_between = some ⟨oc_check_between, od_check_between, .func (PySem.W.fnOf "check_between" "check_between" (defArgs s_check_between) (defBody s_check_between) (defScope s_check_between) .none kV_check_between dc_check_between pm_check_between an_check_between cd_check_between ct_check_between), sl_check_between⟩)
    (c_check_between_ : PySem.W.codeIn K cd_check_between "check_between" = true)
    (k_check_between : PySem.W.keepIn K (.ref f_check_between) = true)
    (a_has : PySem.W.nsIn K mainGlobals "has" = some (some (.ref f_has)))
    (l_has : K.lookup f_has = some ⟨oc_has, od_has, .func (PySem.W.fnOf "has" "has" (defArgs s_has) (defBody s_has) (defScope s_has) .none kV_has dc_has pm_has an_has cd_has ct_has), sl_has⟩)
    (c_has_ : PySem.W.codeIn K cd_has "has" = true)
    (k_has : PySem.W.keepIn K (.ref f_has) = true)
    (a_both : PySem.W.nsIn K mainGlobals "both" = some (some (.ref f_both)))
    (l_both : K.lookup f_both = some ⟨oc_both, od_both, .func (PySem.W.fnOf "both" "both" (defArgs s_both) (defBody s_both) (defScope s_both) .none kV_both dc_both pm_both an_both cd_both ct_both), sl_both⟩)
    (c_both_ : PySem.W.codeIn K cd_both "both" = true)
    (k_both : PySem.W.keepIn K (.ref f_both) = true)
    (a_by : PySem.W.nsIn K mainGlobals "by" = some (some (.ref f_by)))
    (l_by : K.lookup f_by = some ⟨oc_by, od_by, .func (PySem.W.fnOf "by" "by" (defArgs s_by) (defBody s_by) (defScope s_by) .none kV_by dc_by pm_by an_by cd_by ct_by), sl_by⟩)
    (c_by_ : PySem.W.codeIn K cd_by "by" = true)
    (k_by : PySem.W.keepIn K (.ref f_by) = true)
    (a_least : PySem.W.nsIn K mainGlobals "least" = some (some (.ref f_least)))
    (l_least : K.lookup f_least = some ⟨oc_least, od_least, .func (PySem.W.fnOf "least" "least" (defArgs s_least) (defBody s_least) (defScope s_least) .none kV_least dc_least pm_least an_least cd_least ct_least), sl_least⟩)
    (c_least_ : PySem.W.codeIn K cd_least "least" = true)
    (k_least : PySem.W.keepIn K (.ref f_least) = true)
    (a_check_rest : PySem.W.nsIn K mainGlobals "_check_rest" = some (some (.ref f_check_rest)))
    (l_check_rest : K.lookup f_check_rest = some ⟨oc_check_rest, od_check_rest, .func (PySem.W.fnOf "_check_rest" "_check_rest" (defArgs s_check_rest) (defBody s_check_rest) (defScope s_check_rest) .none kV_check_rest dc_check_rest pm_check_rest an_check_rest cd_check_rest ct_check_rest), sl_check_rest⟩)
    (c_check_rest_ : PySem.W.codeIn K cd_check_rest "_check_rest" = true)
    (k_check_rest : PySem.W.keepIn K (.ref f_check_rest) = true)
    (a_check_number : PySem.W.nsIn K mainGlobals "check_number" = some (some (.ref f_check_number)))
    (l_check_number : K.lookup f_check_number = some ⟨oc_check_number, od_check_number, .func (PySem.W.fnOf "check_number" "check_number" (defArgs s_check_number) (defBody s_check_number) (defScope s_check_number) .none kV_check_number dc_check_number pm_check_number an_check_number cd_check_number ct_check_number), sl_check_number⟩)
    (c_check_number_ : PySem.W.codeIn K cd_check_number "check_number" = true)
    (k_check_number : PySem.W.keepIn K (.ref f_check_number) = true)
    (a_inverse : PySem.W.nsIn K mainGlobals "_inverse" = some (some (.ref f_inverse)))
    (l_inverse : K.lookup f_inverse = some ⟨oc_inverse, od_inverse, .func (PySem.W.fnOf "_inverse" "_inverse" (defArgs s_inverse) (defBody s_inverse) (defScope s_inverse) .none kV_inverse dc_inverse pm_inverse an_inverse cd_inverse ct_inverse), sl_inverse⟩)
    (c_inverse_ : PySem.W.codeIn K cd_inverse "_inverse" = true)
    (k_inverse : PySem.W.keepIn K (.ref f_inverse) = true)
    (a_l_state : PySem.W.nsIn K mainGlobals "_law_state" = some (some (.ref f_l_state)))
    (l_l_state : K.lookup f_l_state = some ⟨oc_l_state, od_l_state, .func (PySem.W.fnOf "_law_state" "_law_state" (defArgs s_l_state) (defBody s_l_state) (defScope s_l_state) .none kV_l_state dc_l_state pm_l_state an_l_state cd_l_state ct_l_state), sl_l_state⟩)
    (c_l_state_ : PySem.W.codeIn K cd_l_state "_law_state" = true)
    (k_l_state : PySem.W.keepIn K (.ref f_l_state) = true)
    (a_l_draw : PySem.W.nsIn K mainGlobals "_law_draw" = some (some (.ref f_l_draw)))
    (l_l_draw : K.lookup f_l_draw = some ⟨oc_l_draw, od_l_draw, .func (PySem.W.fnOf "_law_draw" "_law_draw" (defArgs s_l_draw) (defBody s_l_draw) (defScope s_l_draw) .none kV_l_draw dc_l_draw pm_l_draw an_l_draw cd_l_draw ct_l_draw), sl_l_draw⟩)
    (c_l_draw_ : PySem.W.codeIn K cd_l_draw "_law_draw" = true)
    (k_l_draw : PySem.W.keepIn K (.ref f_l_draw) = true)
    (a_l_great : PySem.W.nsIn K mainGlobals "_law_great" = some (some (.ref f_l_great)))
    (l_l_great : K.lookup f_l_great = some ⟨oc_l_great, od_l_great, .func (PySem.W.fnOf "_law_great" "_law_great" (defArgs s_l_great) (defBody s_l_great) (defScope s_l_great) .none kV_l_great dc_l_great pm_l_great an_l_great cd_l_great ct_l_great), sl_l_great⟩)
    (c_l_great_ : PySem.W.codeIn K cd_l_great "_law_great" = true)
    (k_l_great : PySem.W.keepIn K (.ref f_l_great) = true)
    (a_l_exact : PySem.W.nsIn K mainGlobals "_law_exact" = some (some (.ref f_l_exact)))
    (l_l_exact : K.lookup f_l_exact = some ⟨oc_l_exact, od_l_exact, .func (PySem.W.fnOf "_law_exact" "_law_exact" (defArgs s_l_exact) (defBody s_l_exact) (defScope s_l_exact) .none kV_l_exact dc_l_exact pm_l_exact an_l_exact cd_l_exact ct_l_exact), sl_l_exact⟩)
    (c_l_exact_ : PySem.W.codeIn K cd_l_exact "_law_exact" = true)
    (k_l_exact : PySem.W.keepIn K (.ref f_l_exact) = true)
    (a_l_sizes : PySem.W.nsIn K mainGlobals "_law_sizes" = some (some (.ref f_l_sizes)))
    (l_l_sizes : K.lookup f_l_sizes = some ⟨oc_l_sizes, od_l_sizes, .func (PySem.W.fnOf "_law_sizes" "_law_sizes" (defArgs s_l_sizes) (defBody s_l_sizes) (defScope s_l_sizes) .none kV_l_sizes dc_l_sizes pm_l_sizes an_l_sizes cd_l_sizes ct_l_sizes), sl_l_sizes⟩)
    (c_l_sizes_ : PySem.W.codeIn K cd_l_sizes "_law_sizes" = true)
    (k_l_sizes : PySem.W.keepIn K (.ref f_l_sizes) = true)
    (a_l_due : PySem.W.nsIn K mainGlobals "_law_due" = some (some (.ref f_l_due)))
    (l_l_due : K.lookup f_l_due = some ⟨oc_l_due, od_l_due, .func (PySem.W.fnOf "_law_due" "_law_due" (defArgs s_l_due) (defBody s_l_due) (defScope s_l_due) .none kV_l_due dc_l_due pm_l_due an_l_due cd_l_due ct_l_due), sl_l_due⟩)
    (c_l_due_ : PySem.W.codeIn K cd_l_due "_law_due" = true)
    (k_l_due : PySem.W.keepIn K (.ref f_l_due) = true)
    (a_l_by_right : PySem.W.nsIn K mainGlobals "_law_by_right" = some (some (.ref f_l_by_right)))
    (l_l_by_right : K.lookup f_l_by_right = some ⟨oc_l_by_right, od_l_by_right, .func (PySem.W.fnOf "_law_by_right" "_law_by_right" (defArgs s_l_by_right) (defBody s_l_by_right) (defScope s_l_by_right) .none kV_l_by_right dc_l_by_right pm_l_by_right an_l_by_right cd_l_by_right ct_l_by_right), sl_l_by_right⟩)
    (c_l_by_right_ : PySem.W.codeIn K cd_l_by_right "_law_by_right" = true)
    (k_l_by_right : PySem.W.keepIn K (.ref f_l_by_right) = true)
    (a_law : PySem.W.nsIn K mainGlobals "law" = some (some (.ref f_law)))
    (l_law : K.lookup f_law = some ⟨oc_law, od_law, .func (PySem.W.fnOf "law" "law" (defArgs s_law) (defBody s_law) (defScope s_law) .none kV_law dc_law pm_law an_law cd_law ct_law), sl_law⟩)
    (c_law_ : PySem.W.codeIn K cd_law "law" = true)
    (k_law : PySem.W.keepIn K (.ref f_law) = true)
    (z_MOST_BY : PySem.W.nsIn K mainGlobals "MOST_BY" = some (some (.int 1000 tk_MOST_BY)))
    (zm_abs : PySem.W.nsIn K mainGlobals "abs" = some none)
    (zm_bool : PySem.W.nsIn K mainGlobals "bool" = some none)
    (zm_int : PySem.W.nsIn K mainGlobals "int" = some none)
    (zm_isinstance : PySem.W.nsIn K mainGlobals "isinstance" = some none)
    (zm_len : PySem.W.nsIn K mainGlobals "len" = some none)
    (zm_list : PySem.W.nsIn K mainGlobals "list" = some none)
    (zm_range : PySem.W.nsIn K mainGlobals "range" = some none)
    (zm_tuple : PySem.W.nsIn K mainGlobals "tuple" = some none)
    (zm_sorted : PySem.W.nsIn K mainGlobals "sorted" = some none)
    (zi_gcd : PySem.W.nsIn K mainGlobals "gcd" = some (some (.builtin "math.gcd"))) :
    ∃ fd : FuncData, (∀ (s : Shared) (v : Value), BindsTo s fd ⟨[v], []⟩ [("_law_script", v)]) ∧ ∀ base : Heap, K.In base → base.Ns mainGlobals mg → FnOk l.prog w K mg base CX0 9 fa fd ["_law_script"] (spLaw K) := by
  obtain rfl : f_law = fa := (Value.ref.inj (Option.some.inj (hfa.symm.trans (PySem.W.mg_of X G a_law)))).symm
  have F_is_number := fun_mk (st := s_is_number) l_is_number c_is_number_ k_is_number
  have F_is_rest := fun_mk (st := s_is_rest) l_is_rest c_is_rest_ k_is_rest
  have F_check_between := fun_mk (st := s_check_between) l_check_between c_check_between_ k_check_between
  have F_has := fun_mk (st := s_has) l_has c_has_ k_has
  have F_both := fun_mk (st := s_both) l_both c_both_ k_both
  have F_by := fun_mk (st := s_by) l_by c_by_ k_by
  have F_least := fun_mk (st := s_least) l_least c_least_ k_least
  have F_check_rest := fun_mk (st := s_check_rest) l_check_rest c_check_rest_ k_check_rest
  have F_check_number := fun_mk (st := s_check_number) l_check_number c_check_number_ k_check_number
  have F_inverse := fun_mk (st := s_inverse) l_inverse c_inverse_ k_inverse
  have F_l_state := fun_mk (st := s_l_state) l_l_state c_l_state_ k_l_state
  have F_l_draw := fun_mk (st := s_l_draw) l_l_draw c_l_draw_ k_l_draw
  have F_l_great := fun_mk (st := s_l_great) l_l_great c_l_great_ k_l_great
  have F_l_exact := fun_mk (st := s_l_exact) l_l_exact c_l_exact_ k_l_exact
  have F_l_sizes := fun_mk (st := s_l_sizes) l_l_sizes c_l_sizes_ k_l_sizes
  have F_l_due := fun_mk (st := s_l_due) l_l_due c_l_due_ k_l_due
  have F_l_by_right := fun_mk (st := s_l_by_right) l_l_by_right c_l_by_right_ k_l_by_right
  have F_law := fun_mk (st := s_law) l_law c_law_ k_law
  let T : Tx K mg := {
    a_is_number := f_is_number,
    fd_is_number := PySem.W.fnOf "is_number" "is_number" (defArgs s_is_number) (defBody s_is_number) (defScope s_is_number) .none kV_is_number dc_is_number pm_is_number an_is_number cd_is_number ct_is_number,
    F_is_number := F_is_number,
    b_is_number := F_is_number.binds (ps := P_is_number) fun _ _ _ _ _ _ us hl => match us, hl with | [_], _ => rfl,
    g_is_number := PySem.W.mg_of X G a_is_number,
    a_is_rest := f_is_rest,
    fd_is_rest := PySem.W.fnOf "is_rest" "is_rest" (defArgs s_is_rest) (defBody s_is_rest) (defScope s_is_rest) .none kV_is_rest dc_is_rest pm_is_rest an_is_rest cd_is_rest ct_is_rest,
    F_is_rest := F_is_rest,
    b_is_rest := F_is_rest.binds (ps := P_is_rest) fun _ _ _ _ _ _ us hl => match us, hl with | [_], _ => rfl,
    g_is_rest := PySem.W.mg_of X G a_is_rest,
    a_check_between := f_check_between,
    fd_check_between := PySem.W.fnOf "check_between" "check_between" (defArgs s_check_between) (defBody s_check_between) (defScope s_check_between) .none kV_check_between dc_check_between pm_check_between an_check_between cd_check_between ct_check_between,
    F_check_between := F_check_between,
    b_check_between := F_check_between.binds (ps := P_check_between) fun _ _ _ _ _ _ us hl => match us, hl with | [_, _, _], _ => rfl,
    g_check_between := PySem.W.mg_of X G a_check_between,
    a_has := f_has,
    fd_has := PySem.W.fnOf "has" "has" (defArgs s_has) (defBody s_has) (defScope s_has) .none kV_has dc_has pm_has an_has cd_has ct_has,
    F_has := F_has,
    b_has := F_has.binds (ps := P_has) fun _ _ _ _ _ _ us hl => match us, hl with | [_, _], _ => rfl,
    g_has := PySem.W.mg_of X G a_has,
    a_both := f_both,
    fd_both := PySem.W.fnOf "both" "both" (defArgs s_both) (defBody s_both) (defScope s_both) .none kV_both dc_both pm_both an_both cd_both ct_both,
    F_both := F_both,
    b_both := F_both.binds (ps := P_both) fun _ _ _ _ _ _ us hl => match us, hl with | [_, _], _ => rfl,
    g_both := PySem.W.mg_of X G a_both,
    a_by := f_by,
    fd_by := PySem.W.fnOf "by" "by" (defArgs s_by) (defBody s_by) (defScope s_by) .none kV_by dc_by pm_by an_by cd_by ct_by,
    F_by := F_by,
    b_by := F_by.binds (ps := P_by) fun _ _ _ _ _ _ us hl => match us, hl with | [_, _], _ => rfl,
    g_by := PySem.W.mg_of X G a_by,
    a_least := f_least,
    fd_least := PySem.W.fnOf "least" "least" (defArgs s_least) (defBody s_least) (defScope s_least) .none kV_least dc_least pm_least an_least cd_least ct_least,
    F_least := F_least,
    b_least := F_least.binds (ps := P_least) fun _ _ _ _ _ _ us hl => match us, hl with | [_], _ => rfl,
    g_least := PySem.W.mg_of X G a_least,
    a_check_rest := f_check_rest,
    fd_check_rest := PySem.W.fnOf "_check_rest" "_check_rest" (defArgs s_check_rest) (defBody s_check_rest) (defScope s_check_rest) .none kV_check_rest dc_check_rest pm_check_rest an_check_rest cd_check_rest ct_check_rest,
    F_check_rest := F_check_rest,
    b_check_rest := F_check_rest.binds (ps := P_check_rest) fun _ _ _ _ _ _ us hl => match us, hl with | [_], _ => rfl,
    g_check_rest := PySem.W.mg_of X G a_check_rest,
    a_check_number := f_check_number,
    fd_check_number := PySem.W.fnOf "check_number" "check_number" (defArgs s_check_number) (defBody s_check_number) (defScope s_check_number) .none kV_check_number dc_check_number pm_check_number an_check_number cd_check_number ct_check_number,
    F_check_number := F_check_number,
    b_check_number := F_check_number.binds (ps := P_check_number) fun _ _ _ _ _ _ us hl => match us, hl with | [_], _ => rfl,
    g_check_number := PySem.W.mg_of X G a_check_number,
    a_inverse := f_inverse,
    fd_inverse := PySem.W.fnOf "_inverse" "_inverse" (defArgs s_inverse) (defBody s_inverse) (defScope s_inverse) .none kV_inverse dc_inverse pm_inverse an_inverse cd_inverse ct_inverse,
    F_inverse := F_inverse,
    b_inverse := F_inverse.binds (ps := P_inverse) fun _ _ _ _ _ _ us hl => match us, hl with | [_, _], _ => rfl,
    g_inverse := PySem.W.mg_of X G a_inverse,
    a_l_state := f_l_state,
    fd_l_state := PySem.W.fnOf "_law_state" "_law_state" (defArgs s_l_state) (defBody s_l_state) (defScope s_l_state) .none kV_l_state dc_l_state pm_l_state an_l_state cd_l_state ct_l_state,
    F_l_state := F_l_state,
    b_l_state := F_l_state.binds (ps := P_l_state) fun _ _ _ _ _ _ us hl => match us, hl with | [_], _ => rfl,
    g_l_state := PySem.W.mg_of X G a_l_state,
    a_l_draw := f_l_draw,
    fd_l_draw := PySem.W.fnOf "_law_draw" "_law_draw" (defArgs s_l_draw) (defBody s_l_draw) (defScope s_l_draw) .none kV_l_draw dc_l_draw pm_l_draw an_l_draw cd_l_draw ct_l_draw,
    F_l_draw := F_l_draw,
    b_l_draw := F_l_draw.binds (ps := P_l_draw) fun _ _ _ _ _ _ us hl => match us, hl with | [_, _], _ => rfl,
    g_l_draw := PySem.W.mg_of X G a_l_draw,
    a_l_great := f_l_great,
    fd_l_great := PySem.W.fnOf "_law_great" "_law_great" (defArgs s_l_great) (defBody s_l_great) (defScope s_l_great) .none kV_l_great dc_l_great pm_l_great an_l_great cd_l_great ct_l_great,
    F_l_great := F_l_great,
    b_l_great := F_l_great.binds (ps := P_l_great) fun _ _ _ _ _ _ us hl => match us, hl with | [_, _], _ => rfl,
    g_l_great := PySem.W.mg_of X G a_l_great,
    a_l_exact := f_l_exact,
    fd_l_exact := PySem.W.fnOf "_law_exact" "_law_exact" (defArgs s_l_exact) (defBody s_l_exact) (defScope s_l_exact) .none kV_l_exact dc_l_exact pm_l_exact an_l_exact cd_l_exact ct_l_exact,
    F_l_exact := F_l_exact,
    b_l_exact := F_l_exact.binds (ps := P_l_exact) fun _ _ _ _ _ _ us hl => match us, hl with | [_, _], _ => rfl,
    g_l_exact := PySem.W.mg_of X G a_l_exact,
    a_l_sizes := f_l_sizes,
    fd_l_sizes := PySem.W.fnOf "_law_sizes" "_law_sizes" (defArgs s_l_sizes) (defBody s_l_sizes) (defScope s_l_sizes) .none kV_l_sizes dc_l_sizes pm_l_sizes an_l_sizes cd_l_sizes ct_l_sizes,
    F_l_sizes := F_l_sizes,
    b_l_sizes := F_l_sizes.binds (ps := P_l_sizes) fun _ _ _ _ _ _ us hl => match us, hl with | [_], _ => rfl,
    g_l_sizes := PySem.W.mg_of X G a_l_sizes,
    a_l_due := f_l_due,
    fd_l_due := PySem.W.fnOf "_law_due" "_law_due" (defArgs s_l_due) (defBody s_l_due) (defScope s_l_due) .none kV_l_due dc_l_due pm_l_due an_l_due cd_l_due ct_l_due,
    F_l_due := F_l_due,
    b_l_due := F_l_due.binds (ps := P_l_due) fun _ _ _ _ _ _ us hl => match us, hl with | [_, _], _ => rfl,
    g_l_due := PySem.W.mg_of X G a_l_due,
    a_l_by_right := f_l_by_right,
    fd_l_by_right := PySem.W.fnOf "_law_by_right" "_law_by_right" (defArgs s_l_by_right) (defBody s_l_by_right) (defScope s_l_by_right) .none kV_l_by_right dc_l_by_right pm_l_by_right an_l_by_right cd_l_by_right ct_l_by_right,
    F_l_by_right := F_l_by_right,
    b_l_by_right := F_l_by_right.binds (ps := P_l_by_right) fun _ _ _ _ _ _ us hl => match us, hl with | [_, _], _ => rfl,
    g_l_by_right := PySem.W.mg_of X G a_l_by_right,
    a_law := f_law,
    fd_law := PySem.W.fnOf "law" "law" (defArgs s_law) (defBody s_law) (defScope s_law) .none kV_law dc_law pm_law an_law cd_law ct_law,
    F_law := F_law,
    b_law := F_law.binds (ps := P_law) fun _ _ _ _ _ _ us hl => match us, hl with | [_], _ => rfl,
    g_law := PySem.W.mg_of X G a_law,
    tk_MOST_BY := tk_MOST_BY,
    g_MOST_BY := PySem.W.mg_of X G z_MOST_BY,
    m_abs := PySem.W.mg_none_of X G zm_abs,
    m_bool := PySem.W.mg_none_of X G zm_bool,
    m_int := PySem.W.mg_none_of X G zm_int,
    m_isinstance := PySem.W.mg_none_of X G zm_isinstance,
    m_len := PySem.W.mg_none_of X G zm_len,
    m_list := PySem.W.mg_none_of X G zm_list,
    m_range := PySem.W.mg_none_of X G zm_range,
    m_tuple := PySem.W.mg_none_of X G zm_tuple,
    m_sorted := PySem.W.mg_none_of X G zm_sorted,
    i_gcd := PySem.W.mg_of X G zi_gcd
  }
  exact ⟨T.fd_law, fun s v => .of_eq rfl, fun base _ _ => ok_law T⟩
end K02
open PySem PySem.W PyProof.Rows
set_option maxRecDepth 100000 in
set_option maxHeartbeats 0 in
theorem PySem.Challenge.cw_goersay_k02_rests_by_numbers_gone_throug_holds : PySem.Challenge.rw_goersay_k02_rests_by_numbers_gone_throug.Holds := by
  w_on; o_law; k_head; (case hw => w_witness2)
  k_fill
  refine L2.walk_of (l := PySem.Challenge.rw_goersay_k02_rests_by_numbers_gone_throug) (n := 63) (k := 9) (x := "_law_script") (CX := fun _ => L2.CX0) (sp := fun w => GL.spLaw _) rfl (by decide) rfl ⟨rfl, by decide, by decide⟩ (fun w h Y => PySem.W.kIn_of Y) ?F (fun _ _ a ns hl _ hS => ⟨a, ns, rfl, hS, hl, fun _ => rfl⟩) (fun _ _ _ _ _ h => h)
  case F =>
    intro w mg fa h KX G hmg
    refine' K02.all_mk KX G hmg ?a_is_number ?l_is_number ?c_is_number_ ?k_is_number ?a_is_rest ?l_is_rest ?c_is_rest_ ?k_is_rest ?a_check_between ?l_check_between ?c_check_between_ ?k_check_between ?a_has ?l_has ?c_has_ ?k_has ?a_both ?l_both ?c_both_ ?k_both ?a_by ?l_by ?c_by_ ?k_by ?a_least ?l_least ?c_least_ ?k_least ?a_check_rest ?l_check_rest ?c_check_rest_ ?k_check_rest ?a_check_number ?l_check_number ?c_check_number_ ?k_check_number ?a_inverse ?l_inverse ?c_inverse_ ?k_inverse ?a_l_state ?l_l_state ?c_l_state_ ?k_l_state ?a_l_draw ?l_l_draw ?c_l_draw_ ?k_l_draw ?a_l_great ?l_l_great ?c_l_great_ ?k_l_great ?a_l_exact ?l_l_exact ?c_l_exact_ ?k_l_exact ?a_l_sizes ?l_l_sizes ?c_l_sizes_ ?k_l_sizes ?a_l_due ?l_l_due ?c_l_due_ ?k_l_due ?a_l_by_right ?l_l_by_right ?c_l_by_right_ ?k_l_by_right ?a_law ?l_law ?c_law_ ?k_law ?z_MOST_BY ?zm_abs ?zm_bool ?zm_int ?zm_isinstance ?zm_len ?zm_list ?zm_range ?zm_tuple ?zm_sorted ?zi_gcd
    (case a_is_number => k_is)
    (case l_is_number => k_is)
    (case c_is_number_ => k_is)
    (case k_is_number => k_is)
    (case a_is_rest => k_is)
    (case l_is_rest => k_is)
    (case c_is_rest_ => k_is)
    (case k_is_rest => k_is)
    (case a_check_between => k_is)
    (case l_check_between => k_is)
    (case c_check_between_ => k_is)
    (case k_check_between => k_is)
    (case a_has => k_is)
    (case l_has => k_is)
    (case c_has_ => k_is)
    (case k_has => k_is)
    (case a_both => k_is)
    (case l_both => k_is)
    (case c_both_ => k_is)
    (case k_both => k_is)
    (case a_by => k_is)
    (case l_by => k_is)
    (case c_by_ => k_is)
    (case k_by => k_is)
    (case a_least => k_is)
    (case l_least => k_is)
    (case c_least_ => k_is)
    (case k_least => k_is)
    (case a_check_rest => k_is)
    (case l_check_rest => k_is)
    (case c_check_rest_ => k_is)
    (case k_check_rest => k_is)
    (case a_check_number => k_is)
    (case l_check_number => k_is)
    (case c_check_number_ => k_is)
    (case k_check_number => k_is)
    (case a_inverse => k_is)
    (case l_inverse => k_is)
    (case c_inverse_ => k_is)
    (case k_inverse => k_is)
    (case a_l_state => k_is)
    (case l_l_state => k_is)
    (case c_l_state_ => k_is)
    (case k_l_state => k_is)
    (case a_l_draw => k_is)
    (case l_l_draw => k_is)
    (case c_l_draw_ => k_is)
    (case k_l_draw => k_is)
    (case a_l_great => k_is)
    (case l_l_great => k_is)
    (case c_l_great_ => k_is)
    (case k_l_great => k_is)
    (case a_l_exact => k_is)
    (case l_l_exact => k_is)
    (case c_l_exact_ => k_is)
    (case k_l_exact => k_is)
    (case a_l_sizes => k_is)
    (case l_l_sizes => k_is)
    (case c_l_sizes_ => k_is)
    (case k_l_sizes => k_is)
    (case a_l_due => k_is)
    (case l_l_due => k_is)
    (case c_l_due_ => k_is)
    (case k_l_due => k_is)
    (case a_l_by_right => k_is)
    (case l_l_by_right => k_is)
    (case c_l_by_right_ => k_is)
    (case k_l_by_right => k_is)
    (case a_law => k_is)
    (case l_law => k_is)
    (case c_law_ => k_is)
    (case k_law => k_is)
    (case z_MOST_BY => k_is)
    (case zm_abs => k_is)
    (case zm_bool => k_is)
    (case zm_int => k_is)
    (case zm_isinstance => k_is)
    (case zm_len => k_is)
    (case zm_list => k_is)
    (case zm_range => k_is)
    (case zm_tuple => k_is)
    (case zm_sorted => k_is)
    (case zi_gcd => k_is)
