import PyProof.Rows.All
import Wide.All
import OpenK.AllK
import Wide.FinOn
import HandS.Base
import HandS.Call
import HandS.List
import HandS.Set
import HandS.Strs
import HandS.Defaults
import HandS.Words
import HandS.ForMost
import HandS.Wide
import HandS.IsInst
import HandS.DictComp
import HandS.More
import HandS.Flow
import HandS.Evl
import HandS.Walk
import HandS.SortInts
import HandS.TupAny
import HandS.Iter
import HandS.Zip0
import KE.GoesEnum
import KE.GoesMore
import HandS.Conv
import HandS.Dict
import KE.KDictItemsList
import KE.KDictCopyH
import HandS.Comp
import HandS.Gcd
import HandS.Style
import PySem.Challenge.RW_goersay_k09_whole_far_rounds_by_doubling
set_option Elab.async false
set_option linter.all false
set_option maxRecDepth 100000
set_option maxHeartbeats 4000000
/-! Own rule: len(set(xs)) of a list or tuple of texts, however many (the set itself is looked at by membership alone). -/
namespace GSet
open PySem PySem.Spec PyProof.Rows
/-- the texts met first, in order -/
def firsts (xs : List Str) : List Str := xs.foldl (fun acc x => if x ∈ acc then acc else acc ++ [x]) []
def more (acc : List Str) (x : Str) : List Str := if x ∈ acc then acc else acc ++ [x]
theorem firsts_snoc (xs : List Str) (x : Str) : firsts (xs ++ [x]) = more (firsts xs) x := by
  unfold firsts more
  rw [List.foldl_append]
  rfl
theorem mem_more {acc : List Str} {x y : Str} : y ∈ more acc x ↔ y ∈ acc ∨ y = x := by
  unfold more
  split
  · rename_i h
    exact ⟨.inl, fun z => z.elim id fun e => by rw [e]; exact h⟩
  · rw [List.mem_append, List.mem_singleton]
theorem more_len {acc : List Str} {x : Str} : (more acc x).length = if x ∈ acc then acc.length else acc.length + 1 := by
  unfold more
  split
  · rfl
  · rw [List.length_append]
    rfl
theorem firsts_le : ∀ (n : Nat) (xs : List Str), xs.length = n → (firsts xs).length ≤ n
  | 0, xs, h => by
    have e := List.eq_nil_of_length_eq_zero h
    subst e
    exact Nat.le_refl _
  | n + 1, xs, h => by
    have hne : xs ≠ [] := fun z => by rw [z] at h; cases h
    have ed := List.dropLast_concat_getLast hne
    have il := firsts_le n xs.dropLast (by rw [List.length_dropLast, h]; rfl)
    rw [← ed, firsts_snoc, more_len]
    split <;> omega
theorem more_nodup {acc : List Str} {x : Str} (h : acc.Nodup) : (more acc x).Nodup := by
  unfold more
  split
  · exact h
  · rename_i hx
    rw [List.nodup_append]
    refine ⟨h, List.nodup_cons.mpr ⟨List.not_mem_nil, List.nodup_nil⟩, fun a ha b hb e => ?_⟩
    rw [List.mem_singleton] at hb
    subst hb
    subst e
    exact hx ha
theorem firsts_nodup_eq {xs : List Str} (h : xs.Nodup) : ∀ i, i ≤ xs.length → firsts (xs.take i) = xs.take i
  | 0, _ => rfl
  | i + 1, hi => by
    have hlt : i < xs.length := hi
    have e1 : xs.take (i + 1) = xs.take i ++ [xs[i]] := by
      rw [List.take_succ, List.getElem?_eq_getElem hlt]
      rfl
    rw [e1, firsts_snoc, firsts_nodup_eq h i (Nat.le_of_lt hlt)]
    unfold more
    rw [if_neg]
    intro hm
    obtain ⟨j, hj, ej⟩ := List.mem_iff_getElem.mp hm
    rw [List.getElem_take] at ej
    rw [List.length_take] at hj
    have := (List.getElem_inj h).mp ej
    omega
theorem firsts_of_nodup {xs : List Str} (h : xs.Nodup) : firsts xs = xs := by
  have q := firsts_nodup_eq h xs.length (Nat.le_refl _)
  rwa [List.take_length] at q
theorem firsts_lt_of_dup {xs : List Str} (h : ¬ xs.Nodup) : (firsts xs).length < xs.length := by
  have key : ∀ (n : Nat) (ys : List Str), ys.length = n → ¬ ys.Nodup → (firsts ys).length < n := by
    intro n
    induction n with
    | zero =>
      intro ys hy hn
      have e := List.eq_nil_of_length_eq_zero hy
      subst e
      exact absurd List.nodup_nil hn
    | succ n ih =>
      intro ys hy hn
      have hne : ys ≠ [] := fun z => by rw [z] at hy; cases hy
      have ed := List.dropLast_concat_getLast hne
      have el : ys.dropLast.length = n := by rw [List.length_dropLast, hy]; rfl
      have ef : firsts ys = more (firsts ys.dropLast) (ys.getLast hne) := by rw [← firsts_snoc, ed]
      by_cases hd : ys.dropLast.Nodup
      · have hin : ys.getLast hne ∈ ys.dropLast := by
          refine Classical.byContradiction fun hc => hn ?_
          rw [← ed, List.nodup_append]
          refine ⟨hd, List.nodup_cons.mpr ⟨List.not_mem_nil, List.nodup_nil⟩, fun a ha b hb e => ?_⟩
          rw [List.mem_singleton] at hb
          rw [e, hb] at ha
          exact hc ha
        rw [ef, more_len, firsts_of_nodup hd, if_pos hin]
        omega
      · have := ih _ el hd
        rw [ef, more_len]
        split <;> omega
  exact key _ xs rfl h
theorem firsts_len_iff (xs : List Str) : (firsts xs).length = xs.length ↔ xs.Nodup := by
  refine ⟨fun e => Classical.byContradiction fun h => ?_, fun h => by rw [firsts_of_nodup h]⟩
  have := firsts_lt_of_dup h
  omega

section
variable {prog : Program} {w : World} {A : Around} {R : Result → Shared → Prop} {I : Addr} {fp wr : List Addr} {G : Array GenState → Array GenState → Prop} {n : Nat} {P : Nat → Value → Prop} {St : Nat → Shared → Prop}
/-- what stands in the set behind i items -/
abbrev InSet (prog : Program) (w : World) (h : Heap) (S : Addr) (xs : List Str) (i : Nat) : Prop :=
  h.SetOf (PySem.strKind prog w) S (fun k' => decide (k' ∈ firsts (xs.take i))) (firsts (xs.take i)).length
theorem turns (W : WalksS prog w A.in1 I fp wr G n P St) (S : Addr) (hSf : S ∉ fp) (xs : List Str) (hsz : xs.length = n) (hbig : n + 1 < scanBound)
    (hval : ∀ i v, P i v → ∃ t, v = .str (xs.getD i Str.empty) t) :
    ∀ (k i : Nat) (s : Shared), n - i = k → i ≤ n → St i s → InSet prog w s.heap S xs i →
      (∀ s', Moved (S :: wr) G s s' → InSet prog w s'.heap S xs n → R (.ok (.ret .none)) s') →
      codeAny (model prog w) A (.builtin "set.update.loop" ⟨[.ref S, .ref I], []⟩) R s := by
  have notW : S ∉ wr := fun z => hSf (W.sub _ z)
  have wide : ∀ b ∈ wr, b ∈ S :: wr := fun _ z => List.mem_cons_of_mem _ z
  intro k
  induction k with
  | zero =>
    intro i s hk hi hst hS hR
    obtain rfl : i = n := by omega
    refine codeAny_builtin PyProof.Rows.F.entry_set_update_loop ?_
    rw [Around.under_plainId PyProof.Rows.F.plain_set_update_loop _]
    show wpAny _ A.in1 (pyNext (.ref I) >>= _) _ _ s
    refine wpAny_bind (W.done s _ _ hst fun s1 mv => ?_)
    show wpAny _ A.in1 (ret Value.none) _ _ s1
    refine wpAny_pure (hR s1 (mv.mono wide) ?_)
    obtain ⟨o, es, ep, t, ho, more⟩ := hS
    exact ⟨o, es, ep, t, mv.heap S _ notW ho, more⟩
  | succ k ih =>
    intro i s hk hi hst hS hR
    have lt : i < n := by omega
    refine codeAny_builtin PyProof.Rows.F.entry_set_update_loop ?_
    rw [Around.under_plainId PyProof.Rows.F.plain_set_update_loop _]
    show wpAny _ A.in1 (pyNext (.ref I) >>= _) _ _ s
    refine wpAny_bind (W.item i s _ _ lt hst fun v s1 hP hst1 mv => ?_)
    obtain ⟨t, rfl⟩ := hval i v hP
    have hS1 : InSet prog w s1.heap S xs i := by
      obtain ⟨o, es, ep, tb, ho, more⟩ := hS
      exact ⟨o, es, ep, tb, mv.heap S _ notW ho, more⟩
    have hle : (firsts (xs.take i)).length ≤ i := firsts_le i (xs.take i) (by rw [List.length_take]; omega)
    show wpAny _ A.in1 (holding [Value.str (xs.getD i Str.empty) t] (setAdd S (.str (xs.getD i Str.empty) t)) >>= _) _ _ s1
    refine wpAny_bind (wpAny_holding ?_)
    unfold setAdd
    refine wpAny_holding (wpAny_bind ((PySem.strKind prog w).pyHash (k := xs.getD i Str.empty) (strKind_is _ _ _ _) ?_))
    refine wpAny_setAddHashed_of (knd := PySem.strKind prog w) (s := { s1 with toks := s1.toks + 1 }) (strKind_is _ _ _ _) rfl hS1 (by omega) fun h2 same hS2 => ?_
    have hlt : i < xs.length := by omega
    have et : xs.take (i + 1) = xs.take i ++ [xs.getD i Str.empty] := by
      rw [List.take_succ, List.getD_eq_getElem?_getD, List.getElem?_eq_getElem hlt]
      rfl
    have hSi : InSet prog w h2 S xs (i + 1) := by
      refine SetOf_congr hS2 (fun k' => ?_) ?_
      · rw [et, firsts_snoc, Bool.eq_iff_iff, Bool.or_eq_true, decide_eq_true_iff, decide_eq_true_iff, decide_eq_true_iff]
        exact mem_more.symm
      · rw [et, firsts_snoc, more_len]
        by_cases c : xs.getD i Str.empty ∈ firsts (xs.take i)
        · rw [if_pos c, if_pos (by rw [decide_eq_true_iff]; exact c)]
        · rw [if_neg c, if_neg (by rw [decide_eq_true_iff]; exact c)]
    have offS : ∀ b, b ∉ S :: wr → b ≠ S := fun b z e => z (by rw [e]; exact List.mem_cons_self)
    refine wpAny_pure ⟨plainId_quiet PyProof.Rows.F.plain_set_update_loop _, ih (i + 1) _ (by omega) lt (W.frame _ s1 _ _ hst1 (Nat.le_succ _) fun b hb o e => ?_) hSi fun s3 mv3 hS3 => ?_⟩
    · rw [same.2 b fun z => hSf (z ▸ hb)]
      exact e
    · refine hR s3 (Moved.trans W.gtrans ((mv.mono wide).then_heap (Nat.le_succ _) fun b o hb e => ?_) mv3) hS3
      rw [same.2 b (offS b hb)]
      exact e
end

section
variable {prog : Program} {w : World} {A : Around} {E : Value → Shared → Prop} {s : Shared}
/-- a set just made -/
abbrev Fso (led : Bool) : Obj := { cls := .type "set", dict := none, data := .set #[] 0 (.fresh 0 0 led) }
/-- what a fresh set of the texts is, and that nothing else has changed -/
abbrev Made (prog : Program) (w : World) (h0 h1 : Heap) (xs : List Str) : Prop :=
  InSet prog w h1 h0.objs.size xs xs.length ∧ ∀ b o, b < h0.objs.size → h0.get? b = some o → h1.get? b = some o

set_option maxHeartbeats 3200000 in
theorem set_of_list {l : Addr} {items : Array Value} {xs : List Str} {Q : Value → Shared → Prop} (hh : A.handled = none) (hl : s.heap.IsList l items) (hi : StrsAre items.toList xs) (hbig : xs.length + 1 < scanBound)
    (k : ∀ (h1 : Heap) (tk : Nat), Made prog w s.heap h1 xs → Q (.ref s.heap.objs.size) { s with heap := h1, toks := tk }) : wpAny (model prog w) A (call (.type "set") [.ref l]) Q E s := by
  obtain ⟨c, tl, hmro⟩ := PySem.F.called_set.mro
  have hmade := PySem.F.called_set.made; have hsub := PySem.F.called_set.sub
  refine wpAny_call (codeAny_of_tree (show wpAny _ _ (callAny (.type "set") _) _ _ _ from wpAny_pure ⟨Code.quiet_builtin _ (by decide +kernel), codeAny_builtin PySem.F.entry_type_call ?_⟩))
  rw [Around.under_plain (weight_type_call_type "set" [.ref l] []) rfl]
  have h1 := PySem.F.called_set.notType; have h2 := PySem.F.called_set.canCreate; have hct := PySem.F.typeCall_set_1 (.ref l)
  repeat (any_goals (first | assumption | wp_step))
  refine codeAny_mono (code_set_new_1 (.ref l) (E := E) (Q₁ := fun ob z => ∃ led : Bool, ob = .ref s.heap.objs.size ∧ z = { s with heap := s.heap.push (Fso led) }) fun led => ⟨led, rfl, rfl⟩) fun r z hr => ?_
  cases r with
  | error e => exact hr
  | ok fl =>
    cases fl with
    | ret ob =>
      obtain ⟨led, rfl, rfl⟩ := hr
      have hS : (s.heap.push (Fso led)).get? s.heap.objs.size = some (Fso led) := Heap.get?_push_size _ rfl
      have hT : Shared.TypeIs { s with heap := s.heap.push (Fso led) } (.ref s.heap.objs.size) "set" := ⟨_, hS, rfl⟩
      have hli := PySem.F.called_set.init.lookup; have hbi := PySem.F.called_set.init.bind (.ref s.heap.objs.size)
      repeat (any_goals (first | assumption | wp_step))
      refine codeAny_mono (codeAny_call_builtin (R := wants (fun r z => r = .none ∧ ∃ h1 tk, z = { s with heap := h1, toks := tk } ∧ Made prog w s.heap h1 xs) E)
        PySem.F.called_set.init.plain PySem.F.entry_set_init (check_set_init_1 hT ?_)) fun r2 z2 hr2 => ?_
      · obtain ⟨⟨oc, od, odat, osl⟩, hol, hcl, nl, hdl⟩ := hl
        simp only at hcl hdl; subst hcl; subst hdl
        have hol2 : (s.heap.push (Fso led)).get? l = some { cls := .type "list", dict := od, data := .seq items nl, slots := osl } := Heap.get?_push_of_some _ hol
        have q1 := PySem.F.sub_list_set; have q2 := PySem.F.sub_list_frozenset; have q3 : (Value.type "list" == Value.type "dict") = false := by decide
        have hl1 : (s.heap.push (Fso led)).IsList l items := ⟨_, hol2, rfl, nl, rfl⟩
        unfold Builtin.«set.__init__» noKeywords Builtin.Frozenset.updateFrom
        generalize hPI : pyIter = PI
        wp_walk
        subst hPI
        refine wpAny_pyIter_list hl1 ?_; refine wpAny_bind (wpAny_runValue ?_)
        have lt := Heap.lt_size hol
        have hsz : xs.length = items.size := by rw [← StrsAre.len_eq hi, Array.length_toList]
        have apart : l ≠ (s.heap.push (Fso led)).objs.size := by rw [Heap.size_push]; exact Nat.ne_of_lt (Nat.lt_succ_of_lt lt)
        have off : s.heap.objs.size ∉ [(s.heap.push (Fso led)).objs.size, l] := by
          rw [Heap.size_push]; simp only [List.mem_cons, List.not_mem_nil, or_false, not_or]; exact ⟨Nat.ne_of_lt (Nat.lt_succ_self _), Nat.ne_of_gt lt⟩
        refine turns ((Walks.list (show A.in1.in1.in1.handled = none by simp [hh]) _ l apart items).toS) s.heap.objs.size off xs hsz (by omega)
          (fun i v hv => SS.strs_at hi i v (by rw [Array.getElem?_toList]; exact hv)) (items.size - 0) 0 _ (by omega) (Nat.zero_le _) ⟨⟨_, Heap.get?_push_size _ rfl, rfl, rfl⟩, hl1.push _⟩ ?start0 ?rest0
        case start0 =>
          have hget : ((s.heap.push (Fso led)).push { cls := .type "list_iterator", data := .fields #[.ref l, .int 0 0] }).get? s.heap.objs.size = some (Fso led) := Heap.get?_push_of_some _ hS
          exact SetOf_congr ((setObjOf_fresh (knd := PySem.strKind prog w) led).setOf hget (by unfold scanBound; omega)) (fun _ => rfl) rfl
        case rest0 =>
          rintro ⟨h3, g3, d3, tk3, os3⟩ hm hS3
          obtain rfl : g3 = s.gens := hm.gens
          obtain rfl : d3 = s.drawn := hm.drawn
          obtain rfl : os3 = s.os := hm.os
          show wpAny _ _ _ _ _ _
          refine wpAny_pure ?_
          show wpAny _ _ (ret Value.none) _ _ _
          rw [← hsz] at hS3
          refine wpAny_pure ⟨rfl, h3, tk3, rfl, hS3, fun b o hb e => hm.heap b o ?_ (Heap.get?_push_of_some _ (Heap.get?_push_of_some _ e))⟩
          rw [Heap.size_push]; simp only [List.mem_cons, List.not_mem_nil, or_false, not_or]; exact ⟨Nat.ne_of_lt hb, Nat.ne_of_lt (Nat.lt_succ_of_lt hb)⟩
      · cases r2 with
        | error e => exact hr2
        | ok fl2 =>
          cases fl2 with
          | ret r =>
            obtain ⟨rfl, h1, tk, rfl, hm⟩ := hr2
            repeat (any_goals (first | assumption | wp_step))
            exact k _ _ hm
          | _ => exact hr2.elim
    | _ => exact hr.elim

set_option maxHeartbeats 3200000 in
theorem set_of_tuple {l : Addr} {items : Array Value} {xs : List Str} {Q : Value → Shared → Prop} (hh : A.handled = none) (hl : s.heap.IsTuple l items) (hi : StrsAre items.toList xs) (hbig : xs.length + 1 < scanBound)
    (k : ∀ (h1 : Heap) (tk : Nat), Made prog w s.heap h1 xs → Q (.ref s.heap.objs.size) { s with heap := h1, toks := tk }) : wpAny (model prog w) A (call (.type "set") [.ref l]) Q E s := by
  obtain ⟨c, tl, hmro⟩ := PySem.F.called_set.mro
  have hmade := PySem.F.called_set.made; have hsub := PySem.F.called_set.sub
  refine wpAny_call (codeAny_of_tree (show wpAny _ _ (callAny (.type "set") _) _ _ _ from wpAny_pure ⟨Code.quiet_builtin _ (by decide +kernel), codeAny_builtin PySem.F.entry_type_call ?_⟩))
  rw [Around.under_plain (weight_type_call_type "set" [.ref l] []) rfl]
  have h1 := PySem.F.called_set.notType; have h2 := PySem.F.called_set.canCreate; have hct := PySem.F.typeCall_set_1 (.ref l)
  repeat (any_goals (first | assumption | wp_step))
  refine codeAny_mono (code_set_new_1 (.ref l) (E := E) (Q₁ := fun ob z => ∃ led : Bool, ob = .ref s.heap.objs.size ∧ z = { s with heap := s.heap.push (Fso led) }) fun led => ⟨led, rfl, rfl⟩) fun r z hr => ?_
  cases r with
  | error e => exact hr
  | ok fl =>
    cases fl with
    | ret ob =>
      obtain ⟨led, rfl, rfl⟩ := hr
      have hS : (s.heap.push (Fso led)).get? s.heap.objs.size = some (Fso led) := Heap.get?_push_size _ rfl
      have hT : Shared.TypeIs { s with heap := s.heap.push (Fso led) } (.ref s.heap.objs.size) "set" := ⟨_, hS, rfl⟩
      have hli := PySem.F.called_set.init.lookup; have hbi := PySem.F.called_set.init.bind (.ref s.heap.objs.size)
      repeat (any_goals (first | assumption | wp_step))
      refine codeAny_mono (codeAny_call_builtin (R := wants (fun r z => r = .none ∧ ∃ h1 tk, z = { s with heap := h1, toks := tk } ∧ Made prog w s.heap h1 xs) E)
        PySem.F.called_set.init.plain PySem.F.entry_set_init (check_set_init_1 hT ?_)) fun r2 z2 hr2 => ?_
      · obtain ⟨⟨oc, od, odat, osl⟩, hol, hcl, nl, hdl⟩ := hl
        simp only at hcl hdl; subst hcl; subst hdl
        have hol2 : (s.heap.push (Fso led)).get? l = some { cls := .type "tuple", dict := od, data := .seq items nl, slots := osl } := Heap.get?_push_of_some _ hol
        have q1 := PySem.F.sub_tuple_set; have q2 := PySem.F.sub_tuple_frozenset; have q3 : (Value.type "tuple" == Value.type "dict") = false := by decide
        have hl1 : (s.heap.push (Fso led)).IsTuple l items := ⟨_, hol2, rfl, nl, rfl⟩
        unfold Builtin.«set.__init__» noKeywords Builtin.Frozenset.updateFrom
        generalize hPI : pyIter = PI
        wp_walk
        subst hPI
        refine wpAny_pyIter_tuple hl1 ?_; refine wpAny_bind (wpAny_runValue ?_)
        have lt := Heap.lt_size hol
        have hsz : xs.length = items.size := by rw [← StrsAre.len_eq hi, Array.length_toList]
        have apart : l ≠ (s.heap.push (Fso led)).objs.size := by rw [Heap.size_push]; exact Nat.ne_of_lt (Nat.lt_succ_of_lt lt)
        have off : s.heap.objs.size ∉ [(s.heap.push (Fso led)).objs.size, l] := by
          rw [Heap.size_push]; simp only [List.mem_cons, List.not_mem_nil, or_false, not_or]; exact ⟨Nat.ne_of_lt (Nat.lt_succ_self _), Nat.ne_of_gt lt⟩
        refine turns ((Walks.tuple (show A.in1.in1.in1.handled = none by simp [hh]) _ l apart items).toS) s.heap.objs.size off xs hsz (by omega)
          (fun i v hv => SS.strs_at hi i v (by rw [Array.getElem?_toList]; exact hv)) (items.size - 0) 0 _ (by omega) (Nat.zero_le _) ⟨⟨_, Heap.get?_push_size _ rfl, rfl, rfl⟩, hl1.push _⟩ ?start0 ?rest0
        case start0 =>
          have hget : ((s.heap.push (Fso led)).push { cls := .type "tuple_iterator", data := .fields #[.ref l, .int 0 0] }).get? s.heap.objs.size = some (Fso led) := Heap.get?_push_of_some _ hS
          exact SetOf_congr ((setObjOf_fresh (knd := PySem.strKind prog w) led).setOf hget (by unfold scanBound; omega)) (fun _ => rfl) rfl
        case rest0 =>
          rintro ⟨h3, g3, d3, tk3, os3⟩ hm hS3
          obtain rfl : g3 = s.gens := hm.gens
          obtain rfl : d3 = s.drawn := hm.drawn
          obtain rfl : os3 = s.os := hm.os
          show wpAny _ _ _ _ _ _
          refine wpAny_pure ?_
          show wpAny _ _ (ret Value.none) _ _ _
          rw [← hsz] at hS3
          refine wpAny_pure ⟨rfl, h3, tk3, rfl, hS3, fun b o hb e => hm.heap b o ?_ (Heap.get?_push_of_some _ (Heap.get?_push_of_some _ e))⟩
          rw [Heap.size_push]; simp only [List.mem_cons, List.not_mem_nil, or_false, not_or]; exact ⟨Nat.ne_of_lt hb, Nat.ne_of_lt (Nat.lt_succ_of_lt hb)⟩
      · cases r2 with
        | error e => exact hr2
        | ok fl2 =>
          cases fl2 with
          | ret r =>
            obtain ⟨rfl, h1, tk, rfl, hm⟩ := hr2
            repeat (any_goals (first | assumption | wp_step))
            exact k _ _ hm
          | _ => exact hr2.elim
    | _ => exact hr.elim

end
end GSet
namespace L2
open PySem PySem.Spec PyProof.Rows
/-- len(set(xs)), xs a list or tuple of texts -/
def tLenSetS (K : PySem.W.Frag) (ta : TE) : TE := fun σ H Q => ta σ H fun x H1 => ∃ l, ∃ xs : List Str, x = .ref l ∧ (SqL K H1 l (xs.map V.str) ∨ SqT K H1 l (xs.map V.str)) ∧ xs.length ≤ 1000 ∧ Q (.int (GSet.firsts xs).length) H1
theorem pe_lenSetS {X : Cx} {a : Expr} {ta : TE} {p p2 q pos : Pos} (hc : X.calm = true) (hm : X.mg "len" = none) (hm2 : X.mg "set" = none) (ha : PE X a ta) (hg : Gl X "len" := by rfl) (hg2 : Gl X "set" := by rfl)
    (na : starEach [a] X.env = (false, eval a X.env) :: starEach [] X.env := by rfl) : PE X (.Call (.Name "len" p) [.Call (.Name "set" p2) [a] [] q] [] pos) (tLenSetS X.K ta) := by
  refine ⟨fun pins s σ H Q I h => Call_ (ld_blt I hg hm boot_len (callWith_builtin1 (args_cons ?_ rfl) rfl rfl))⟩
  refine Call_ (ld_blt I hg2 hm2 boot_set (callWith_type1 (args_cons (thn (ha.run pins s σ H _ I h) fun v s1 ⟨x, H1, I1, r1, q1⟩ => args_nil ?_) na) na rfl))
  obtain ⟨l, xs, rfl, hq, hl, q1⟩ := q1
  cases r1
  have big : xs.length + 1 < scanBound := by unfold scanBound; omega
  have fin : ∀ (h1 : Heap) (tk : Nat), GSet.Made X.prog X.w s1.heap h1 xs →
      wpAny (model X.prog X.w) X.A (spliced (backTo pos (starEach [] X.env))) (fun vs z => wpAny (model X.prog X.w) X.A (call (.builtin "len") (Value.ref s1.heap.objs.size :: vs)) (EP X pins σ Q) X.xe z) X.xe { s1 with heap := h1, toks := tk } := fun h1 tk ⟨hS, hk⟩ => by
    have le := GSet.firsts_le xs.length (xs.take xs.length) (by rw [List.take_length])
    obtain ⟨o, es, ep, t, ho, hex, hd, _, _, _, hf, hn⟩ := hS
    have I2 : Inv X pins σ H1 { s1 with heap := h1, toks := tk } := I1.kept fun b o e => hk b o (Heap.lt_size e) e
    refine args_nil (call_len_set ho hex hd hf (by rw [hn]; omega) ⟨.int (GSet.firsts xs).length, H1, I2.tok _, ⟨_, by rw [hn, List.take_length]⟩, q1⟩)
  rcases hq with hq | hq
  · obtain ⟨its, r, pl, hz⟩ := I1.list hq
    exact GSet.set_of_list (I1.ok.hd hc) pl.isList (by simpa using strsAre_of r) big fin
  · obtain ⟨its, r, pl, hz⟩ := I1.tuple hq
    exact GSet.set_of_tuple (I1.ok.hd hc) pl (by simpa using strsAre_of r) big fin
end L2
/-! Own rule: o.m(k = v, ..), a method of an own class called by keywords alone. -/
namespace L2
open PySem PySem.Spec PyProof.Rows
/-- [o], its class, then the keywords' values, then the promise of them in the parameters' order -/
def tMethKw (C : Addr) (m : Str) (n : Nat) (sp : Sp) (gV : List V → List V → List V) (E : XK) (ta : TE) (tk : TA) : TE := fun σ H Q =>
  ta σ H fun x H1 => ∃ a dx fs, x = .ref a ∧ H1 a = some (.ins C dx fs) ∧ fs.lookup m = none ∧ tk σ H1 fun zs H2 => zs.length = n ∧ sp (gV [x] zs) H2 Q E
section
variable {X : Cx} {CX : CXT} {k : Nat} {f C : Addr} {fd : FuncData} {ps ks : List Str} {sp : Sp} {E : XK} {o : Expr} {m : Str} {ta : TE} {apos : Pos} {pos : Pos} {kws : List Keyword} {tk : TA} {g : List Value → List Value → List Value} {gV : List V → List V → List V}
theorem pe_methKw {pl : Sem Bool} (he : PE X o ta) (c : Cls X.K C) (hm : Meth X.K C m f) (F : FnOk X.prog X.w X.K X.mg X.base CX k f fd ps sp) (hr : Room k X.A) (hb : KBn X.K fd ps 1 ks g gV) (hx : Passes CX X E) (hkw : PK X kws tk)
    (hall : (backToKw pos (keywordEach kws X.env)).all (·.1.isSome) = true := by rfl) (hks : (backToKw pos (keywordEach kws X.env)).filterMap (·.1) = ks := by rfl)
    (hpl : ((backTo pos (starEach [] X.env)).any (·.1) || (backToKw pos (keywordEach kws X.env)).any (·.1.isNone)) = false := by rfl)
    (ht : eval (.Call (.Attribute o m apos) [] kws pos) X.env = (do
      let v ← eval o X.env
      standAt apos.atName
      let (q, first) ← holding [v] (getMethod v m pl)
      callWith pos q first (backTo pos (starEach [] X.env)) (backToKw pos (keywordEach kws X.env))) := by rfl) :
    PE X (.Call (.Attribute o m apos) [] kws pos) (tMethKw C m ks.length sp gV E ta tk) := by
  refine ⟨fun pins s σ H Q I h => PySem.W.methodCall_KW (pl := pl) (thn (he.run pins s σ H _ I h) fun u s1 ⟨x, H1, I1, rx, a, dx, fs, ex, ea, l, q⟩ => ?_) ht⟩
  subst ex
  obtain rfl : u = Value.ref a := rx
  refine getmeth_ok I1 ea c hm l (PySem.W.callWith_KW0 (first := [.ref a]) (h₀ := X.base) I.ok.mod.kin hm.kp hall ?_ hpl)
  refine thn (hkw.run pos pins s1 σ H1 _ I1 q) fun ws s2 ⟨zs, H2, I2, rz, l2, q2⟩ => ⟨I2.kIn, ?_⟩
  rw [hks]
  exact run_fnN (us := [.ref a]) (vs := [.ref a]) F hr hb hx I2 (.cons rfl .nil) rz rfl l2 q2
end
/-- how one keyword behind self binds: h is «fun _ _ _ _ _ _ us ws l1 l2 => match us, ws, l1, l2 with | [_], [_], _, _ => rfl» -/
theorem Fun.kbn {K : PySem.W.Frag} {x qual : Str} {st : Stmt} {f : Addr} {fd : FuncData} {ps ks : List Str} {n : Nat} (F : Fun K x qual st f fd)
    (h : ∀ (kV doc pm : Value) (an : Option Addr) (cdv ct : Value) (us ws : List Value), us.length = n → ws.length = ks.length → bindArgs (PySem.W.fnOf x qual (defArgs st) (defBody st) (defScope st) .none kV doc pm an cdv ct) ⟨us, ks.zip ws⟩ = pure (ps.zip (us ++ ws))) :
    KBn K fd ps n ks (fun us ws => us ++ ws) (fun us ws => us ++ ws) := by
  obtain ⟨oc, od, kV, doc, pm, an, cdv, ct, osl, rfl, lk, hcd⟩ := F.ex
  exact ⟨fun s us ws _ l1 l2 => .of_eq (h kV doc pm an cdv ct us ws l1 l2), fun r rz => r.append rz⟩
/-- by places -/
def byPl {α : Type} (is : List Nat) (_us ws : List α) : List α := is.filterMap fun i => ws[i]?
theorem Vals.at? : ∀ {zs : List V} {ws : List Value} (i : Nat), Vals zs ws → (∃ z w, zs[i]? = some z ∧ ws[i]? = some w ∧ RelV z w) ∨ (zs[i]? = none ∧ ws[i]? = none)
  | _, _, _, .nil => .inr ⟨rfl, rfl⟩
  | _, _, 0, .cons r _ => .inl ⟨_, _, rfl, rfl, r⟩
  | _, _, i + 1, .cons _ t => Vals.at? i t
theorem Vals.byPl {zs : List V} {ws : List Value} (r : Vals zs ws) : ∀ is : List Nat, Vals (is.filterMap fun i => zs[i]?) (is.filterMap fun i => ws[i]?)
  | [] => .nil
  | i :: t => by
    have ih := Vals.byPl r t
    rcases Vals.at? i r with ⟨z, w, e1, e2, q⟩ | ⟨e1, e2⟩
    · rw [List.filterMap_cons_some e1, List.filterMap_cons_some e2]
      exact .cons q ih
    · rw [List.filterMap_cons_none e1, List.filterMap_cons_none e2]
      exact ih
/-- f(k = v, ..): keywords alone, is: where each parameter's value stands among them -/
theorem Fun.kbp {K : PySem.W.Frag} {x qual : Str} {st : Stmt} {f : Addr} {fd : FuncData} {ps ks : List Str} (is : List Nat) (F : Fun K x qual st f fd)
    (h : ∀ (kV doc pm : Value) (an : Option Addr) (cdv ct : Value) (ws : List Value), ws.length = ks.length → bindArgs (PySem.W.fnOf x qual (defArgs st) (defBody st) (defScope st) .none kV doc pm an cdv ct) ⟨[], ks.zip ws⟩ = pure (ps.zip (byPl is [] ws))) :
    KBn K fd ps 0 ks (byPl is) (byPl is) := by
  obtain ⟨oc, od, kV, doc, pm, an, cdv, ct, osl, rfl, lk, hcd⟩ := F.ex
  refine ⟨fun s us ws _ l1 l2 => .of_eq ?_, fun r rz => Vals.byPl rz is⟩
  cases us with
  | nil => exact h kV doc pm an cdv ct ws l2
  | cons _ _ => cases l1
def tCallK0 (n : Nat) (sp : Sp) (gV : List V → List V → List V) (E : XK) (tk : TA) : TE := fun σ H Q => tk σ H fun zs H2 => zs.length = n ∧ sp (gV [] zs) H2 Q E
section
variable {X : Cx} {CX : CXT} {k : Nat} {f : Addr} {fd : FuncData} {ps ks : List Str} {sp : Sp} {E : XK} {x : Str} {p pos : Pos} {kws : List Keyword} {tk : TA} {g : List Value → List Value → List Value} {gV : List V → List V → List V}
theorem pe_callK0 (F : FnOk X.prog X.w X.K X.mg X.base CX k f fd ps sp) (hr : Room k X.A) (hg : Gl X x) (hm : X.mg x = some (.ref f)) (hk : PySem.W.keepIn X.K (.ref f) = true) (hb : KBn X.K fd ps 0 ks g gV) (hx : Passes CX X E)
    (hkw : PK X kws tk) (hall : (backToKw pos (keywordEach kws X.env)).all (·.1.isSome) = true := by rfl) (hks : (backToKw pos (keywordEach kws X.env)).filterMap (·.1) = ks := by rfl)
    (hdb : (x == ("__debug__" : Str)) = false := by decide)
    (hpl : ((backTo pos (starEach [] X.env)).any (·.1) || (backToKw pos (keywordEach kws X.env)).any (·.1.isNone)) = false := by rfl) :
    PE X (.Call (.Name x p) [] kws pos) (tCallK0 ks.length sp gV E tk) := by
  refine ⟨fun pins s σ H Q I h => ?_⟩
  refine wpAny_Call_Name_kw (ld_glob I hg hm ?_ hdb)
  refine PySem.W.callWith_KW0 (h₀ := X.base) (first := []) I.ok.mod.kin hk hall ?_ hpl
  refine thn (hkw.run pos pins s σ H _ I h) fun ws s2 ⟨zs, H2, I2, rz, l2, q2⟩ => ⟨I2.kIn, ?_⟩
  rw [hks]
  exact run_fnN (us := []) (vs := []) F hr hb hx I2 .nil rz rfl l2 q2
end
end L2
/-! Lemmas that every law of this program wants: the state of the draws, lists and texts, what a comparison of data tells. -/
namespace GL
open PySem PySem.Spec PyProof.Rows L2
/-! ### the draws' state: a list at S, its cells at C -/
def StOk (H : Hp) (S C : Addr) : Prop := ∃ (cells : List Int) (k m : Int), H S = some (.lst [.ref C, .int k, .int m]) ∧ H C = some (.lst (cells.map V.int)) ∧ 0 < cells.length ∧ cells.length ≤ 63 ∧ (∀ c ∈ cells, 0 ≤ c) ∧ 0 ≤ k ∧ 0 ≤ m ∧ m < 2147483647
/-- all but the state stands as it stood -/
def Mod (S C : Addr) (H H' : Hp) : Prop := ∀ b o, H b = some o → b ≠ S → b ≠ C → H' b = some o
theorem Mod.refl (S C : Addr) (H : Hp) : Mod S C H H := fun _ _ h _ _ => h
theorem Mod.trans {S C : Addr} {H H1 H2 : Hp} (a : Mod S C H H1) (b : Mod S C H1 H2) : Mod S C H H2 := fun x o h n1 n2 => b x o (a x o h n1 n2) n1 n2
theorem Mod.of {S C : Addr} {H H1 : Hp} (a : Same H H1) : Mod S C H H1 := fun x o h _ _ => a x o h
theorem same_new {H : Hp} {p : Addr} {o : HO} (h : H p = none) : Same H (upd H p o) := fun b x e => by
  rw [upd_ne (ne_of_none e h)]
  exact e
/-- a new object of the call's own may change -/
theorem _root_.L2.Same.own {H H1 : Hp} {p : Addr} {o : HO} (s : Same H H1) (h : H p = none) : Same H (upd H1 p o) := fun b x e => by
  rw [upd_ne (ne_of_none e h)]
  exact s b x e
theorem Mod.own {S C : Addr} {H H1 : Hp} {p : Addr} {o : HO} (s : Mod S C H H1) (h : H p = none) : Mod S C H (upd H1 p o) := fun b x e n1 n2 => by
  rw [upd_ne (ne_of_none e h)]
  exact s b x e n1 n2
theorem StOk.ne {H : Hp} {S C : Addr} (h : StOk H S C) : S ≠ C := fun e => by
  obtain ⟨cells, k, m, h1, h2, _⟩ := h
  rw [e, h2] at h1
  cases cells with
  | nil => cases h1
  | cons x r => cases h1
theorem StOk.same {H H' : Hp} {S C : Addr} (h : StOk H S C) (s : Same H H') : StOk H' S C := by
  obtain ⟨cells, k, m, h1, h2, r⟩ := h
  exact ⟨cells, k, m, s _ _ h1, s _ _ h2, r⟩
theorem StOk.upd {H : Hp} {S C p : Addr} {o : HO} (h : StOk H S C) (n1 : p ≠ S) (n2 : p ≠ C) : StOk (upd H p o) S C := by
  obtain ⟨cells, k, m, h1, h2, r⟩ := h
  exact ⟨cells, k, m, by rw [upd_ne n1.symm]; exact h1, by rw [upd_ne n2.symm]; exact h2, r⟩
theorem StOk.neS {H : Hp} {S C p : Addr} (h : StOk H S C) (n : H p = none) : p ≠ S := fun e => by
  obtain ⟨cells, k, m, h1, h2, r⟩ := h
  rw [e, h1] at n
  cases n
theorem StOk.neC {H : Hp} {S C p : Addr} (h : StOk H S C) (n : H p = none) : p ≠ C := fun e => by
  obtain ⟨cells, k, m, h1, h2, r⟩ := h
  rw [e, h2] at n
  cases n
/-- an object of another kind is none of the two -/
theorem StOk.offL {H : Hp} {S C p : Addr} {o : HO} (h : StOk H S C) (e : H p = some o) (k : ∀ xs, o ≠ .lst xs) : p ≠ S ∧ p ≠ C := by
  obtain ⟨cells, i, m, h1, h2, r⟩ := h
  refine ⟨fun z => ?_, fun z => ?_⟩
  · rw [z, h1] at e
    exact k _ (Option.some.inj e).symm
  · rw [z, h2] at e
    exact k _ (Option.some.inj e).symm
theorem StOk.offS {H : Hp} {S C p : Addr} {ys : List Str} (h : StOk H S C) (e : H p = some (.lst (ys.map V.str))) : p ≠ S ∧ p ≠ C := by
  obtain ⟨cells, i, m, h1, h2, h0, r⟩ := h
  refine ⟨fun z => ?_, fun z => ?_⟩
  · rw [z, h1] at e
    cases ys with
    | nil => cases e
    | cons y r => cases e
  · rw [z, h2] at e
    cases ys with
    | nil =>
      cases cells with
      | nil => exact absurd h0 (Nat.lt_irrefl _)
      | cons x r => cases e
    | cons y r =>
      cases cells with
      | nil => cases e
      | cons x r => cases e
theorem Mod.strs {S C p : Addr} {H H' : Hp} {ys : List Str} (m : Mod S C H H') (h : StOk H S C) (e : H p = some (.lst (ys.map V.str))) : H' p = some (.lst (ys.map V.str)) :=
  m _ _ e (h.offS e).1 (h.offS e).2
theorem Mod.other {S C p : Addr} {H H' : Hp} {o : HO} (m : Mod S C H H') (h : StOk H S C) (e : H p = some o) (k : ∀ xs, o ≠ .lst xs) : H' p = some o :=
  m _ _ e (h.offL e k).1 (h.offL e k).2
/-! ### items -/
theorem cell_at {xs : List Int} {z : Int} (h0 : 0 ≤ z) (h : z < (xs.length : Int)) : ∃ (j : Nat) (c : Int), z = (j : Int) ∧ j < xs.length ∧ xs[j]? = some c ∧ (xs.map V.int)[j]? = some (.int c) ∧ c ∈ xs := by
  obtain ⟨j, rfl⟩ := Int.eq_ofNat_of_zero_le h0
  have hj : j < xs.length := by omega
  refine ⟨j, xs[j], rfl, hj, List.getElem?_eq_getElem hj, ?_, List.getElem_mem hj⟩
  rw [List.getElem?_map, List.getElem?_eq_getElem hj]
  rfl
theorem ixN_of {n j : Nat} {z : Int} (e : z = (j : Int)) (h : j < n) : ixN n z = some j := by
  subst e
  unfold ixN
  rw [if_pos (by omega), if_pos (by omega)]
  rfl
theorem lst3_set1 (a b c d : V) : ([a, b, c] : List V).set 1 d = [a, d, c] := rfl
theorem at_some {α : Type} {xs : List α} {d : Int} (h0 : 0 ≤ d) (h : d < (xs.length : Int)) : ∃ j v, d = ((j : Nat) : Int) ∧ xs[j]? = some v ∧ v ∈ xs := by
  obtain ⟨j, rfl⟩ := Int.eq_ofNat_of_zero_le h0
  have hj : j < xs.length := by omega
  exact ⟨j, xs[j], rfl, List.getElem?_eq_getElem hj, List.getElem_mem hj⟩
theorem atI_at {α : Type} {xs : List α} {d : Int} {j : Nat} {v : α} (e : d = ((j : Nat) : Int)) (h : xs[j]? = some v) : atI xs d = some v := by
  subst e
  unfold atI
  rw [ixN_of rfl (List.getElem?_eq_some_iff.mp h).1]
  exact h
theorem strs_at {xs : List Str} {j : Nat} {v : Str} (h : xs[j]? = some v) : (xs.map V.str)[j]? = some (.str v) := by
  rw [List.getElem?_map, h]
  rfl
theorem of_strs_at {xs : List Str} {j : Nat} {v : V} (h : (xs.map V.str)[j]? = some v) : ∃ z, xs[j]? = some z ∧ v = .str z := by
  rw [List.getElem?_map] at h
  cases e : xs[j]? with
  | none => rw [e] at h; cases h
  | some z => rw [e] at h; exact ⟨z, rfl, (Option.some.inj h).symm⟩
theorem of_ints_at {xs : List Int} {j : Nat} {v : V} (h : (xs.map V.int)[j]? = some v) : ∃ z, xs[j]? = some z ∧ v = .int z := by
  rw [List.getElem?_map] at h
  cases e : xs[j]? with
  | none => rw [e] at h; cases h
  | some z => rw [e] at h; exact ⟨z, rfl, (Option.some.inj h).symm⟩
theorem take_snoc {α : Type} {l : List α} {i : Nat} {x : α} (h : l[i]? = some x) : l.take (i + 1) = l.take i ++ [x] := by
  rw [List.take_succ, h]
  rfl
theorem small_nat {n : Nat} (h : n ≤ 100000) : (n : Int).natAbs < 2 ^ 200 := by
  rw [Int.natAbs_natCast]
  exact Nat.lt_of_le_of_lt h (by decide)
theorem small_sz {n : Nat} (h : n ≤ 100000) : n ≤ sizeLine := Nat.le_trans h (by decide)
theorem small_lt {n : Nat} (h : n < 100000) : n < sizeLine := Nat.lt_of_lt_of_le h (by decide)
/-- one taken out -/
theorem erase_perm {α : Type} : ∀ {l : List α} {j : Nat} {x : α}, l[j]? = some x → (x :: l.eraseIdx j).Perm l
  | [], _, _, h => by simp at h
  | a :: r, 0, x, h => by
    have e : a = x := Option.some.inj h
    subst e
    exact .refl _
  | a :: r, j + 1, x, h => by
    have ih := erase_perm (l := r) (j := j) (x := x) h
    show (x :: a :: r.eraseIdx j).Perm (a :: r)
    exact (List.Perm.swap _ _ _).trans (ih.cons a)
theorem erase_map {α β : Type} (f : α → β) : ∀ (l : List α) (j : Nat), (l.map f).eraseIdx j = (l.eraseIdx j).map f
  | [], _ => rfl
  | a :: r, 0 => rfl
  | a :: r, j + 1 => by
    show f a :: (r.map f).eraseIdx j = f a :: (r.eraseIdx j).map f
    rw [erase_map f r j]
theorem take_min {α : Type} (xs : List α) (k : Nat) : xs.take (min k xs.length) = xs.take k := by
  by_cases h : k ≤ xs.length
  · rw [Nat.min_eq_left h]
  · rw [Nat.min_eq_right (by omega), List.take_length, List.take_of_length_le (by omega)]
theorem drop_min {α : Type} (xs : List α) (k : Nat) : xs.drop (min k xs.length) = xs.drop k := by
  by_cases h : k ≤ xs.length
  · rw [Nat.min_eq_left h]
  · rw [Nat.min_eq_right (by omega), List.drop_length, List.drop_of_length_le (by omega)]
theorem cut_take (xs : List V) (k : Nat) : cutV xs none (some (k : Int)) = xs.take k := by
  unfold cutV
  rw [HT.sIx_none, HT.sIx_nat, List.drop_zero, Nat.sub_zero, take_min]
theorem cut_drop (xs : List V) (k : Nat) : cutV xs (some (k : Int)) none = xs.drop k := by
  unfold cutV
  rw [HT.sIx_none, HT.sIx_nat, drop_min, List.take_of_length_le]
  rw [List.length_drop]
  omega
/-! ### texts as data -/
theorem dp_all {K : PySem.W.Frag} {H : Hp} : ∀ ys : List Str, DpAll K H (ys.map V.str) (ys.map PyData.str)
  | [] => .nil
  | y :: r => .cons (.str y) (dp_all r)
theorem dp_list {K : PySem.W.Frag} {H : Hp} {a : Addr} {ys : List Str} (h : H a = some (.lst (ys.map V.str))) : Dp K H (.ref a) (.list (ys.map PyData.str)) := .lst (SqL.of h) (dp_all ys)
theorem dp_tup {K : PySem.W.Frag} {H : Hp} {a : Addr} {ys : List Str} (h : H a = some (.tup (ys.map V.str))) : Dp K H (.ref a) (.tuple (ys.map PyData.str)) := .tup (SqT.of h) (dp_all ys)
theorem can_strs : ∀ ys : List Str, (∀ y ∈ ys, PyData.strOk y = true) → PyData.canLayAll0 (ys.map PyData.str) = true
  | [], _ => by rw [List.map_nil, PyData.canLayAll0]
  | y :: r, h => by
    rw [List.map_cons, PyData.canLayAll0, PyData.canLay0, h y List.mem_cons_self, can_strs r fun z hz => h z (List.mem_cons_of_mem _ hz)]
    rfl
theorem depth_strs : ∀ ys : List Str, PyData.depthAll (ys.map PyData.str) = 0
  | [] => by rw [List.map_nil, PyData.depthAll]
  | y :: r => by
    rw [List.map_cons, PyData.depthAll, depth_strs r, PyData.depth]
    rfl
theorem shaped_list {ys : List Str} (h : ∀ y ∈ ys, PyData.strOk y = true) : SeqAt.shaped (.list (ys.map PyData.str)) = true := by
  unfold SeqAt.shaped
  rw [PyData.canLay0, can_strs ys h, PyData.depth, depth_strs]
  rfl
theorem shaped_tup {ys : List Str} (h : ∀ y ∈ ys, PyData.strOk y = true) : SeqAt.shaped (.tuple (ys.map PyData.str)) = true := by
  unfold SeqAt.shaped
  rw [PyData.canLay0, can_strs ys h, PyData.depth, depth_strs]
  rfl
theorem eqv_strs : ∀ xs ys : List Str, PyData.eqvAll (xs.map PyData.str) (ys.map PyData.str) = decide (xs = ys)
  | [], [] => by rw [List.map_nil, PyData.eqvAll]; rfl
  | [], y :: r => by rw [List.map_nil, List.map_cons, PyData.eqvAll]; rfl
  | x :: r, [] => by rw [List.map_nil, List.map_cons, PyData.eqvAll]; rfl
  | x :: r, y :: s => by
    rw [List.map_cons, List.map_cons, PyData.eqvAll, PyData.eqv, eqv_strs r s, Bool.eq_iff_iff, Bool.and_eq_true, beq_iff_eq, decide_eq_true_iff, decide_eq_true_iff, List.cons.injEq]
theorem eqv_lists (xs ys : List Str) : PyData.eqv (.list (xs.map PyData.str)) (.list (ys.map PyData.str)) = decide (xs = ys) := by rw [PyData.eqv, eqv_strs]
theorem eqv_tups (xs ys : List Str) : PyData.eqv (.tuple (xs.map PyData.str)) (.tuple (ys.map PyData.str)) = decide (xs = ys) := by rw [PyData.eqv, eqv_strs]
/-! ### ints as data -/
theorem dpi_all {K : PySem.W.Frag} {H : Hp} : ∀ ys : List Int, DpAll K H (ys.map V.int) (ys.map PyData.int)
  | [] => .nil
  | y :: r => .cons (.int y) (dpi_all r)
theorem can_ints : ∀ ys : List Int, PyData.canLayAll0 (ys.map PyData.int) = true
  | [] => by rw [List.map_nil, PyData.canLayAll0]
  | y :: r => by rw [List.map_cons, PyData.canLayAll0, PyData.canLay0, can_ints r]; rfl
theorem depth_ints : ∀ ys : List Int, PyData.depthAll (ys.map PyData.int) = 0
  | [] => by rw [List.map_nil, PyData.depthAll]
  | y :: r => by rw [List.map_cons, PyData.depthAll, depth_ints r, PyData.depth]; rfl
theorem shapedi_list (ys : List Int) : SeqAt.shaped (.list (ys.map PyData.int)) = true := by
  unfold SeqAt.shaped
  rw [PyData.canLay0, can_ints ys, PyData.depth, depth_ints]
  rfl
theorem shapedi_tup (ys : List Int) : SeqAt.shaped (.tuple (ys.map PyData.int)) = true := by
  unfold SeqAt.shaped
  rw [PyData.canLay0, can_ints ys, PyData.depth, depth_ints]
  rfl
theorem eqv_ints : ∀ xs ys : List Int, PyData.eqvAll (xs.map PyData.int) (ys.map PyData.int) = decide (xs = ys)
  | [], [] => by rw [List.map_nil, PyData.eqvAll]; rfl
  | [], y :: r => by rw [List.map_nil, List.map_cons, PyData.eqvAll]; rfl
  | x :: r, [] => by rw [List.map_nil, List.map_cons, PyData.eqvAll]; rfl
  | x :: r, y :: s => by
    rw [List.map_cons, List.map_cons, PyData.eqvAll, PyData.eqv, eqv_ints r s, Bool.eq_iff_iff, Bool.and_eq_true, beq_iff_eq, decide_eq_true_iff, decide_eq_true_iff, List.cons.injEq]
theorem eqvi_lists (xs ys : List Int) : PyData.eqv (.list (xs.map PyData.int)) (.list (ys.map PyData.int)) = decide (xs = ys) := by rw [PyData.eqv, eqv_ints]
theorem eqvi_tups (xs ys : List Int) : PyData.eqv (.tuple (xs.map PyData.int)) (.tuple (ys.map PyData.int)) = decide (xs = ys) := by rw [PyData.eqv, eqv_ints]
/-! ### promises of the helpers -/
def spDraw : Sp := fun vs H Q _ => ∃ (S C : Addr) (n : Int), vs = [.ref S, .int n] ∧ 0 < n ∧ n.natAbs < 2 ^ 200 ∧ StOk H S C ∧ ∀ H' d, Mod S C H H' → StOk H' S C → 0 ≤ d → d < n → Q (.int d) H'
/-- one of a list, or one sign of a text -/
def spPick : Sp := fun vs H Q _ => ∃ (S C : Addr) (x : V), vs = [.ref S, x] ∧ StOk H S C ∧
  ((∃ a xs, x = .ref a ∧ a ≠ S ∧ a ≠ C ∧ H a = some (.lst xs) ∧ 0 < xs.length ∧ xs.length ≤ 1000 ∧ ∀ H' v, Mod S C H H' → StOk H' S C → v ∈ xs → Q v H') ∨
   (∃ z : Str, x = .str z ∧ 0 < z.cps.toList.length ∧ z.length ≤ 1000 ∧ ∀ H' c, Mod S C H H' → StOk H' S C → c ∈ z.cps.toList → Q (.str ⟨#[c]⟩) H'))
/-- a new list of the same, in some order -/
def spMixed : Sp := fun vs H Q _ => ∃ (S C a : Addr) (ns : List Str), vs = [.ref S, .ref a] ∧ StOk H S C ∧ H a = some (.lst (ns.map V.str)) ∧ ns.length ≤ 100 ∧ (∀ y ∈ ns, PyData.strOk y = true) ∧
  ∀ H' p ys, Mod S C H H' → StOk H' S C → H p = none → H' p = some (.lst (List.map V.str ys)) → ys.Perm ns → Q (.ref p) H'
/-- a slip of at most 58 figures -/
def spSlip : Sp := fun vs H Q _ => ∃ (S C : Addr), vs = [.ref S] ∧ StOk H S C ∧ ∀ H' z, Mod S C H H' → StOk H' S C → Int.natAbs z < 10 ^ 58 → Q (.int z) H'
def spState (K : PySem.W.Frag) : Sp := fun vs H Q _ => ∃ (a : Addr) (ns : List Int), vs = [.ref a] ∧ SqL K H a (ns.map V.int) ∧ ns.length ≤ 63 ∧ ∀ H' S C, Same H H' → H S = none → H C = none → StOk H' S C → Q (.ref S) H'
def spLaw (K : PySem.W.Frag) : Sp := fun vs H Q _ => ∃ (a : Addr) (ns : List Int), vs = [.ref a] ∧ SqL K H a (ns.map V.int) ∧ ns.length ≤ 63 ∧ ∀ H', Q (.bl true) H'
end GL
/-! Own rule: sorted(d), d a dict whose keys are numbers, however many. -/
namespace L2
open PySem PySem.Spec PyProof.Rows
variable {X : Cx}
theorem keys_nums {us : List Value} {ns : List Int} (h : us.length = ns.length) (g : ∀ (i : Nat) (u : Value) (n : Int), us[i]? = some u → ns[i]? = some n → ∃ t, u = Value.int n t) : IntsAre us ns := by
  refine ints_each h fun i u e => ?_
  have hlt : i < ns.length := by rw [← h]; exact (List.getElem?_eq_some_iff.mp e).1
  obtain ⟨t, rfl⟩ := g i u _ e (List.getElem?_eq_getElem hlt)
  exact ⟨_, t, List.getElem?_eq_getElem hlt, rfl⟩
def rSortKeys : List V → Hp → VK → Prop := fun xs H Q => ∃ (d : Addr) (kvs : List (Key × V)) (ns : List Int), xs = [.ref d] ∧ Rd H d (.dK kvs) ∧ kvs.map (·.1) = ns.map Sum.inl ∧ ns.length ≤ 5000 ∧
  ∀ (ms : List Int) (q : Addr), ms.Perm ns → ms.Pairwise (· ≤ ·) → H q = none → Q (.ref q) (upd H q (.lst (ms.map V.int)))
theorem cr_sortedKeys (calm : X.calm = true) : CallR X (.builtin "sorted") rSortKeys := by
  intro pins s σ H xs us Q I rel hyp
  obtain ⟨d, kvs, ns, rfl, hd, hk, hlen, fin⟩ := hyp
  rw [Vals.ref1 rel]
  obtain ⟨z, lo, raw, krel, dl⟩ := dk_rd I.hok hd
  obtain ⟨ep, at'⟩ := dl.dictAt
  have hraw : raw.map (·.1) = ns.map Sum.inl := krel.keys.symm.trans hk
  have len : raw.length = ns.length := by simpa using congrArg List.length hraw
  have line : ns.length ≤ sizeLine := Nat.le_trans hlen (by decide)
  refine Calls.call_function_entry PyProof.Rows.kind_sorted PyProof.Rows.plain_sorted PyProof.Rows.entry_sorted (PyProof.Rows.args_sorted1 _) ?_
  unfold Builtin.«sorted»
  refine wpAny_bind (m := checkCount "sorted" 1 1 _) (wpAny_pure ?_)
  refine wpAny_bind (PySem.W.kdu_collect (A := X.A.in1) (PySem.W.kdl_dict (knd := mixKind X.prog X.w) (kvs := raw) (ep := ep) lo) (I.ok.hd calm) at' (by rw [len]; exact line) fun h1 tk got kept hgot => ?_)
  have gl : got.toList.length = ns.length := by rw [Array.length_toList, hgot.1, len]
  have nums : IntsAre got.toList ns := keys_nums gl fun i u n e en => by
    obtain ⟨k, w, e1, e2⟩ := hgot.2 i u (by rw [← Array.getElem?_toList]; exact e)
    have e3 : (raw.map (·.1))[i]? = some k := by rw [List.getElem?_map, e1]; rfl
    rw [hraw, List.getElem?_map, en] at e3
    have e4 : Sum.inl n = k := Option.some.inj e3
    subst e4
    rcases keyIs_shape (show keyIs (Sum.inl n) u = true from e2) with ⟨m, t, ek, ev⟩ | ⟨m, t, ek, ev⟩
    · cases ek
      exact ⟨t, ev⟩
    · cases ek
  have I1 : Inv X pins σ H { s with heap := h1, toks := tk } := I.kept kept
  refine wpAny_bind (wpAny_newList ?_ (by rw [gl]; exact line))
  have ob : (h1.push (seqObj "list" got.toList.toArray 0)).get? h1.objs.size = some (seqObj "list" got.toList.toArray 0) := Heap.get?_push_size _ rfl
  show wpAny _ _ _ _ _ { s with heap := h1.push (seqObj "list" got.toList.toArray 0), toks := tk }
  refine wpAny_bind (wpAny_holding (wpAny_call_entry PyProof.Rows.slot_list_sort ⟨_, ob, rfl⟩ PyProof.Rows.entry_list_sort
    (SrtO.list_sort_ord SrtO.swo_int (s := { s with heap := h1.push (seqObj "list" got.toList.toArray 0), toks := tk }) ob (by rw [gl]; exact line) (fun two => SrtO.ints_sortable nums two) fun out g1 g2 => ⟨_, rfl, ?_⟩) (PyProof.Rows.args_list_sort _)))
  obtain ⟨k1, k2, k3⟩ := SrtO.ints_out nums g1 g2
  obtain ⟨ep', at2⟩ := PyProof.Rows.sortedHeap_at (vs := got.toList) (out := out.toArray) ob
  have small : ((out.map SrtO.iv).map V.int).length ≤ sizeLine := by rw [List.length_map, k2.length_eq]; exact line
  refine wpAny_pure ⟨_, rfl, .ref h1.objs.size, upd H h1.objs.size (.lst ((out.map SrtO.iv).map V.int)), I1.laid (t' := tk) (fun b u e => ?_) (Nat.le_refl _)
    (show ObjOk X.prog X.w _ _ _ (.lst ((out.map SrtO.iv).map V.int)) from ⟨small, out, ep', vals_of_ints k1, at2⟩), rfl, fin _ _ k2 k3 (I1.hok.fresh (Nat.le_refl _))⟩
  have lt := Heap.lt_size e
  rw [PyProof.Rows.sortedHeap_old (Nat.ne_of_lt lt) (by rw [size_push']; exact Nat.lt_succ_of_lt lt)]
  exact Heap.get?_push_of_some _ e
/-- a row to be gone through that is a list or a tuple -/
theorem pi_either {tg e : Expr} {w1 w2 : TI} (a : PI X tg e w1) (b : PI X tg e w2) : PI X tg e (fun σ H R => w1 σ H R ∨ w2 σ H R) :=
  ⟨fun pins s σ H R I h => h.elim (a.run pins s σ H R I) (b.run pins s σ H R I)⟩
end L2
/-! Tuples of which it is known that they have no dict of their own: made by tuple(l), t + u, t[i:j]; t.index(x). -/
namespace L2
open PySem PySem.Spec PyProof.Rows
/-- a tuple whose object is known -/
def TupF (H : Hp) (a : Addr) (xs : List V) : Prop := ∃ o : Obj, o.dict = none ∧ H a = some (.frz o (.tup xs))
theorem TupF.same {H H' : Hp} {a : Addr} {xs : List V} (h : TupF H a xs) (s : Same H H') : TupF H' a xs := let ⟨o, e, q⟩ := h; ⟨o, e, s _ _ q⟩
theorem TupF.sq {K : PySem.W.Frag} {H : Hp} {a : Addr} {xs : List V} (h : TupF H a xs) : SqT K H a xs := let ⟨o, _, q⟩ := h; .inl (.inr ⟨o, q⟩)
section
variable {X : Cx}
/-- tuple(l), l a list -/
theorem call_tupleF : CallR X (.type "tuple") (fun xs H Q => ∃ p ys, xs = [.ref p] ∧ SqL X.K H p ys ∧ ∀ l o, H l = none → o.dict = none → Q (.ref l) (upd H l (.frz o (.tup ys)))) := by
  intro pins s σ H xs us Q I r h
  obtain ⟨p, ys, rfl, hq, q⟩ := h
  obtain ⟨u, rfl, rx⟩ := vals1 r
  cases rx
  obtain ⟨its, r', pl, hz⟩ := I.list hq
  have hlen := r'.length
  refine call_tuple_list pl.isList (fun h' kp => ?_) (by simp only [List.size_toArray] <;> omega)
  have I1 : Inv X pins σ H { s with heap := h' } := I.kept (t' := s.toks) kp
  have I2 : Inv X pins σ (upd H h'.objs.size (.frz { cls := .type "tuple", data := .seq its.toArray } (.tup ys))) { s with heap := h'.push { cls := .type "tuple", data := .seq its.toArray } } :=
    I1.laid (t' := s.toks) (fun b o e => Heap.get?_push_of_some _ e) (Nat.le_refl _) (show ObjOk X.prog X.w _ _ _ (.frz { cls := .type "tuple", data := .seq its.toArray } (.tup ys)) from ⟨Heap.get?_push_size _ rfl, hz, its, r', IsTup.new _ _⟩)
  exact ⟨.ref h'.objs.size, _, I2, rfl, q _ _ (I1.hok.fresh (Nat.le_refl _)) rfl⟩
/-- t + u -/
def rCatF (K : PySem.W.Frag) : R2 := fun x y H Q => ∃ a b xs ys, x = .ref a ∧ y = .ref b ∧ SqT K H a xs ∧ SqT K H b ys ∧ xs.length + ys.length ≤ sizeLine ∧
  (xs = [] → Q (.ref b) H) ∧ (xs ≠ [] → ys = [] → Q (.ref a) H) ∧ (xs ≠ [] → ys ≠ [] → ∀ p o, H p = none → o.dict = none → Q (.ref p) (upd H p (.frz o (.tup (xs ++ ys)))))
theorem op_catF : OpR X (binaryOp .Add) (rCatF X.K) := by
  intro pins s σ H x y v u Q I rx ry h
  obtain ⟨a, b, xs, ys, rfl, rfl, ha, hb, hz, q0, q1, q2⟩ := h
  by_cases hx : xs = []
  · subst hx
    exact op_catA pins s σ H _ _ v u Q I rx ry ⟨a, b, [], ys, rfl, rfl, ha, hb, hz, q0, fun e => absurd rfl e, fun e => absurd rfl e⟩
  · cases rx
    cases ry
    obtain ⟨its, r1, p1, _⟩ := I.tuple ha
    obtain ⟨its2, r2, p2, _⟩ := I.tuple hb
    refine HT.cat_tup p1 p2 (fun z => hx (r1.nil_iff.mp z)) (fun z => ⟨.ref a, H, I, rfl, q1 hx (r2.nil_iff.mp z)⟩) (fun z => ?_) (by rw [← r1.length, ← r2.length]; exact hz)
    refine ⟨.ref s.heap.objs.size, _, I.laid (t' := s.toks) (o := .frz { cls := .type "tuple", data := .seq (its ++ its2).toArray } (.tup (xs ++ ys))) (fun b ob q => Heap.get?_push_of_some _ q) (Nat.le_refl _) ?_, rfl, q2 hx (fun w => z (r2.nil_iff.mpr w)) _ _ (I.hok.fresh (Nat.le_refl _)) rfl⟩
    exact ⟨Heap.get?_push_size _ rfl, by rw [List.length_append]; exact hz, _, r1.append r2, IsTup.new _ _⟩
/-- t[lo:hi] -/
def rSlF (K : PySem.W.Frag) : V → Option Int → Option Int → Hp → VK → Prop := fun x lo hi H Q => ∃ a xs, x = .ref a ∧ SqT K H a xs ∧
  (HT.sIx xs.length 0 lo = 0 ∧ HT.sIx xs.length xs.length hi = xs.length → Q (.ref a) H) ∧ (¬ (HT.sIx xs.length 0 lo = 0 ∧ HT.sIx xs.length xs.length hi = xs.length) → ∀ p o, H p = none → o.dict = none → Q (.ref p) (upd H p (.frz o (.tup (cutV xs lo hi)))))
theorem sl_tupF : SlR X (rSlF X.K) := by
  intro pins s σ H x v vl vu lo hi sl Q I rx hs pl pu h
  obtain ⟨a, xs, rfl, hx, q1, q2⟩ := h
  by_cases hw : HT.sIx xs.length 0 lo = 0 ∧ HT.sIx xs.length xs.length hi = xs.length
  · exact sl_tupA pins s σ H _ v vl vu lo hi sl Q I rx hs pl pu ⟨a, xs, rfl, hx, q1, fun e => absurd hw e⟩
  · cases rx
    obtain ⟨its, r, ht, hz⟩ := I.tuple hx
    have hlen : its.toArray.size = xs.length := by rw [List.size_toArray]; exact r.length.symm
    refine ⟨"tuple", _, PyProof.Rows.slot_tuple_getitem.lookup, ht.typeIs, ?_⟩
    refine HT.getItem_tuple_cut ht hs pl pu (by rw [hlen]; exact hw) ?_ (by rw [hlen]; exact hz)
    rw [hlen]
    refine ⟨.ref s.heap.objs.size, _, I.laid (t' := s.toks) (o := .frz { cls := .type "tuple", data := .seq ((its.drop (HT.sIx xs.length 0 lo)).take (HT.sIx xs.length xs.length hi - HT.sIx xs.length 0 lo)).toArray } (.tup (cutV xs lo hi))) (fun b ob q => Heap.get?_push_of_some _ q) (Nat.le_refl _) ?_, rfl, q2 hw _ _ (I.hok.fresh (Nat.le_refl _)) rfl⟩
    exact ⟨Heap.get?_push_size _ rfl, Nat.le_trans (cutV_length xs lo hi) hz, _, (r.drop (HT.sIx xs.length 0 lo)).take (HT.sIx xs.length xs.length hi - HT.sIx xs.length 0 lo), IsTup.new _ _⟩
def tBMF (r : V → List V → Hp → VK → Prop) (to : TE) (t : TA) : TE := fun σ H Q => to σ H fun x H1 => (∃ a xs, x = .ref a ∧ TupF H1 a xs) ∧ t σ H1 fun xs H2 => r x xs H2 Q
variable {o e : Expr} {es : List Expr} {to : TE} {t : TA} {name : Str} {apos cpos : Pos} {id : String} {r : V → List V → Hp → VK → Prop}
/-- t.m(e, ..), t a tuple whose object is known -/
theorem pe_bmF (slot : Slot "tuple" name id) (hty : typeOf (.builtin id) = pure (.type "method_descriptor")) (hm : MtR X id r) (ho : PE X o to) (ha : PA X (e :: es) t)
    (hbase : attributeBase o name X.env (eval o X.env) = eval o X.env := by rfl)
    (hfew : ((backTo cpos (starEach (e :: es) X.env)).all (fun x => !x.1) && (backToKw cpos (keywordEach [] X.env)).all (fun x => x.1.isSome)
      && decide ((e :: es).length + ([] : List Keyword).length + (if ([] : List Keyword).isEmpty then 0 else 1) < 30)) = true := by rfl)
    (hline : (apos.endLine == cpos.line) = true := by rfl) (hs : starEach (e :: es) X.env = (false, eval e X.env) :: starEach es X.env := by rfl) (hplain : (backTo cpos (starEach es X.env)).any (·.1) = false := by rfl) :
    PE X (.Call (.Attribute o name apos) (e :: es) [] cpos) (tBMF r to t) := by
  refine ⟨fun pins s σ H Q I h => ?_⟩
  refine wpAny_Call_method_late hbase hfew hline rfl (thn (ho.run pins s σ H _ I h) fun v s1 ⟨x, H1, I1, r1, ty, q1⟩ => ?_)
  obtain ⟨a, xs, rfl, ob, hd, he⟩ := ty
  cases (show v = Value.ref a from r1)
  obtain ⟨hg, _, its, rv, o', h1, h2, _⟩ := (show ObjOk X.prog X.w H1 s1.heap a (.frz ob (.tup xs)) from I1.hok a _ he)
  refine ⟨"tuple", id, PySem.F.plainAttrs_tuple, slot, hty, ⟨o', h1, h2⟩, fun b eb => ?_, ?_⟩
  · cases eb
    exact ⟨ob, hg, hd⟩
  have hA := ha.run cpos pins s1 σ H1 _ I1 q1
  rw [hs] at hA ⊢
  refine Calls.callWith_builtin (by show (false || (backTo cpos (starEach es X.env)).any (·.1)) = false; rw [hplain] <;> rfl) (Calls.evalArgs_plain ?_)
  exact thn hA fun us s2 ⟨vs, H2, I2, r2, q2⟩ => hm pins s2 σ H2 _ vs _ us Q I2 r1 r2 q2
end
end L2
/-! Names: texts of one to eight small letters. -/
namespace GL
open PySem PySem.Spec PyProof.Rows L2
abbrev abc : Str := ("abcdefghijklmnopqrstuvwxyz" : Str)
def one (c : Nat) : Str := ⟨#[c]⟩
def NameOk (z : Str) : Prop := 1 ≤ z.cps.toList.length ∧ z.cps.toList.length ≤ 8 ∧ ∀ c ∈ z.cps.toList, 97 ≤ c ∧ c ≤ 122
instance (z : Str) : Decidable (NameOk z) := by unfold NameOk; exact inferInstance
theorem NameOk.str {z : Str} (h : NameOk z) : PyData.strOk z = true := by
  unfold PyData.strOk
  rw [← Array.all_toList, List.all_eq_true]
  intro c hc
  have := (h.2.2 c hc).2
  exact decide_eq_true (by omega)
theorem NameOk.len {z : Str} (h : NameOk z) : z.length ≤ 8 := by
  have e : z.cps.toList.length = z.length := Array.length_toList
  have := h.2.1
  omega
theorem NameOk.len1 {z : Str} (h : NameOk z) : 1 ≤ z.length := by
  have e : z.cps.toList.length = z.length := Array.length_toList
  have := h.1
  omega
theorem abc_mem {c : Nat} : c ∈ abc.cps.toList ↔ 97 ≤ c ∧ c ≤ 122 := by
  have h1 : ∀ c ∈ abc.cps.toList, 97 ≤ c ∧ c ≤ 122 := by decide +kernel
  have h2 : ∀ k, k < 26 → (97 + k) ∈ abc.cps.toList := by decide +kernel
  refine ⟨h1 c, fun h => ?_⟩
  have := h2 (c - 97) (by omega)
  rwa [show 97 + (c - 97) = c by omega] at this
theorem one_ok {c : Nat} (h : 97 ≤ c ∧ c ≤ 122) : PyData.strOk (one c) = true := by
  have : NameOk (one c) := ⟨Nat.le_refl _, (by show 1 ≤ 8; decide), fun x hx => by
    rw [show (one c).cps.toList = [c] from rfl, List.mem_singleton] at hx
    rw [hx]
    exact h⟩
  exact this.str
theorem glue_fold : ∀ (ys : List Str) (acc : Array Nat), (ys.foldl (fun a y => a ++ (Str.empty).cps ++ y.cps) acc).toList = acc.toList ++ ys.flatMap fun y => y.cps.toList
  | [], acc => by rw [List.foldl_nil, List.flatMap_nil, List.append_nil]
  | y :: r, acc => by
    rw [List.foldl_cons, glue_fold r, List.flatMap_cons, Array.toList_append, Array.toList_append, show (Str.empty).cps.toList = [] from rfl, List.append_nil, List.append_assoc]
theorem glue_nil (ys : List Str) : (Txt.join ⟨#[]⟩ ys).cps.toList = ys.flatMap fun y => y.cps.toList := by
  show ((ys.drop 1).foldl (fun a y => a ++ (Str.empty).cps ++ y.cps) (ys.headD Str.empty).cps).toList = _
  rw [glue_fold]
  cases ys with
  | nil => rfl
  | cons y r => rfl
theorem glue_ones (cs : List Nat) : (Txt.join ⟨#[]⟩ (cs.map one)).cps.toList = cs := by
  rw [glue_nil]
  induction cs with
  | nil => rfl
  | cons c r ih =>
    rw [List.map_cons, List.flatMap_cons, ih]
    rfl
theorem ones_len : ∀ cs : List Nat, ((cs.map one).map (·.length)).sum = cs.length
  | [] => rfl
  | c :: r => by
    rw [List.map_cons, List.map_cons, List.sum_cons, ones_len r, List.length_cons]
    show 1 + r.length = r.length + 1
    omega
/-- the first seven signs and one more -/
def w7 (z : Str) (c : Nat) : Str := cutS z none (some 7) ++ one c
theorem w7_cps (z : Str) (c : Nat) : (w7 z c).cps.toList = z.cps.toList.take 7 ++ [c] := by
  show ((cutS z none (some 7)).cps ++ (one c).cps).toList = _
  rw [Array.toList_append]
  have e : (cutS z none (some 7)).cps.toList = z.cps.toList.take 7 := by
    show (z.cps.toList.drop (HT.sIx z.length 0 none)).take (HT.sIx z.length z.length (some ((7 : Nat) : Int)) - HT.sIx z.length 0 none) = _
    rw [HT.sIx_none, HT.sIx_nat, List.drop_zero, Nat.sub_zero, show z.length = z.cps.toList.length from Array.length_toList.symm, take_min]
  rw [e]
  rfl
theorem w7_ok {z : Str} {c : Nat} (h : NameOk z) (hc : 97 ≤ c ∧ c ≤ 122) : NameOk (w7 z c) := by
  unfold NameOk
  rw [w7_cps]
  refine ⟨by rw [List.length_append, List.length_singleton]; omega, by rw [List.length_append, List.length_singleton, List.length_take]; omega, fun x hx => ?_⟩
  rcases List.mem_append.mp hx with hx | hx
  · exact h.2.2 x (List.mem_of_mem_take hx)
  · rw [List.mem_singleton] at hx
    rw [hx]
    exact hc
theorem w7_inj {z : Str} {c d : Nat} (h : w7 z c = w7 z d) : c = d := by
  have e := congrArg (fun x : Str => x.cps.toList) h
  rw [w7_cps, w7_cps] at e
  have := List.append_cancel_left e
  exact (List.cons.inj this).1
/-- the word itself, then its turns by the signs -/
def turns27 (z : Str) : List Str := z :: abc.cps.toList.map (w7 z)
theorem turns27_ok {z : Str} (h : NameOk z) : ∀ y ∈ turns27 z, NameOk y := fun y hy => by
  rcases List.mem_cons.mp hy with rfl | hy
  · exact h
  · obtain ⟨c, hc, rfl⟩ := List.mem_map.mp hy
    exact w7_ok h (abc_mem.mp hc)
theorem nodup_map {α β : Type} {f : α → β} (hf : ∀ a b, f a = f b → a = b) : ∀ {l : List α}, l.Nodup → (l.map f).Nodup
  | [], _ => List.nodup_nil
  | a :: r, h => by
    rw [List.nodup_cons] at h
    rw [List.map_cons, List.nodup_cons]
    refine ⟨fun hm => ?_, nodup_map hf h.2⟩
    obtain ⟨b, hb, e⟩ := List.mem_map.mp hm
    rw [hf _ _ e] at hb
    exact h.1 hb
theorem abc_nodup : abc.cps.toList.Nodup := by decide +kernel
/-- of so many one is none of few -/
theorem fresh_one {z : Str} {found : List Str} (h : found.length < 26) : (turns27 z).filter (fun y => !decide (y ∈ found)) ≠ [] := fun e => by
  have sub : abc.cps.toList.map (w7 z) ⊆ found := fun y hy => by
    refine Classical.byContradiction fun hn => ?_
    have : y ∈ (turns27 z).filter (fun y => !decide (y ∈ found)) := List.mem_filter.mpr ⟨List.mem_cons_of_mem _ hy, by rw [decide_eq_false hn]; rfl⟩
    rw [e] at this
    cases this
  have := List.Nodup.length_le_of_subset (nodup_map (fun a b => w7_inj) abc_nodup) sub
  rw [List.length_map, show abc.cps.toList.length = 26 by decide +kernel] at this
  omega
theorem inV_strs (x : Str) : ∀ ys : List Str, inV (.str x) (ys.map V.str) = decide (x ∈ ys)
  | [] => rfl
  | y :: r => by
    have ih := inV_strs x r
    unfold inV at ih ⊢
    rw [List.map_cons, List.any_cons, ih, Bool.eq_iff_iff, Bool.or_eq_true, decide_eq_true_iff, decide_eq_true_iff, List.mem_cons]
    show ((y == x) = true ∨ _) ↔ _
    rw [beq_iff_eq]
    exact ⟨fun h => h.imp Eq.symm id, fun h => h.imp Eq.symm id⟩
def spNames : Sp := fun vs H Q _ => ∃ (S C : Addr) (n : Int), vs = [.ref S, .int n] ∧ 0 ≤ n ∧ n ≤ 14 ∧ StOk H S C ∧
  ∀ H' p ys, Mod S C H H' → StOk H' S C → H p = none → H' p = some (.lst (List.map V.str ys)) → ys.length = n.toNat → ys.Nodup → (∀ y ∈ ys, NameOk y) → Q (.ref p) H'
end GL
namespace GL
open PySem PySem.Spec PyProof.Rows L2
def words13 : List Str := ["ring", "may", "sure", "far", "more", "go", "come", "watch", "round", "anew", "swap", "seat", "undo"]
theorem words13_ok : ∀ y ∈ words13, NameOk y := by decide +kernel
def etao : Str := "etaoinshrdlcumwf"
theorem etao_mem : ∀ c ∈ etao.cps.toList, 97 ≤ c ∧ c ≤ 122 := by decide +kernel
/-- of so many turns one is none of few -/
theorem fresh_w7 {z : Str} {found : List Str} (h : found.length < 26) : (abc.cps.toList.map (w7 z)).filter (fun y => !decide (y ∈ found)) ≠ [] := fun e => by
  have sub : abc.cps.toList.map (w7 z) ⊆ found := fun y hy => by
    refine Classical.byContradiction fun hn => ?_
    have : y ∈ (abc.cps.toList.map (w7 z)).filter (fun y => !decide (y ∈ found)) := List.mem_filter.mpr ⟨hy, by rw [decide_eq_false hn]; rfl⟩
    rw [e] at this
    cases this
  have := List.Nodup.length_le_of_subset (nodup_map (fun a b => w7_inj) abc_nodup) sub
  rw [List.length_map, show abc.cps.toList.length = 26 by decide +kernel] at this
  omega
end GL
/-! Slips by names, rounds. -/
namespace GL
open PySem PySem.Spec PyProof.Rows L2
/-! ### a dict of slips -/
def SlipsAt (H : Hp) (d : Addr) (ns : List Str) (sl : Str → Int) : Prop := ∃ kvs : List (Key × V), H d = some (.dK kvs) ∧ kvs.length = ns.length ∧ (kvs.map (·.1)).Nodup ∧ ∀ n ∈ ns, valV kvs (Sum.inr n : Key) = some (.int (sl n))
theorem SlipsAt.same {H H' : Hp} {d : Addr} {ns : List Str} {sl : Str → Int} (h : SlipsAt H d ns sl) (s : Same H H') : SlipsAt H' d ns sl := by
  obtain ⟨kvs, h1, r⟩ := h
  exact ⟨kvs, s _ _ h1, r⟩
theorem SlipsAt.mod {H H' : Hp} {d S C : Addr} {ns : List Str} {sl : Str → Int} (h : SlipsAt H d ns sl) (s : Mod S C H H') (st : StOk H S C) : SlipsAt H' d ns sl := by
  obtain ⟨kvs, h1, r⟩ := h
  exact ⟨kvs, s.other st h1 (fun _ z => nomatch z), r⟩
theorem valV_mem {κ : Type} [DecidableEq κ] : ∀ {kvs : List (κ × V)} {k : κ}, k ∈ kvs.map (·.1) → ∃ v, valV kvs k = some v ∧ (k, v) ∈ kvs
  | [], _, h => nomatch h
  | (k0, v0) :: r, k, h => by
    by_cases e : k0 = k
    · subst e
      exact ⟨v0, valV_pos rfl, List.mem_cons_self⟩
    · rw [List.map_cons, List.mem_cons] at h
      rcases h with h | h
      · exact absurd h.symm e
      · obtain ⟨v, h1, h2⟩ := valV_mem h
        exact ⟨v, by rw [valV_neg e]; exact h1, List.mem_cons_of_mem _ h2⟩
theorem valV_none {κ : Type} [DecidableEq κ] : ∀ {kvs : List (κ × V)} {k : κ}, k ∉ kvs.map (·.1) → valV kvs k = none
  | [], _, _ => rfl
  | (k0, v0) :: r, k, h => by
    rw [List.map_cons, List.mem_cons, not_or] at h
    rw [valV_neg (fun e => h.1 e.symm)]
    exact valV_none h.2
theorem merge_new : ∀ (more kvs : List (Key × V)), ((kvs ++ more).map (·.1)).Nodup → mergeK kvs more = kvs ++ more
  | [], kvs, _ => by rw [List.append_nil]; rfl
  | (k, v) :: r, kvs, h => by
    show mergeK (putK kvs k v) r = _
    have hk : k ∉ kvs.map (·.1) := fun hm => by
      rw [List.map_append, List.nodup_append] at h
      exact h.2.2 k hm k (by rw [List.map_cons]; exact List.mem_cons_self) rfl
    have e1 : kvs ++ (k, v) :: r = (kvs ++ [(k, v)]) ++ r := by rw [List.append_assoc]; rfl
    rw [putK_new v (valV_none hk), e1]
    exact merge_new r _ (by rw [← e1]; exact h)
theorem put_old_len {κ : Type} [DecidableEq κ] {kvs : List (κ × V)} {k : κ} {x v : V} (h : valV kvs k = some x) : (putK kvs k v).length = kvs.length ∧ (putK kvs k v).map (·.1) = kvs.map (·.1) := by
  have a : (kvs.any fun kv => decide (kv.1 = k)) = true := by rw [valV_any, h]; rfl
  unfold putK
  rw [if_pos a]
  refine ⟨List.length_map _, ?_⟩
  rw [List.map_map]
  refine List.map_congr_left fun p _ => ?_
  show (if p.1 = k then (p.1, v) else p).1 = p.1
  split <;> rfl
def setSl (sl : Str → Int) (n : Str) (z : Int) : Str → Int := fun x => if x = n then z else sl x
theorem SlipsAt.put {H : Hp} {d : Addr} {ns : List Str} {sl : Str → Int} {kvs : List (Key × V)} {n : Str} {z : Int} (hl : kvs.length = ns.length) (hn : (kvs.map (·.1)).Nodup) (hv : ∀ n ∈ ns, valV kvs (Sum.inr n : Key) = some (.int (sl n))) (hm : n ∈ ns) :
    SlipsAt (upd H d (.dK (putK kvs (Sum.inr n : Key) (.int z)))) d ns (setSl sl n z) := by
  have q := put_old_len (v := .int z) (hv n hm)
  refine ⟨_, upd_same, q.1.trans hl, by rw [q.2]; exact hn, fun m hmm => ?_⟩
  rw [valV_put]
  unfold setSl
  by_cases e : m = n
  · rw [if_pos (congrArg Sum.inr e), if_pos e]
  · rw [if_neg (fun h => e (Sum.inr.inj h)), if_neg e]
    exact hv m hmm
/-! ### rounds -/
def nexts (sl : Str → Int) : Nat → Str → List Str → List Str
  | 0, _, _ => []
  | n + 1, g, row => row.getD (sl g % (row.length : Int)).toNat Str.empty :: nexts sl n (row.getD (sl g % (row.length : Int)).toNat Str.empty) (row.drop ((sl g % (row.length : Int)).toNat + 1) ++ row.take (sl g % (row.length : Int)).toNat)
/-- those behind b, round and round, without b -/
def behind (ns : List Str) (b : Str) : List Str := ns.drop (ns.idxOf b + 1) ++ ns.take (ns.idxOf b)
def orderOf (ns : List Str) (sl : Str → Int) (b : Str) : List Str := b :: nexts sl (ns.length - 1) b (behind ns b)
theorem idx_lt {ns : List Str} {b : Str} (h : b ∈ ns) : ns.idxOf b < ns.length := List.idxOf_lt_length_iff.mpr h
theorem idx_at {ns : List Str} {b : Str} (h : b ∈ ns) : ns[ns.idxOf b]? = some b := by
  rw [List.getElem?_eq_getElem (idx_lt h), List.getElem_idxOf]
theorem idx_first {b : Str} : ∀ {ns : List Str} {m : Nat}, m < ns.idxOf b → ns[m]? ≠ some b
  | [], m, h => by simp at h
  | x :: r, m, h => by
    rw [List.idxOf_cons] at h
    by_cases e : x = b
    · rw [show (x == b) = true from beq_iff_eq.mpr e] at h
      exact absurd h (Nat.not_lt_zero _)
    · rw [show (x == b) = false from beq_eq_false_iff_ne.mpr e] at h
      cases m with
      | zero =>
        intro q
        exact e (Option.some.inj q)
      | succ m =>
        exact idx_first (ns := r) (Nat.lt_of_succ_lt_succ h)
theorem behind_len {ns : List Str} {b : Str} (h : b ∈ ns) : (behind ns b).length = ns.length - 1 := by
  have := idx_lt h
  unfold behind
  rw [List.length_append, List.length_drop, List.length_take]
  omega
/-- at the place that the slip leaves -/
theorem spot {row : List Str} (z : Int) (h : row ≠ []) : ∃ j, z % (row.length : Int) = ((j : Nat) : Int) ∧ j < row.length ∧ (z % (row.length : Int)).toNat = j ∧ row[j]? = some (row.getD j Str.empty) := by
  have hp := List.length_pos_iff.mpr h
  have h0 := Int.emod_nonneg z (show (row.length : Int) ≠ 0 by omega)
  have h1 := Int.emod_lt_of_pos z (show (0 : Int) < (row.length : Int) by omega)
  obtain ⟨j, hj⟩ := Int.eq_ofNat_of_zero_le h0
  refine ⟨j, hj, by omega, by omega, ?_⟩
  rw [List.getD_eq_getElem?_getD, List.getElem?_eq_getElem (by omega)]
  rfl
theorem nexts_step {sl : Str → Int} {n j : Nat} {g : Str} {row : List Str} (hj : (sl g % (row.length : Int)).toNat = j) : nexts sl (n + 1) g row = row.getD j Str.empty :: nexts sl n (row.getD j Str.empty) (row.drop (j + 1) ++ row.take j) := by
  subst hj
  rfl
theorem cut_len {row : List Str} {j : Nat} (h : j < row.length) : (row.drop (j + 1) ++ row.take j).length = row.length - 1 := by
  rw [List.length_append, List.length_drop, List.length_take]
  omega
/-- all of them, from behind x on, x itself last -/
def rot (ns : List Str) (x : Str) : List Str := ns.drop (ns.idxOf x + 1) ++ ns.take (ns.idxOf x + 1)
theorem idx_mid {x : Str} : ∀ {U : List Str} (V : List Str), x ∉ U → (U ++ x :: V).idxOf x = U.length
  | [], V, _ => by rw [List.nil_append, List.idxOf_cons, show (x == x) = true from beq_self_eq_true x]; rfl
  | u :: U, V, h => by
    rw [List.mem_cons, not_or] at h
    rw [List.cons_append, List.idxOf_cons, show (u == x) = false from beq_eq_false_iff_ne.mpr fun e => h.1 e.symm, List.length_cons]
    show (U ++ x :: V).idxOf x + 1 = _
    rw [idx_mid V h.2]
theorem rot_mid {U V : List Str} {x : Str} (h : x ∉ U) : rot (U ++ x :: V) x = V ++ U ++ [x] := by
  unfold rot
  have e : U ++ x :: V = (U ++ [x]) ++ V := by rw [List.append_assoc]; rfl
  have l : U.length + 1 = (U ++ [x]).length := by rw [List.length_append]; rfl
  rw [idx_mid V h, e, l, List.drop_left, List.take_left, List.append_assoc]
theorem behind_mid {U V : List Str} {x : Str} (h : x ∉ U) : behind (U ++ x :: V) x = V ++ U := by
  unfold behind
  have e : U ++ x :: V = (U ++ [x]) ++ V := by rw [List.append_assoc]; rfl
  have l : U.length + 1 = (U ++ [x]).length := by rw [List.length_append]; rfl
  rw [idx_mid V h, List.take_left, e, l, List.drop_left]
theorem nd_mid {U V : List Str} {x : Str} (h : (U ++ x :: V).Nodup) : x ∉ U ∧ x ∉ V := by
  rw [List.nodup_append, List.nodup_cons] at h
  exact ⟨fun hm => h.2.2 x hm x List.mem_cons_self rfl, h.2.1.1⟩
/-- counting on: from behind g to behind x -/
theorem rot_on {ns : List Str} {g x : Str} {A B : List Str} (hn : ns.Nodup) (hg : g ∈ ns) (e : rot ns g = A ++ x :: B) : rot ns x = B ++ A ++ [x] := by
  obtain ⟨U, V, rfl⟩ := List.append_of_mem hg
  obtain ⟨hU, hV⟩ := nd_mid hn
  rw [rot_mid hU] at e
  have hnr : (V ++ U ++ [g]).Nodup := by
    have p : (V ++ U ++ [g]).Perm (U ++ g :: V) := by
      rw [List.append_assoc]
      refine List.perm_append_comm.trans ?_
      rw [List.append_assoc]
      exact .refl _
    exact p.nodup_iff.mpr hn
  have hx : x ∈ V ++ U ++ [g] := by rw [e]; exact List.mem_append_right _ List.mem_cons_self
  have uniq : ∀ {A' B' : List Str}, V ++ U ++ [g] = A' ++ x :: B' → A' = A ∧ B' = B := fun {A' B'} e' => by
    have h1 := nd_mid (e ▸ hnr)
    have h2 := nd_mid (e' ▸ hnr)
    have e2 : A' ++ x :: B' = A ++ x :: B := e'.symm.trans e
    have l : A'.length = A.length := by
      have i1 := idx_mid B' h2.1
      have i2 := idx_mid B h1.1
      rw [← i1, ← i2, e2]
    have := List.append_inj e2 l
    exact ⟨this.1, (List.cons.inj this.2).2⟩
  rw [List.append_assoc, List.mem_append] at hx
  rcases hx with hx | hx
  · obtain ⟨V1, V2, rfl⟩ := List.append_of_mem hx
    obtain ⟨rfl, rfl⟩ := uniq (A' := V1) (B' := V2 ++ U ++ [g]) (by simp)
    have hx1 : x ∉ U ++ g :: V1 := by
      have : (U ++ g :: (V1 ++ x :: V2)) = (U ++ g :: V1) ++ x :: V2 := by simp
      rw [this] at hn
      exact (nd_mid hn).1
    have : U ++ g :: (V1 ++ x :: V2) = (U ++ g :: V1) ++ x :: V2 := by simp
    rw [this, rot_mid hx1]
    simp
  · rw [List.mem_append, List.mem_singleton] at hx
    rcases hx with hx | rfl
    · obtain ⟨U1, U2, rfl⟩ := List.append_of_mem hx
      obtain ⟨rfl, rfl⟩ := uniq (A' := V ++ U1) (B' := U2 ++ [g]) (by simp)
      have this : U1 ++ x :: U2 ++ g :: V = U1 ++ x :: (U2 ++ g :: V) := by simp
      rw [this] at hn ⊢
      rw [rot_mid (nd_mid hn).1]
      simp
    · obtain ⟨rfl, rfl⟩ := uniq (A' := V ++ U) (B' := []) rfl
      rw [rot_mid hU]
      simp
/-- who still sits, listed from behind the latest goer: the shrinking row -/
def sitting (ns goers : List Str) (g : Str) : List Str := (rot ns g).filter fun x => !decide (x ∈ goers)
theorem sitting_first {ns : List Str} {b : Str} (hn : ns.Nodup) (hb : b ∈ ns) : sitting ns [b] b = behind ns b := by
  obtain ⟨U, V, rfl⟩ := List.append_of_mem hb
  obtain ⟨hU, hV⟩ := nd_mid hn
  unfold sitting
  rw [rot_mid hU, behind_mid hU, List.filter_append, List.filter_eq_self.mpr]
  · simp
  · intro x hx
    have : x ≠ b := fun e => by
      rw [e] at hx
      rcases List.mem_append.mp hx with hx | hx
      · exact hV hx
      · exact hU hx
    simp [this]
theorem sitting_next {ns goers : List Str} {g : Str} {j : Nat} (hn : ns.Nodup) (hg : g ∈ ns) (hj : j < (sitting ns goers g).length) :
    sitting ns (goers ++ [(sitting ns goers g).getD j Str.empty]) ((sitting ns goers g).getD j Str.empty) = (sitting ns goers g).drop (j + 1) ++ (sitting ns goers g).take j ∧ (sitting ns goers g).getD j Str.empty ∈ ns := by
  generalize hx : (sitting ns goers g).getD j Str.empty = x
  have hget : (sitting ns goers g)[j]? = some x := by
    rw [← hx, List.getD_eq_getElem?_getD, List.getElem?_eq_getElem hj]
    rfl
  have hsplit : sitting ns goers g = (sitting ns goers g).take j ++ x :: (sitting ns goers g).drop (j + 1) := by
    have e1 := List.getElem_of_getElem? hget
    obtain ⟨h1, e1⟩ := e1
    rw [← e1, List.getElem_cons_drop, List.take_append_drop]
  unfold sitting at hsplit ⊢
  obtain ⟨A, B, eAB, eA, eB⟩ : ∃ A B, rot ns g = A ++ x :: B ∧ A.filter (fun y => !decide (y ∈ goers)) = ((rot ns g).filter fun y => !decide (y ∈ goers)).take j ∧ B.filter (fun y => !decide (y ∈ goers)) = ((rot ns g).filter fun y => !decide (y ∈ goers)).drop (j + 1) := by
    obtain ⟨A, R, e1, e2, e3⟩ := List.filter_eq_append_iff.mp hsplit
    obtain ⟨A1, B1, f1, f2, f3, f4⟩ := List.filter_eq_cons_iff.mp e3
    refine ⟨A ++ A1, B1, by rw [e1, f1, List.append_assoc], ?_, f4⟩
    rw [List.filter_append, e2, List.filter_eq_nil_iff.mpr f2, List.append_nil]
  have hr := rot_on hn hg eAB
  have hxn : x ∈ ns := by
    obtain ⟨U, V, rfl⟩ := List.append_of_mem hg
    obtain ⟨hU, hV⟩ := nd_mid hn
    rw [rot_mid hU] at eAB
    have : x ∈ V ++ U ++ [g] := by rw [eAB]; exact List.mem_append_right _ List.mem_cons_self
    simp only [List.mem_append, List.mem_singleton, List.mem_cons, List.not_mem_nil, or_false] at this ⊢
    rcases this with (h | h) | h
    · exact .inr (.inr h)
    · exact .inl h
    · exact .inr (.inl h)
  have hnd : (A ++ x :: B).Nodup := by
    rw [← eAB]
    obtain ⟨U, V, rfl⟩ := List.append_of_mem hg
    obtain ⟨hU, hV⟩ := nd_mid hn
    rw [rot_mid hU]
    have p : (V ++ U ++ [g]).Perm (U ++ g :: V) := by
      rw [List.append_assoc]
      refine List.perm_append_comm.trans ?_
      rw [List.append_assoc]
      exact .refl _
    exact p.nodup_iff.mpr hn
  obtain ⟨hA, hB⟩ := nd_mid hnd
  refine ⟨?_, hxn⟩
  rw [hr, List.filter_append, List.filter_append, ← eA, ← eB]
  have drop1 : ∀ L : List Str, x ∉ L → L.filter (fun y => !decide (y ∈ goers ++ [x])) = L.filter fun y => !decide (y ∈ goers) := fun L hL => by
    refine List.filter_congr fun y hy => ?_
    have : y ≠ x := fun e => hL (e ▸ hy)
    simp [this]
  rw [drop1 B hB, drop1 A hA]
  simp
end GL
namespace GL
open PySem PySem.Spec PyProof.Rows L2
theorem Paired.mapF {α β : Type} {F G : α → β → Prop} (h : ∀ a b, F a b → G a b) : ∀ {xs : List α} {ys : List β}, Paired F xs ys → Paired G xs ys
  | _, _, .nil => .nil
  | _, _, .cons a r => .cons (h _ _ a) (Paired.mapF h r)
def slOf (kvs : List (Key × V)) (n : Str) : Int := match valV kvs (Sum.inr n : Key) with
  | some (.int z) => z
  | _ => 0
def spSlips : Sp := fun vs H Q _ => ∃ (S C a : Addr) (ns : List Str), vs = [.ref S, .ref a] ∧ StOk H S C ∧ H a = some (.lst (ns.map V.str)) ∧ ns.length ≤ 100 ∧ ns.Nodup ∧ (∀ y ∈ ns, PyData.strOk y = true) ∧
  ∀ H' d sl, Mod S C H H' → StOk H' S C → H d = none → SlipsAt H' d ns sl → (∀ n ∈ ns, Int.natAbs (sl n) < 10 ^ 58) → Q (.ref d) H'
def spOrder : Sp := fun vs H Q _ => ∃ (a d : Addr) (ns : List Str) (sl : Str → Int) (b : Str), vs = [.ref a, .ref d, .str b] ∧ H a = some (.lst (ns.map V.str)) ∧ SlipsAt H d ns sl ∧ ns.length ≤ 100 ∧ ns.Nodup ∧ (∀ y ∈ ns, PyData.strOk y = true) ∧ b ∈ ns ∧
  ∀ H' t, Same H H' → H t = none → H' t = some (.tup ((orderOf ns sl b).map V.str)) → Q (.ref t) H'
theorem cut_drop_s (ns : List Str) (j : Nat) : cutV (ns.map V.str) (some ((j : Int) + 1)) none = (ns.drop (j + 1)).map V.str := by
  rw [show (some ((j : Int) + 1)) = some ((j + 1 : Nat) : Int) from rfl, cut_drop, List.map_drop]
theorem cut_take_s (ns : List Str) (j : Nat) : cutV (ns.map V.str) none (some (j : Int)) = (ns.take j).map V.str := by
  rw [cut_take, List.map_take]
theorem last_s (found : List Str) (g : Str) : atI ((found ++ [g]).map V.str) (-1) = some (.str g) := by
  rw [List.map_append]
  exact atI_last _ _
theorem len_s {ns : List Str} (h : ns.length ≤ 1000) : (ns.map V.str).length ≤ sizeLine := by
  rw [List.length_map]
  exact small_sz (by omega)
/-! ### rings -/
structure GoodNs (ns : List Str) : Prop where
  two : 2 ≤ ns.length
  twelve : ns.length ≤ 12
  nd : ns.Nodup
  ok : ∀ y ∈ ns, NameOk y
theorem GoodNs.str {ns : List Str} (g : GoodNs ns) : ∀ y ∈ ns, PyData.strOk y = true := fun y hy => (g.ok y hy).str
/-- the attributes as __init__ stores them -/
def rflds (nl sd : Addr) : List (Str × V) := putF "_slips" (.ref sd) (putF "_names" (.ref nl) [])
theorem rk : ¬ (("_names" : Str) = "_slips") := by decide +kernel
theorem rflds_names (nl sd : Addr) : (rflds nl sd).lookup ("_names" : Str) = some (.ref nl) := by
  unfold rflds
  rw [lookup_putF, if_neg rk, lookup_putF, if_pos rfl]
theorem rflds_slips (nl sd : Addr) : (rflds nl sd).lookup ("_slips" : Str) = some (.ref sd) := by
  unfold rflds
  rw [lookup_putF, if_pos rfl]
theorem rflds_no (nl sd : Addr) {m : Str} (h1 : ¬ m = "_names") (h2 : ¬ m = "_slips") : (rflds nl sd).lookup m = none := by
  unfold rflds
  rw [lookup_putF, if_neg h2, lookup_putF, if_neg h1]
  all_goals rfl
structure RingAt (aR : Addr) (H : Hp) (p : Addr) (ns : List Str) (sl : Str → Int) : Prop where
  ex : ∃ dx nl sd, H p = some (.ins aR dx (rflds nl sd)) ∧ H nl = some (.lst (ns.map V.str)) ∧ SlipsAt H sd ns sl
  good : GoodNs ns
theorem RingAt.same {aR p : Addr} {H H' : Hp} {ns : List Str} {sl : Str → Int} (h : RingAt aR H p ns sl) (s : Same H H') : RingAt aR H' p ns sl := by
  obtain ⟨⟨dx, nl, sd, h1, h2, h3⟩, g⟩ := h
  exact ⟨⟨dx, nl, sd, s _ _ h1, s _ _ h2, h3.same s⟩, g⟩
theorem RingAt.mod {aR p S C : Addr} {H H' : Hp} {ns : List Str} {sl : Str → Int} (h : RingAt aR H p ns sl) (s : Mod S C H H') (st : StOk H S C) : RingAt aR H' p ns sl := by
  obtain ⟨⟨dx, nl, sd, h1, h2, h3⟩, g⟩ := h
  exact ⟨⟨dx, nl, sd, s.other st h1 (fun _ z => nomatch z), s.strs st h2, h3.mod s st⟩, g⟩
def spIsName : Sp := fun vs H Q _ => ∃ z : Str, vs = [.str z] ∧ NameOk z ∧ ∀ H', Same H H' → Q (.bl true) H'
def spIsNumber : Sp := fun vs H Q _ => ∃ z : Int, vs = [.int z] ∧ Q (.bl true) H
/-- a list, or a tuple whose object is known -/
def SqAt (b : Bool) (H : Hp) (a : Addr) (xs : List V) : Prop := match b with
  | true => TupF H a xs
  | false => H a = some (.lst xs)
theorem SqAt.same {b : Bool} {H H' : Hp} {a : Addr} {xs : List V} (h : SqAt b H a xs) (s : Same H H') : SqAt b H' a xs := match b, h with
  | true, h => TupF.same h s
  | false, h => s _ _ h
theorem SqAt.seq {K : PySem.W.Frag} {b : Bool} {H : Hp} {a : Addr} {xs : List V} (h : SqAt b H a xs) : SqL K H a xs ∨ SqT K H a xs := match b, h with
  | true, h => .inr (TupF.sq h)
  | false, h => .inl (SqL.of h)
theorem SqAt.l {K : PySem.W.Frag} {H : Hp} {a : Addr} {xs : List V} (h : SqAt false H a xs) : SqL K H a xs := SqL.of (show H a = some (.lst xs) from h)
theorem SqAt.t {K : PySem.W.Frag} {H : Hp} {a : Addr} {xs : List V} (h : SqAt true H a xs) : SqT K H a xs := TupF.sq h
theorem SqAt.tyl {K : PySem.W.Frag} {H : Hp} {a : Addr} {xs : List V} (h : SqAt false H a xs) : TyX K H (.ref a) (.type "list") := .base (.lst (show H a = some (.lst xs) from h))
theorem SqAt.tyt {K : PySem.W.Frag} {H : Hp} {a : Addr} {xs : List V} (h : SqAt true H a xs) : TyX K H (.ref a) (.type "tuple") := let ⟨_, _, e⟩ := h; .fTuple e
/-- a list or a tuple, to be read -/
def SeqR (H : Hp) (a : Addr) (xs : List V) : Prop := H a = some (.lst xs) ∨ H a = some (.tup xs) ∨ TupF H a xs
theorem SeqR.same {H H' : Hp} {a : Addr} {xs : List V} (h : SeqR H a xs) (s : Same H H') : SeqR H' a xs := h.imp (s _ _ ·) (Or.imp (s _ _ ·) (·.same s))
theorem SeqR.seq {K : PySem.W.Frag} {H : Hp} {a : Addr} {xs : List V} (h : SeqR H a xs) : SqL K H a xs ∨ SqT K H a xs := h.imp SqL.of (·.elim SqT.of TupF.sq)
theorem SqAt.rd {b : Bool} {H : Hp} {a : Addr} {xs : List V} (h : SqAt b H a xs) : SeqR H a xs := match b, h with
  | true, h => .inr (.inr h)
  | false, h => .inl h
theorem TupF.mod {S C p : Addr} {H H' : Hp} {xs : List V} (m : TupF H p xs) (s : Mod S C H H') (st : StOk H S C) : TupF H' p xs := let ⟨o, d, e⟩ := m; ⟨o, d, s.other st e (fun _ z => nomatch z)⟩
theorem slF {K : PySem.W.Frag} {H : Hp} {a : Addr} {xs : List V} {lo hi : Option Int} {Q : VK} (ha : TupF H a xs) (q : ∀ H' p, Same H H' → TupF H' p (cutV xs lo hi) → Q (.ref p) H') : rSlF K (.ref a) lo hi H Q := by
  refine ⟨a, xs, rfl, ha.sq, fun ⟨h1, h2⟩ => q H a (fun _ _ h => h) ?_, fun _ p o np e => q _ p (same_new np) ⟨o, e, upd_same⟩⟩
  unfold cutV
  rw [h1, h2, List.drop_zero, Nat.sub_zero, List.take_length]
  exact ha
theorem slF' {K : PySem.W.Frag} {H : Hp} {a : Addr} {xs : List V} {lo hi : Option Int} {Q : VK} (ha : SqT K H a xs) (hw : ¬ (HT.sIx xs.length 0 lo = 0 ∧ HT.sIx xs.length xs.length hi = xs.length)) (q : ∀ H' p, Same H H' → H p = none → TupF H' p (cutV xs lo hi) → Q (.ref p) H') : rSlF K (.ref a) lo hi H Q :=
  ⟨a, xs, rfl, ha, fun e => absurd e hw, fun _ p o np e => q _ p (same_new np) np ⟨o, e, upd_same⟩⟩
theorem slA {K : PySem.W.Frag} {H : Hp} {a : Addr} {xs : List V} {lo hi : Option Int} {Q : VK} (ha : H a = some (.tup xs)) (q : ∀ H' p, Same H H' → H' p = some (.tup (cutV xs lo hi)) → Q (.ref p) H') : rSlA K (.ref a) lo hi H Q := by
  refine ⟨a, xs, rfl, SqT.of ha, fun ⟨h1, h2⟩ => q H a (fun _ _ h => h) ?_, fun _ p np => q _ p (same_new np) upd_same⟩
  rw [ha]
  unfold cutV
  rw [h1, h2, List.drop_zero, Nat.sub_zero, List.take_length]
theorem catA {K : PySem.W.Frag} {H : Hp} {a b : Addr} {xs ys : List V} {Q : VK} (ha : H a = some (.tup xs)) (hb : H b = some (.tup ys)) (hl : xs.length + ys.length ≤ sizeLine) (q : ∀ H' p, Same H H' → H' p = some (.tup (xs ++ ys)) → Q (.ref p) H') : rCatA K (.ref a) (.ref b) H Q := by
  refine ⟨a, b, xs, ys, rfl, rfl, SqT.of ha, SqT.of hb, hl, fun e => q H b (fun _ _ h => h) ?_, fun _ e => q H a (fun _ _ h => h) ?_, fun _ _ p np => q _ p (same_new np) upd_same⟩
  · rw [hb, e]; rfl
  · rw [ha, e, List.append_nil]
theorem catF {K : PySem.W.Frag} {H : Hp} {a b : Addr} {xs ys : List V} {Q : VK} (ha : TupF H a xs) (hb : TupF H b ys) (hl : xs.length + ys.length ≤ sizeLine) (q : ∀ H' p, Same H H' → TupF H' p (xs ++ ys) → Q (.ref p) H') : rCatF K (.ref a) (.ref b) H Q := by
  refine ⟨a, b, xs, ys, rfl, rfl, ha.sq, hb.sq, hl, fun e => q H b (fun _ _ h => h) ?_, fun _ e => q H a (fun _ _ h => h) ?_, fun _ _ p o np d => q _ p (same_new np) ⟨o, d, upd_same⟩⟩
  · rw [e]; exact hb
  · rw [e, List.append_nil]; exact ha
theorem ixSeq {K : PySem.W.Frag} {H : Hp} {a : Addr} {xs : List V} {i : Int} {v : V} {Q : VK} (ha : SeqR H a xs) (e : atI xs i = some v) (q : Q v H) : rIx K (.ref a) (.int i) H Q :=
  (ha.seq (K := K)).elim (fun h => .inl ⟨a, xs, i, v, rfl, rfl, h, e, q⟩) (fun h => .inr (.inl ⟨a, xs, i, v, rfl, rfl, h, e, q⟩))
def spIsNames : Sp := fun vs H Q _ => ∃ (c : Bool) (a : Addr) (ns : List Str), vs = [.ref a] ∧ SqAt c H a (ns.map V.str) ∧ GoodNs ns ∧ ∀ H', Same H H' → Q (.bl true) H'
def spChkNames : Sp := fun vs H Q _ => ∃ (c : Bool) (a : Addr) (ns : List Str), vs = [.ref a] ∧ SqAt c H a (ns.map V.str) ∧ GoodNs ns ∧ ∀ H', Same H H' → Q .non H'
def spChkName : Sp := fun vs H Q _ => ∃ (c : Bool) (a : Addr) (ns : List Str) (x : Str), vs = [.ref a, .str x] ∧ SqAt c H a (ns.map V.str) ∧ x ∈ ns ∧ Q .non H
def spIsSlips : Sp := fun vs H Q _ => ∃ (a d : Addr) (ns : List Str) (sl : Str → Int), vs = [.ref a, .ref d] ∧ H a = some (.lst (ns.map V.str)) ∧ SlipsAt H d ns sl ∧ ns.length ≤ 100 ∧ ∀ H', Same H H' → Q (.bl true) H'
def spBehind : Sp := fun vs H Q _ => ∃ (c : Bool) (a : Addr) (ns : List Str) (x : Str), vs = [.ref a, .str x] ∧ SqAt c H a (ns.map V.str) ∧ ns.length ≤ 100 ∧ x ∈ ns ∧ ∀ H' p, Same H H' → SqAt c H' p ((rot ns x).map V.str) → Q (.ref p) H'
def spSit : Sp := fun vs H Q _ => ∃ (c : Bool) (a g : Addr) (ns found : List Str) (x : Str), vs = [.ref a, .ref g] ∧ SqAt c H a (ns.map V.str) ∧ SeqR H g ((found ++ [x]).map V.str) ∧ ns.length ≤ 100 ∧ x ∈ ns ∧
  ∀ H' p, Same H H' → H p = none → H' p = some (.lst ((sitting ns (found ++ [x]) x).map V.str)) → Q (.ref p) H'
def spInit (aR : Addr) : Sp := fun vs H Q _ => ∃ (p dx a d : Addr) (ns : List Str) (sl : Str → Int), vs = [.ref p, .ref a, .ref d] ∧ H p = some (.ins aR dx []) ∧ H a = some (.lst (ns.map V.str)) ∧ SlipsAt H d ns sl ∧ GoodNs ns ∧
  ∀ H', (∀ b o, H b = some o → b ≠ p → H' b = some o) → RingAt aR H' p ns sl → Q .non H'
def spCounted (aR : Addr) : Sp := fun vs H Q _ => ∃ (p r : Addr) (ns row : List Str) (sl : Str → Int) (g : Str), vs = [.ref p, .str g, .ref r] ∧ RingAt aR H p ns sl ∧ g ∈ ns ∧ H r = some (.lst (row.map V.str)) ∧ row ≠ [] ∧ row.length ≤ 100 ∧
  Q (.str (row.getD (sl g % (row.length : Int)).toNat Str.empty)) H
def spROrder (aR : Addr) : Sp := fun vs H Q _ => ∃ (p : Addr) (ns : List Str) (sl : Str → Int) (b : Str), vs = [.ref p, .str b] ∧ RingAt aR H p ns sl ∧ b ∈ ns ∧ ∀ H' t, Same H H' → H t = none → H' t = some (.tup ((orderOf ns sl b).map V.str)) → Q (.ref t) H'
def spWith (aR : Addr) : Sp := fun vs H Q _ => ∃ (p : Addr) (ns : List Str) (sl : Str → Int) (n : Str) (z : Int), vs = [.ref p, .str n, .int z] ∧ RingAt aR H p ns sl ∧ n ∈ ns ∧ ∀ H' q, Same H H' → H q = none → RingAt aR H' q ns (setSl sl n z) → Q (.ref q) H'
theorem rot_len {ns : List Str} {x : Str} : (rot ns x).length = ns.length := by
  unfold rot
  rw [List.length_append, List.length_drop, List.length_take]
  omega
theorem sitting_len {ns goers : List Str} {x : Str} : (sitting ns goers x).length ≤ ns.length := by
  unfold sitting
  exact Nat.le_trans (List.length_filter_le _ _) (Nat.le_of_eq rot_len)
theorem all_true {α : Type} (f : α → Bool) : ∀ xs : List α, (∀ x ∈ xs, f x = true) → (xs.map f).all id = true
  | [], _ => rfl
  | x :: r, h => by
    rw [List.map_cons, List.all_cons, h x List.mem_cons_self, all_true f r fun y hy => h y (List.mem_cons_of_mem _ hy)]
    rfl
theorem all_rep (n : Nat) : (List.replicate n true).all id = true := by
  rw [List.all_eq_true]
  intro x hx
  exact List.eq_of_mem_replicate hx
theorem nexts_mem {sl : Str → Int} : ∀ (n : Nat) (g : Str) (row : List Str), row.length = n → ∀ y ∈ nexts sl n g row, y ∈ row
  | 0, _, _, _, y, h => nomatch h
  | n + 1, g, row, hl, y, h => by
    have hne : row ≠ [] := fun e => by rw [e] at hl; cases hl
    obtain ⟨j, ej, hj, hjn, hget⟩ := spot (sl g) hne
    rw [nexts_step hjn] at h
    rcases List.mem_cons.mp h with rfl | h
    · exact List.mem_of_getElem? hget
    · have := nexts_mem n _ _ (by rw [cut_len hj]; omega) y h
      rcases List.mem_append.mp this with h | h
      · exact List.mem_of_mem_drop h
      · exact List.mem_of_mem_take h
theorem order_mem {ns : List Str} {sl : Str → Int} {b : Str} (hb : b ∈ ns) : ∀ y ∈ orderOf ns sl b, y ∈ ns := fun y hy => by
  rcases List.mem_cons.mp hy with rfl | hy
  · exact hb
  · have := nexts_mem _ b (behind ns b) (behind_len hb) y hy
    unfold behind at this
    rcases List.mem_append.mp this with h | h
    · exact List.mem_of_mem_drop h
    · exact List.mem_of_mem_take h
theorem GoodNs.ostr {ns : List Str} (g : GoodNs ns) {sl : Str → Int} {b : Str} (hb : b ∈ ns) : ∀ y ∈ orderOf ns sl b, PyData.strOk y = true := fun y hy => g.str y (order_mem hb y hy)
theorem RingAt.noM {aR p : Addr} {H : Hp} {ns : List Str} {sl : Str → Int} (h : RingAt aR H p ns sl) {m : Str} (h1 : ¬ m = "_names") (h2 : ¬ m = "_slips") : ∃ dx fs, H p = some (.ins aR dx fs) ∧ fs.lookup m = none := by
  obtain ⟨⟨dx, nl, sd, e, _⟩, _⟩ := h
  exact ⟨dx, _, e, rflds_no nl sd h1 h2⟩
end GL
/-! Who begins next; sorted lists of names. -/
namespace GL
open PySem PySem.Spec PyProof.Rows L2
def leS (a b : Str) : Prop := ltCps b.cps.toList a.cps.toList = false
theorem leS_iff {a b : Str} : leS a b ↔ a.cps.toList ≤ b.cps.toList := by
  unfold leS
  rw [ltCps_eq, decide_eq_false_iff_not, List.not_lt]
theorem str_ext {a b : Str} (h : a.cps.toList = b.cps.toList) : a = b := by
  cases a
  cases b
  exact congrArg Str.mk (Array.ext' h)
theorem rising_pair : ∀ (p : Str) (l : List Str), risingS p l = true → (p :: l).Pairwise leS
  | p, [], _ => List.pairwise_cons.mpr ⟨(fun _ h => nomatch h), List.Pairwise.nil⟩
  | p, x :: r, h => by
    have h' : (!ltCps x.cps.toList p.cps.toList && risingS x r) = true := h
    rw [Bool.and_eq_true, Bool.not_eq_true'] at h'
    have ih := rising_pair x r h'.2
    refine List.pairwise_cons.mpr ⟨fun y hy => ?_, ih⟩
    have px : leS p x := h'.1
    rcases List.mem_cons.mp hy with rfl | hy
    · exact px
    · have xy := (List.pairwise_cons.mp ih).1 y hy
      rw [leS_iff] at *
      exact List.le_trans px xy
theorem sorted_pair {l : List Str} (h : sortedS l = true) : l.Pairwise leS := by
  cases l with
  | nil => exact List.Pairwise.nil
  | cons x r => exact rising_pair x r h
theorem sorted_one {l m : List Str} (h1 : sortedS l = true) (h2 : sortedS m = true) (p : l.Perm m) : l = m :=
  List.Perm.eq_of_pairwise (le := leS) (fun a b _ _ x y => str_ext (List.le_antisymm (leS_iff.mp x) (leS_iff.mp y))) (sorted_pair h1) (sorted_pair h2) p
/-! ### the last one, and who begins next -/
theorem nexts_perm {sl : Str → Int} : ∀ (n : Nat) (g : Str) (row : List Str), row.length = n → (nexts sl n g row).Perm row
  | 0, g, row, h => by rw [List.eq_nil_of_length_eq_zero h]; exact .refl _
  | n + 1, g, row, h => by
    have hne : row ≠ [] := fun e => by rw [e] at h; cases h
    obtain ⟨j, ej, hj, hjn, hget⟩ := spot (sl g) hne
    rw [nexts_step hjn]
    have ih := nexts_perm (sl := sl) n (row.getD j Str.empty) (row.drop (j + 1) ++ row.take j) (by rw [cut_len hj]; omega)
    have e : row = row.take j ++ row.getD j Str.empty :: row.drop (j + 1) := by
      obtain ⟨h1, e1⟩ := List.getElem?_eq_some_iff.mp hget
      rw [← e1, List.getElem_cons_drop, List.take_append_drop]
    refine (ih.cons _).trans ?_
    refine ((List.perm_append_comm.cons _)).trans ?_
    refine List.perm_middle.symm.trans ?_
    rw [← e]
theorem behind_perm {ns : List Str} {b : Str} (hb : b ∈ ns) : (b :: behind ns b).Perm ns := by
  have e : ns = ns.take (ns.idxOf b) ++ b :: ns.drop (ns.idxOf b + 1) := by
    have h1 := idx_lt hb
    have h2 : ns[ns.idxOf b] = b := List.getElem_idxOf h1
    conv => rhs; rw [← h2]
    rw [h2, show b :: ns.drop (ns.idxOf b + 1) = ns.drop (ns.idxOf b) by rw [← List.getElem_cons_drop h1, h2], List.take_append_drop]
  unfold behind
  refine (List.perm_append_comm.cons _).trans ?_
  refine List.perm_middle.symm.trans ?_
  rw [← e]
theorem order_perm {ns : List Str} {sl : Str → Int} {b : Str} (hb : b ∈ ns) : (orderOf ns sl b).Perm ns :=
  ((nexts_perm _ b (behind ns b) (behind_len hb)).cons b).trans (behind_perm hb)
def lastOf (ns : List Str) (sl : Str → Int) (b : Str) : Str := (orderOf ns sl b).getLast (List.cons_ne_nil _ _)
theorem order_split (ns : List Str) (sl : Str → Int) (b : Str) : (orderOf ns sl b).dropLast ++ [lastOf ns sl b] = orderOf ns sl b := List.dropLast_concat_getLast _
theorem order_last (ns : List Str) (sl : Str → Int) (b : Str) : atI ((orderOf ns sl b).map V.str) (-1) = some (.str (lastOf ns sl b)) := by
  rw [← order_split]
  exact last_s _ _
theorem last_mem {ns : List Str} {sl : Str → Int} {b : Str} (hb : b ∈ ns) : lastOf ns sl b ∈ ns := order_mem hb _ (List.getLast_mem _)
def ledOf (ns : List Str) (x : Str) (z : Int) : Str := (rot ns x).getD (z % (ns.length : Int)).toNat Str.empty
def nextOf (ns : List Str) (sl : Str → Int) (b : Str) : Str := ledOf ns (lastOf ns sl b) (sl (lastOf ns sl b))
theorem nexts_off {sl sl' : Str → Int} {x : Str} (hs : ∀ y, y ≠ x → sl' y = sl y) : ∀ (n : Nat) (g : Str) (row : List Str), x ∉ (g :: nexts sl n g row).dropLast → nexts sl' n g row = nexts sl n g row
  | 0, g, row, _ => rfl
  | n + 1, g, row, h => by
    have e : nexts sl (n + 1) g row = row.getD (sl g % (row.length : Int)).toNat Str.empty :: nexts sl n (row.getD (sl g % (row.length : Int)).toNat Str.empty) (row.drop ((sl g % (row.length : Int)).toNat + 1) ++ row.take (sl g % (row.length : Int)).toNat) := rfl
    rw [e, List.dropLast_cons₂, List.mem_cons, not_or] at h
    have hg := hs g (fun z => h.1 z.symm)
    rw [e, nexts_step (sl := sl') (j := (sl g % (row.length : Int)).toNat) (by rw [hg]), nexts_off hs n _ _ h.2]
theorem order_off {ns : List Str} {sl sl' : Str → Int} {b : Str} (hn : ns.Nodup) (hb : b ∈ ns) (hs : ∀ y, y ≠ lastOf ns sl b → sl' y = sl y) : orderOf ns sl' b = orderOf ns sl b := by
  have nd : (orderOf ns sl b).Nodup := (order_perm hb).nodup_iff.mpr hn
  rw [← order_split, List.nodup_append] at nd
  have : lastOf ns sl b ∉ (orderOf ns sl b).dropLast := fun h => nd.2.2 _ h _ (List.mem_singleton.mpr rfl) rfl
  unfold orderOf at this ⊢
  rw [nexts_off hs _ _ _ this]
theorem last_off {ns : List Str} {sl sl' : Str → Int} {b : Str} (hn : ns.Nodup) (hb : b ∈ ns) (hs : ∀ y, y ≠ lastOf ns sl b → sl' y = sl y) : lastOf ns sl' b = lastOf ns sl b := by
  unfold lastOf
  have e := order_off hn hb hs
  simp only [e]
theorem setSl_off {sl : Str → Int} {x : Str} {z : Int} : ∀ y, y ≠ x → setSl sl x z y = sl y := fun y h => if_neg h
theorem setSl_at {sl : Str → Int} {x : Str} {z : Int} : setSl sl x z x = z := if_pos rfl
theorem next_set {ns : List Str} {sl : Str → Int} {b : Str} {z : Int} (hn : ns.Nodup) (hb : b ∈ ns) : nextOf ns (setSl sl (lastOf ns sl b) z) b = ledOf ns (lastOf ns sl b) z := by
  unfold nextOf
  rw [last_off hn hb setSl_off, setSl_at]
theorem rot_at {ns : List Str} {x : Str} {j : Nat} (hx : x ∈ ns) (hj : j < ns.length) : (rot ns x)[j]? = ns[(ns.idxOf x + 1 + j) % ns.length]? := by
  have hi := idx_lt hx
  unfold rot
  by_cases h : j < ns.length - (ns.idxOf x + 1)
  · rw [List.getElem?_append_left (by rw [List.length_drop]; exact h), List.getElem?_drop, Nat.mod_eq_of_lt (by omega)]
  · rw [List.getElem?_append_right (by rw [List.length_drop]; omega), List.length_drop, List.getElem?_take, if_pos (by omega)]
    have : (ns.idxOf x + 1 + j) % ns.length = ns.idxOf x + 1 + j - ns.length := by
      rw [Nat.mod_eq_sub_mod (by omega), Nat.mod_eq_of_lt (by omega)]
    rw [this]
    congr 1
    omega
theorem led_at {ns : List Str} {x : Str} {z : Int} (hx : x ∈ ns) : ∃ k : Nat, z % (ns.length : Int) = (k : Int) ∧ k < ns.length ∧ ns[(ns.idxOf x + 1 + k) % ns.length]? = some (ledOf ns x z) := by
  have hi := idx_lt hx
  have h0 := Int.emod_nonneg z (show (ns.length : Int) ≠ 0 by omega)
  have h1 := Int.emod_lt_of_pos z (show (0 : Int) < (ns.length : Int) by omega)
  obtain ⟨k, hk⟩ := Int.eq_ofNat_of_zero_le h0
  refine ⟨k, hk, by omega, ?_⟩
  unfold ledOf
  rw [← rot_at hx (by omega), hk, Int.toNat_natCast, List.getD_eq_getElem?_getD, List.getElem?_eq_getElem (by rw [rot_len]; omega)]
  rfl
theorem led_range {ns : List Str} {x : Str} (hx : x ∈ ns) : ((List.range ns.length).map fun k => ledOf ns x ((k : Nat) : Int)) = rot ns x := by
  have hi := idx_lt hx
  refine List.ext_getElem? fun i => ?_
  by_cases h : i < ns.length
  · rw [List.getElem?_map, List.getElem?_range h]
    show some (ledOf ns x (i : Int)) = _
    unfold ledOf
    rw [Int.emod_eq_of_lt (by omega) (by omega), Int.toNat_natCast, List.getD_eq_getElem?_getD, List.getElem?_eq_getElem (by rw [rot_len]; exact h)]
    rfl
  · rw [List.getElem?_eq_none (by rw [List.length_map, List.length_range]; omega), List.getElem?_eq_none (by rw [rot_len]; omega)]
theorem rot_perm {ns : List Str} {x : Str} : (rot ns x).Perm ns := by
  unfold rot
  refine List.perm_append_comm.trans ?_
  rw [List.take_append_drop]
theorem rot_last {ns : List Str} {x : Str} (hx : x ∈ ns) : ∃ A, rot ns x = A ++ [x] := by
  refine ⟨ns.drop (ns.idxOf x + 1) ++ ns.take (ns.idxOf x), ?_⟩
  unfold rot
  rw [take_snoc (idx_at hx), List.append_assoc]
theorem led_mem {ns : List Str} {x : Str} {z : Int} (hx : x ∈ ns) : ledOf ns x z ∈ ns := by
  obtain ⟨k, _, _, h⟩ := led_at (z := z) hx
  exact List.mem_of_getElem? h
theorem next_mem {ns : List Str} {sl : Str → Int} {b : Str} (hb : b ∈ ns) : nextOf ns sl b ∈ ns := led_mem (last_mem hb)
/-! ### promises -/
def spNext (aR : Addr) : Sp := fun vs H Q _ => ∃ (p : Addr) (ns : List Str) (sl : Str → Int) (b : Str), vs = [.ref p, .str b] ∧ RingAt aR H p ns sl ∧ b ∈ ns ∧ ∀ H', Same H H' → Q (.str (nextOf ns sl b)) H'
def spSlipOf (aR : Addr) : Sp := fun vs H Q _ => ∃ (p : Addr) (ns : List Str) (sl : Str → Int) (b : Str), vs = [.ref p, .str b] ∧ RingAt aR H p ns sl ∧ b ∈ ns ∧ Q (.int (sl b)) H
def spSlipsOf (aR : Addr) : Sp := fun vs H Q _ => ∃ (p : Addr) (ns : List Str) (sl : Str → Int), vs = [.ref p] ∧ RingAt aR H p ns sl ∧ ∀ H' d, Same H H' → H d = none → SlipsAt H' d ns sl → Q (.ref d) H'
def spLed : Sp := fun vs H Q _ => ∃ (a : Addr) (ns : List Str) (x : Str) (z : Int), vs = [.ref a, .str x, .int z] ∧ H a = some (.lst (ns.map V.str)) ∧ ns.length ≤ 100 ∧ x ∈ ns ∧ Q (.str (ledOf ns x z)) H
end GL
/-! Orders and places: who sits, who goes at which place, the row of places, one to one. -/
namespace GL
open PySem PySem.Spec PyProof.Rows L2
theorem rotP_perm (ns : List Str) (x : Str) : (rot ns x).Perm ns := by
  unfold rot
  refine List.perm_append_comm.trans ?_
  rw [List.take_append_drop]
theorem sit_mem {ns found : List Str} {g y : Str} : y ∈ sitting ns found g ↔ y ∈ ns ∧ y ∉ found := by
  unfold sitting
  rw [List.mem_filter, (rotP_perm ns g).mem_iff]
  simp
theorem sit_nd {ns found : List Str} {g : Str} (hn : ns.Nodup) : (sitting ns found g).Nodup := by
  unfold sitting
  exact ((rotP_perm ns g).nodup_iff.mpr hn).filter _
theorem filt_len {L : List Str} (hn : L.Nodup) : ∀ {found : List Str}, found.Nodup → (∀ y ∈ found, y ∈ L) → (L.filter fun x => !decide (x ∈ found)).length + found.length = L.length
  | [], _, _ => by
    rw [List.filter_eq_self.mpr (fun x _ => by simp)]
    rfl
  | y :: r, hd, hs => by
    rw [List.nodup_cons] at hd
    have ih := filt_len hn hd.2 (fun z hz => hs z (List.mem_cons_of_mem _ hz))
    have e : (L.filter fun x => !decide (x ∈ y :: r)) = (L.filter fun x => !decide (x ∈ r)).erase y := by
      rw [List.Nodup.erase_eq_filter (hn.filter _), List.filter_filter]
      refine List.filter_congr fun x _ => ?_
      by_cases h1 : x = y
      · subst h1; simp
      · simp [h1, List.mem_cons]
    have hm : y ∈ L.filter fun x => !decide (x ∈ r) := List.mem_filter.mpr ⟨hs y List.mem_cons_self, by simp [hd.1]⟩
    have l1 := List.length_erase_of_mem hm
    have l2 := List.length_pos_of_mem hm
    rw [e, l1, List.length_cons]
    omega
theorem sit_len {ns found : List Str} {g : Str} (hn : ns.Nodup) (hf : found.Nodup) (hs : ∀ y ∈ found, y ∈ ns) : (sitting ns found g).length + found.length = ns.length := by
  unfold sitting
  rw [filt_len ((rotP_perm ns g).nodup_iff.mpr hn) hf (fun y hy => (rotP_perm ns g).mem_iff.mpr (hs y hy))]
  exact rot_len
/-- who goes, place by place -/
def goTail (ns : List Str) : List Str → Str → List Nat → List Str
  | _, _, [] => []
  | found, g, p :: r => (sitting ns found g).getD p Str.empty :: goTail ns (found ++ [(sitting ns found g).getD p Str.empty]) ((sitting ns found g).getD p Str.empty) r
/-- the places, goer by goer -/
def told (ns : List Str) : List Str → Str → List Str → List Nat
  | _, _, [] => []
  | found, g, x :: r => (sitting ns found g).idxOf x :: told ns (found ++ [x]) x r
def PlOk : Nat → List Nat → Prop
  | _, [] => True
  | m, p :: r => p < m ∧ PlOk (m - 1) r
def orderBy (ns : List Str) (b : Str) (ps : List Nat) : List Str := b :: goTail ns [b] b ps
theorem getD_mem {L : List Str} {p : Nat} (h : p < L.length) : L.getD p Str.empty ∈ L := by
  rw [List.getD_eq_getElem?_getD, List.getElem?_eq_getElem h]
  exact List.getElem_mem h
theorem getD_at {L : List Str} {p : Nat} (h : p < L.length) : L[p]? = some (L.getD p Str.empty) := by
  rw [List.getD_eq_getElem?_getD, List.getElem?_eq_getElem h]
  rfl
theorem goTail_len {ns : List Str} : ∀ {ps : List Nat} {found : List Str} {g : Str}, (goTail ns found g ps).length = ps.length
  | [], _, _ => rfl
  | p :: r, found, g => congrArg (· + 1) (goTail_len (ns := ns))
theorem told_len {ns : List Str} : ∀ {rest found : List Str} {g : Str}, (told ns found g rest).length = rest.length
  | [], _, _ => rfl
  | p :: r, found, g => congrArg (· + 1) (told_len (ns := ns))
theorem idxOf_mid {x : Str} : ∀ {A B : List Str}, x ∉ A → (A ++ x :: B).idxOf x = A.length := fun {A B} h => idx_mid B h
theorem idxOf_getD {L : List Str} (hn : L.Nodup) {p : Nat} (h : p < L.length) : L.idxOf (L.getD p Str.empty) = p := by
  have hg := getD_at h
  have hsplit : L = L.take p ++ L.getD p Str.empty :: L.drop (p + 1) := by
    obtain ⟨h1, e1⟩ := List.getElem?_eq_some_iff.mp hg
    rw [← e1, List.getElem_cons_drop, List.take_append_drop]
  have hd : (L.take p ++ L.getD p Str.empty :: L.drop (p + 1)).Nodup := hsplit ▸ hn
  have hx := (nd_mid hd).1
  have e := idx_mid (L.drop (p + 1)) hx
  rw [← hsplit, List.length_take, Nat.min_eq_left (Nat.le_of_lt h)] at e
  exact e
theorem snoc_nd {found : List Str} {x : Str} (hf : found.Nodup) (hx : x ∉ found) : (found ++ [x]).Nodup := by
  rw [List.nodup_append]
  refine ⟨hf, List.nodup_cons.mpr ⟨List.not_mem_nil, List.nodup_nil⟩, fun u hu v hv e => ?_⟩
  rw [List.mem_singleton] at hv
  exact hx (by rw [← hv, ← e]; exact hu)
theorem snoc_sub {ns found : List Str} {x : Str} (hs : ∀ y ∈ found, y ∈ ns) (hx : x ∈ ns) : ∀ y ∈ found ++ [x], y ∈ ns := fun y hy => by
  rcases List.mem_append.mp hy with h | h
  · exact hs y h
  · rw [List.mem_singleton.mp h]; exact hx
/-- places of a row of goers lead to it -/
theorem go_told {ns : List Str} (hn : ns.Nodup) : ∀ {rest found : List Str} {g : Str}, (found ++ rest).Nodup → (∀ y ∈ found ++ rest, y ∈ ns) → goTail ns found g (told ns found g rest) = rest ∧ PlOk (ns.length - found.length) (told ns found g rest)
  | [], _, _, _, _ => ⟨rfl, trivial⟩
  | x :: r, found, g, hd, hs => by
    have hx : x ∉ found := (nd_mid hd).1
    have hxn : x ∈ ns := hs x (List.mem_append_right _ List.mem_cons_self)
    have hm : x ∈ sitting ns found g := sit_mem.mpr ⟨hxn, hx⟩
    have hf : found.Nodup := (List.nodup_append.mp hd).1
    have hfs : ∀ y ∈ found, y ∈ ns := fun y hy => hs y (List.mem_append_left _ hy)
    have e : (sitting ns found g).getD ((sitting ns found g).idxOf x) Str.empty = x := by
      have := getD_at (idx_lt hm)
      rw [idx_at hm] at this
      exact (Option.some.inj this).symm
    have e2 : found ++ x :: r = (found ++ [x]) ++ r := by rw [List.append_assoc]; rfl
    rw [e2] at hd hs
    obtain ⟨i1, i2⟩ := go_told hn (g := x) hd hs
    refine ⟨?_, ?_, ?_⟩
    · show (sitting ns found g).getD ((sitting ns found g).idxOf x) Str.empty :: goTail ns (found ++ [(sitting ns found g).getD ((sitting ns found g).idxOf x) Str.empty]) ((sitting ns found g).getD ((sitting ns found g).idxOf x) Str.empty) (told ns (found ++ [x]) x r) = x :: r
      rw [e, i1]
    · have := idx_lt hm
      have := sit_len (g := g) hn hf hfs
      omega
    · rw [List.length_append] at i2
      exact (show ns.length - found.length - 1 = ns.length - (found.length + [x].length) from by simp only [List.length_singleton]; omega) ▸ i2
/-- and the places of whom they lead to are they -/
theorem told_go {ns : List Str} (hn : ns.Nodup) : ∀ {ps : List Nat} {found : List Str} {g : Str}, found.Nodup → (∀ y ∈ found, y ∈ ns) → PlOk (ns.length - found.length) ps →
    told ns found g (goTail ns found g ps) = ps ∧ (found ++ goTail ns found g ps).Nodup ∧ ∀ y ∈ found ++ goTail ns found g ps, y ∈ ns
  | [], found, _, hf, hs, _ => ⟨rfl, by rw [show goTail ns found _ [] = [] from rfl, List.append_nil]; exact hf, fun y hy => by rw [show goTail ns found _ [] = [] from rfl, List.append_nil] at hy; exact hs y hy⟩
  | p :: r, found, g, hf, hs, hp => by
    obtain ⟨hp1, hp2⟩ := hp
    have hl := sit_len (g := g) hn hf hs
    have hlt : p < (sitting ns found g).length := by omega
    generalize hx : (sitting ns found g).getD p Str.empty = x
    have hm : x ∈ sitting ns found g := by rw [← hx]; exact getD_mem hlt
    obtain ⟨hm1, hm2⟩ := sit_mem.mp hm
    have hi : (sitting ns found g).idxOf x = p := by rw [← hx]; exact idxOf_getD (sit_nd hn) hlt
    have hp3 : PlOk (ns.length - (found ++ [x]).length) r := by
      rw [List.length_append, List.length_singleton]
      exact (show ns.length - found.length - 1 = ns.length - (found.length + 1) by omega) ▸ hp2
    obtain ⟨i1, i2, i3⟩ := told_go hn (g := x) (snoc_nd hf hm2) (snoc_sub hs hm1) hp3
    have e : goTail ns found g (p :: r) = x :: goTail ns (found ++ [x]) x r := by
      show (sitting ns found g).getD p Str.empty :: _ = _
      rw [hx]
    have e2 : found ++ x :: goTail ns (found ++ [x]) x r = (found ++ [x]) ++ goTail ns (found ++ [x]) x r := by rw [List.append_assoc]; rfl
    rw [e, e2]
    refine ⟨?_, i2, i3⟩
    show (sitting ns found g).idxOf x :: told ns (found ++ [x]) x _ = p :: r
    rw [hi, i1]
/-- stepping from seat to seat -/
theorem rotP_at {ns : List Str} {g : Str} {k : Nat} (hg : g ∈ ns) (hk : k < ns.length) : (rot ns g)[k]? = ns[(ns.idxOf g + 1 + k) % ns.length]? := by
  have hi := idx_lt hg
  unfold rot
  rw [List.getElem?_append]
  split
  · next h =>
    rw [List.length_drop] at h
    rw [List.getElem?_drop, Nat.mod_eq_of_lt (by omega)]
  · next h =>
    rw [List.length_drop] at h ⊢
    rw [List.getElem?_take, if_pos (by omega), show ns.idxOf g + 1 + k = (k - (ns.length - (ns.idxOf g + 1))) + ns.length by omega, Nat.add_mod_right, Nat.mod_eq_of_lt (by omega)]
/-- how many of the first k sit -/
def cnt (ns fd : List Str) (g : Str) (k : Nat) : Nat := (((rot ns g).take k).filter fun x => !decide (x ∈ fd)).length
theorem cnt_zero {ns fd : List Str} {g : Str} : cnt ns fd g 0 = 0 := rfl
theorem cnt_step {ns fd : List Str} {g y : Str} {k : Nat} (h : (rot ns g)[k]? = some y) : cnt ns fd g (k + 1) = cnt ns fd g k + (if y ∈ fd then 0 else 1) := by
  unfold cnt
  rw [take_snoc h, List.filter_append, List.length_append, List.filter_cons]
  by_cases e : y ∈ fd
  · rw [decide_eq_true e, if_pos e]; rfl
  · rw [decide_eq_false e, if_neg e]; rfl
theorem cnt_split {ns fd : List Str} {g y : Str} {k : Nat} (h : (rot ns g)[k]? = some y) (hy : y ∉ fd) : ∃ A B, sitting ns fd g = A ++ y :: B ∧ A.length = cnt ns fd g k := by
  obtain ⟨h1, e1⟩ := List.getElem?_eq_some_iff.mp h
  have e : rot ns g = (rot ns g).take k ++ y :: (rot ns g).drop (k + 1) := by rw [← e1, List.getElem_cons_drop, List.take_append_drop]
  refine ⟨((rot ns g).take k).filter (fun x => !decide (x ∈ fd)), ((rot ns g).drop (k + 1)).filter (fun x => !decide (x ∈ fd)), ?_, rfl⟩
  unfold sitting
  conv => lhs; rw [e]
  rw [List.filter_append, List.filter_cons, decide_eq_false hy]
  rfl
theorem cnt_hit {ns fd : List Str} {g y : Str} {k p : Nat} (h : (rot ns g)[k]? = some y) (hy : y ∉ fd) (hp : cnt ns fd g k = p) : (sitting ns fd g).getD p Str.empty = y := by
  obtain ⟨A, B, e, l⟩ := cnt_split h hy
  rw [List.getD_eq_getElem?_getD, e, List.getElem?_append_right (by omega), l, hp, Nat.sub_self]
  rfl
theorem cnt_more {ns fd : List Str} {g : Str} {k p : Nat} (h : cnt ns fd g k ≤ p) (hp : p < (sitting ns fd g).length) : k < ns.length := by
  refine Nat.lt_of_not_le fun hk => ?_
  unfold cnt at h
  rw [List.take_of_length_le (by rw [rot_len]; exact hk)] at h
  unfold sitting at hp
  omega
theorem cnt_idx {ns fd : List Str} {g y : Str} {k : Nat} (hn : ns.Nodup) (h : (rot ns g)[k]? = some y) (hy : y ∉ fd) : cnt ns fd g k = (sitting ns fd g).idxOf y := by
  obtain ⟨A, B, e, l⟩ := cnt_split h hy
  have hd : (A ++ y :: B).Nodup := e ▸ sit_nd hn
  rw [e, idx_mid B (nd_mid hd).1, l]
theorem idx_of_at {ns : List Str} {x : Str} {j : Nat} (hn : ns.Nodup) (h : ns[j]? = some x) : ns.idxOf x = j := by
  obtain ⟨h1, e1⟩ := List.getElem?_eq_some_iff.mp h
  have hg : ns.getD j Str.empty = x := by rw [List.getD_eq_getElem?_getD, h]; rfl
  rw [← hg]
  exact idxOf_getD hn h1
theorem seat_next {a n : Nat} : ((a % n : Nat) + 1 : Int) % (n : Int) = (((a + 1) % n : Nat) : Int) := by
  rw [← Nat.mod_add_mod a n 1]
  rfl
/-- one for who sits, nought for who went -/
def sd01 (fd : List Str) : Str → Int := fun y => if y ∈ fd then 0 else 1
theorem SlipsAt.congr {H : Hp} {d : Addr} {ns : List Str} {sl sl' : Str → Int} (h : SlipsAt H d ns sl) (e : ∀ n ∈ ns, sl n = sl' n) : SlipsAt H d ns sl' := by
  obtain ⟨kvs, h1, h2, h3, h4⟩ := h
  exact ⟨kvs, h1, h2, h3, fun n hn => by rw [← e n hn]; exact h4 n hn⟩
theorem sd01_put {fd : List Str} {x : Str} (n : Str) : setSl (sd01 fd) x 0 n = sd01 (fd ++ [x]) n := by
  unfold setSl sd01
  by_cases e : n = x
  · rw [if_pos e, if_pos (by rw [e]; exact List.mem_append_right _ (List.mem_singleton.mpr rfl))]
  · rw [if_neg e]
    by_cases h : n ∈ fd
    · rw [if_pos h, if_pos (List.mem_append_left _ h)]
    · rw [if_neg h, if_neg (fun hm => (List.mem_append.mp hm).elim h fun q => e (List.mem_singleton.mp q))]
/-! ### the rests told -/
def toldAt (ns os : List Str) (i : Nat) : Nat × Nat := ((sitting ns (os.take (i + 1)) (os.getD i Str.empty)).idxOf (os.getD (i + 1) Str.empty), (sitting ns (os.take (i + 1)) (os.getD i Str.empty)).length)
def toldP (ns os : List Str) : List (Nat × Nat) := (List.range (os.length - 1)).map (toldAt ns os)
theorem told_idx {ns : List Str} : ∀ (rest pre : List Str) (g : Str), told ns (pre ++ [g]) g rest = (List.range rest.length).map fun j => (toldAt ns (pre ++ g :: rest) (pre.length + j)).1
  | [], _, _ => rfl
  | x :: r, pre, g => by
    have ih := told_idx (ns := ns) r (pre ++ [g]) x
    have e0 : pre ++ [g] ++ x :: r = pre ++ g :: x :: r := by rw [List.append_assoc]; rfl
    rw [List.length_cons, List.range_succ_eq_map, List.map_cons, List.map_map]
    show (sitting ns (pre ++ [g]) g).idxOf x :: told ns (pre ++ [g] ++ [x]) x r = _
    rw [ih]
    congr 1
    · unfold toldAt
      have t1 : (pre ++ g :: x :: r).take (pre.length + 0 + 1) = pre ++ [g] := by
        rw [← e0, show pre.length + 0 + 1 = (pre ++ [g]).length by rw [List.length_append]; rfl, List.take_left]
      have t2 : (pre ++ g :: x :: r).getD (pre.length + 0) Str.empty = g := by
        rw [List.getD_eq_getElem?_getD, List.getElem?_append_right (by omega), show pre.length + 0 - pre.length = 0 by omega]; rfl
      have t3 : (pre ++ g :: x :: r).getD (pre.length + 0 + 1) Str.empty = x := by
        rw [List.getD_eq_getElem?_getD, List.getElem?_append_right (by omega), show pre.length + 0 + 1 - pre.length = 1 by omega]; rfl
      rw [t1, t2, t3]
    · refine List.map_congr_left fun j _ => ?_
      show (toldAt ns (pre ++ [g] ++ x :: r) ((pre ++ [g]).length + j)).1 = (toldAt ns (pre ++ g :: x :: r) (pre.length + (j + 1))).1
      rw [e0, List.length_append, List.length_singleton, Nat.add_assoc, Nat.add_comm 1 j]
theorem toldP_fst {ns : List Str} {b : Str} {rest : List Str} : (toldP ns (b :: rest)).map (·.1) = told ns [b] b rest := by
  have := told_idx (ns := ns) rest [] b
  rw [List.nil_append] at this
  rw [this]
  unfold toldP
  rw [List.map_map, List.length_cons, Nat.add_sub_cancel]
  refine List.map_congr_left fun j _ => ?_
  show (toldAt ns (b :: rest) j).1 = (toldAt ns (b :: rest) (0 + j)).1
  rw [Nat.zero_add]
theorem toldAt_snd {ns os : List Str} {i : Nat} (hn : ns.Nodup) (hd : os.Nodup) (hs : ∀ y ∈ os, y ∈ ns) (hi : i < os.length) : (toldAt ns os i).2 = ns.length - 1 - i := by
  have := sit_len (ns := ns) (found := os.take (i + 1)) (g := os.getD i Str.empty) hn (hd.sublist (List.take_sublist _ _)) (fun y hy => hs y (List.mem_of_mem_take hy))
  rw [List.length_take, Nat.min_eq_left (by omega)] at this
  show (sitting ns (os.take (i + 1)) (os.getD i Str.empty)).length = _
  omega
def PairL (H : Hp) (rs : List Addr) (xs : List (Nat × Nat)) : Prop := Paired (fun (p : Addr) (x : Nat × Nat) => H p = some (.tup [.int (x.1 : Nat), .int (x.2 : Nat)])) rs xs
theorem PairL.same {H H' : Hp} {rs : List Addr} {xs : List (Nat × Nat)} (h : PairL H rs xs) (s : Same H H') : PairL H' rs xs := Paired.mapF (fun _ _ e => s _ _ e) h
theorem PairL.mod {H H' : Hp} {S C : Addr} {rs : List Addr} {xs : List (Nat × Nat)} (h : PairL H rs xs) (s : Mod S C H H') (st : StOk H S C) : PairL H' rs xs := Paired.mapF (F := fun (p : Addr) (x : Nat × Nat) => H p = some (.tup [.int (x.1 : Nat), .int (x.2 : Nat)])) (fun p x e => s.other st e (fun _ z => nomatch z)) h
def nz (ps : List Nat) : List Int := List.map (fun p : Nat => (p : Int)) ps
def spRestsTold : Sp := fun vs H Q _ => ∃ (c : Bool) (a t : Addr) (ns os : List Str), vs = [.ref a, .ref t] ∧ SqAt c H a (ns.map V.str) ∧ H t = some (.tup (os.map V.str)) ∧ GoodNs ns ∧ os.Nodup ∧ (∀ y ∈ os, y ∈ ns) ∧ os ≠ [] ∧
  ∀ H' l rs, Same H H' → H l = none → H' l = some (.lst (rs.map V.ref)) → PairL H' rs (toldP ns os) → Q (.ref l) H'
def spRestsOf : Sp := fun vs H Q _ => ∃ (c : Bool) (a t : Addr) (ns os : List Str), vs = [.ref a, .ref t] ∧ SqAt c H a (ns.map V.str) ∧ H t = some (.tup (os.map V.str)) ∧ GoodNs ns ∧ os.Perm ns ∧
  ∀ H' l rs, Same H H' → H l = none → H' l = some (.tup (rs.map V.ref)) → PairL H' rs (toldP ns os) → Q (.ref l) H'
def spIsOrder : Sp := fun vs H Q _ => ∃ (c : Bool) (a t : Addr) (ns os : List Str), vs = [.ref a, .ref t] ∧ SqAt c H a (ns.map V.str) ∧ H t = some (.tup (os.map V.str)) ∧ ns.length ≤ 100 ∧ os.Perm ns ∧ ∀ H', Same H H' → Q (.bl true) H'
def spChkOrder : Sp := fun vs H Q _ => ∃ (c : Bool) (a t : Addr) (ns os : List Str), vs = [.ref a, .ref t] ∧ SqAt c H a (ns.map V.str) ∧ H t = some (.tup (os.map V.str)) ∧ ns.length ≤ 100 ∧ os.Perm ns ∧ ∀ H', Same H H' → Q .non H'
def spIsPlaces : Sp := fun vs H Q _ => ∃ (n : Nat) (t : Addr) (ps : List Nat), vs = [.int (n : Nat), .ref t] ∧ H t = some (.tup ((nz ps).map V.int)) ∧ 1 ≤ n ∧ n ≤ 100 ∧ ps.length = n - 1 ∧ PlOk (n - 1) ps ∧ ∀ H', Same H H' → Q (.bl true) H'
def spOrderBy : Sp := fun vs H Q _ => ∃ (c : Bool) (a t : Addr) (ns : List Str) (b : Str) (ps : List Nat), vs = [.ref a, .str b, .ref t] ∧ SqAt c H a (ns.map V.str) ∧ GoodNs ns ∧ b ∈ ns ∧ H t = some (.tup ((nz ps).map V.int)) ∧ ps.length = ns.length - 1 ∧ PlOk (ns.length - 1) ps ∧
  ∀ H' r, Same H H' → H r = none → H' r = some (.tup ((orderBy ns b ps).map V.str)) → Q (.ref r) H'
def spDecoded : Sp := fun vs H Q _ => ∃ (a t : Addr) (ns : List Str) (b : Str) (ps : List Nat), vs = [.ref a, .str b, .ref t] ∧ H a = some (.lst (ns.map V.str)) ∧ GoodNs ns ∧ b ∈ ns ∧ H t = some (.tup ((nz ps).map V.int)) ∧ PlOk (ns.length - 1) ps ∧
  ∀ H' r, Same H H' → H r = none → H' r = some (.tup ((orderBy ns b ps).map V.str)) → Q (.ref r) H'
def spIndexes : Sp := fun vs H Q _ => ∃ (a t : Addr) (ns : List Str) (b : Str) (rest : List Str), vs = [.ref a, .ref t] ∧ H a = some (.lst (ns.map V.str)) ∧ GoodNs ns ∧ H t = some (.tup ((b :: rest).map V.str)) ∧ (b :: rest).Nodup ∧ (∀ y ∈ b :: rest, y ∈ ns) ∧
  ∀ H' r, Same H H' → H r = none → H' r = some (.tup ((nz (told ns [b] b rest)).map V.int)) → Q (.ref r) H'
end GL
namespace GL
open PySem PySem.Spec PyProof.Rows L2
/-- two ways that come together -/
theorem ite2R {β : Type} {c : Bool} {A : Prop} {R : Hp → β → Prop} (Pr : Hp → β → Prop) (H : Hp) (y : β) (h0 : ¬ c = true → Pr H y) (h1 : c = true → (∀ H y, Pr H y → R H y) → A) (k : ∀ H y, Pr H y → R H y) : if c = true then A else R H y := by
  by_cases h : c = true
  · rw [if_pos h]; exact h1 h k
  · rw [if_neg h]; exact k H y (h0 h)
end GL
namespace GL
open PySem PySem.Spec PyProof.Rows L2
theorem PlOk.at : ∀ {ps : List Nat} {m j p : Nat}, PlOk m ps → ps[j]? = some p → p < m - j
  | [], _, _, _, _, h => nomatch h
  | q :: r, m, 0, p, h, e => by
    have e : q = p := Option.some.inj e
    rw [← e]; exact h.1
  | q :: r, m, j + 1, p, h, e => by
    have := PlOk.at h.2 (show r[j]? = some p from e)
    omega
end GL
namespace GL
open PySem PySem.Spec PyProof.Rows L2
theorem nz_snoc (ps : List Nat) (p : Nat) : (nz (ps ++ [p])).map V.int = (nz ps).map V.int ++ [.int (p : Nat)] := by
  unfold nz
  rw [List.map_append, List.map_append]
  rfl
end GL
namespace GL
open PySem PySem.Spec PyProof.Rows L2
/-! ### rows of pairs as data -/
def pairD (x : Nat × Nat) : PyData := .tuple [.int (x.1 : Nat), .int (x.2 : Nat)]
theorem dp_pairs {K : PySem.W.Frag} {H : Hp} : ∀ {rs : List Addr} {xs : List (Nat × Nat)}, PairL H rs xs → DpAll K H (rs.map V.ref) (xs.map pairD)
  | _, _, .nil => .nil
  | _, _, .cons a r => .cons (.tup (SqT.of a) (.cons (.int _) (.cons (.int _) .nil))) (dp_pairs r)
theorem pairD_self (x : Nat × Nat) : PyData.eqv (pairD x) (pairD x) = true := (eqvi_tups [(x.1 : Int), (x.2 : Int)] [(x.1 : Int), (x.2 : Int)]).trans (decide_eq_true rfl)
theorem pairs_self : ∀ rs : List (Nat × Nat), PyData.eqvAll (rs.map pairD) (rs.map pairD) = true
  | [] => by simp [PyData.eqvAll]
  | x :: r => by rw [List.map_cons, PyData.eqvAll, pairD_self, pairs_self r]; rfl
theorem pairs_eqv (rs : List (Nat × Nat)) : PyData.eqv (.tuple (rs.map pairD)) (.tuple (rs.map pairD)) = true := by rw [PyData.eqv, pairs_self]
theorem pairs_can : ∀ rs : List (Nat × Nat), PyData.canLayAll0 (rs.map pairD) = true
  | [] => by simp [PyData.canLayAll0]
  | x :: r => by
    rw [List.map_cons, PyData.canLayAll0, pairs_can r]
    simp [pairD, PyData.canLay0, PyData.canLayAll0]
theorem pairs_depth : ∀ rs : List (Nat × Nat), PyData.depthAll (rs.map pairD) ≤ 3
  | [] => by simp [PyData.depthAll]
  | x :: r => by
    have b := pairs_depth r
    rw [List.map_cons, PyData.depthAll]
    exact Nat.max_le.mpr ⟨by simp [pairD, PyData.depth, PyData.depthAll], b⟩
theorem pairs_shaped (rs : List (Nat × Nat)) : SeqAt.shaped (.tuple (rs.map pairD)) = true := by
  have a := pairs_can rs
  have b := pairs_depth rs
  unfold SeqAt.shaped
  rw [Bool.and_eq_true, decide_eq_true_eq]
  refine ⟨by rw [PyData.canLay0]; exact a, ?_⟩
  rw [PyData.depth]
  omega
theorem iteQ {d e : PyData} {A B : Prop} (h : PyData.eqv d e = true) (b : B) : if (!PyData.eqv d e) = true then A else B := by
  rw [h]
  exact iteF b
theorem PairL.get {H : Hp} {rs : List Addr} {xs : List (Nat × Nat)} (h : PairL H rs xs) {i : Nat} {v : V} (hv : (rs.map V.ref)[i]? = some v) : ∃ p x, v = .ref p ∧ xs[i]? = some x ∧ H p = some (.tup [.int (x.1 : Nat), .int (x.2 : Nat)]) := by
  unfold PairL at h
  induction h generalizing i with
  | nil => cases hv
  | @cons p x rs xs a r ih =>
    cases i with
    | zero => exact ⟨p, x, (Option.some.inj hv).symm, rfl, a⟩
    | succ i => exact ih hv
theorem PairL.len {H : Hp} {rs : List Addr} {xs : List (Nat × Nat)} (h : PairL H rs xs) : rs.length = xs.length := Paired.length h
def wantP (n : Nat) (ps : List Nat) : List (Nat × Nat) := (List.range ps.length).map fun i => (ps.getD i 0, n - 1 - i)
theorem told_want {ns : List Str} {b : Str} {rest : List Str} (hn : ns.Nodup) (hd : (b :: rest).Nodup) (hs : ∀ y ∈ b :: rest, y ∈ ns) : toldP ns (b :: rest) = wantP ns.length (told ns [b] b rest) := by
  have hf := toldP_fst (ns := ns) (b := b) (rest := rest)
  have e1 : toldP ns (b :: rest) = (List.range rest.length).map (toldAt ns (b :: rest)) := by rw [toldP, List.length_cons, Nat.add_sub_cancel]
  unfold wantP
  rw [told_len, e1]
  refine List.map_congr_left fun i hi => ?_
  rw [List.mem_range] at hi
  have e2 : (told ns [b] b rest).getD i 0 = (toldAt ns (b :: rest) i).1 := by
    rw [← hf, e1, List.map_map, List.getD_eq_getElem?_getD, List.getElem?_map, List.getElem?_range hi]
    rfl
  have e3 := toldAt_snd (i := i) hn hd hs (by rw [List.length_cons]; omega)
  rw [e2, ← e3]
theorem PlOk.set : ∀ {ps : List Nat} {m j q : Nat}, PlOk m ps → q < m - j → PlOk m (ps.set j q)
  | [], _, _, _, _, _ => trivial
  | p :: r, m, 0, q, h, e => ⟨by omega, h.2⟩
  | p :: r, m, j + 1, q, h, e => ⟨h.1, PlOk.set h.2 (by omega)⟩
/-- with one place otherwise, the same ones go till then, and another one there -/
theorem goTail_set {ns : List Str} : ∀ {ps : List Nat} {j p q : Nat} {found : List Str} {g : Str}, ps[j]? = some p → ∃ G, (goTail ns found g (ps.set j q)).take j = (goTail ns found g ps).take j ∧
    (goTail ns found g ps)[j]? = some ((sitting ns (found ++ (goTail ns found g ps).take j) G).getD p Str.empty) ∧ (goTail ns found g (ps.set j q))[j]? = some ((sitting ns (found ++ (goTail ns found g ps).take j) G).getD q Str.empty)
  | [], _, _, _, _, _, h => nomatch h
  | p0 :: r, 0, p, q, found, g, h => by
    obtain rfl : p0 = p := Option.some.inj h
    refine ⟨g, rfl, ?_, ?_⟩
    · rw [List.take_zero, List.append_nil]; rfl
    · rw [List.take_zero, List.append_nil]; rfl
  | p0 :: r, j + 1, p, q, found, g, h => by
    generalize hx : (sitting ns found g).getD p0 Str.empty = x
    obtain ⟨G, i1, i2, i3⟩ := goTail_set (ns := ns) (ps := r) (j := j) (p := p) (q := q) (found := found ++ [x]) (g := x) h
    have e1 : goTail ns found g (p0 :: r) = x :: goTail ns (found ++ [x]) x r := by
      show (sitting ns found g).getD p0 Str.empty :: _ = _
      rw [hx]
    have e2 : goTail ns found g ((p0 :: r).set (j + 1) q) = x :: goTail ns (found ++ [x]) x (r.set j q) := by
      show (sitting ns found g).getD p0 Str.empty :: _ = _
      rw [hx]
    rw [e1, e2]
    have e3 : found ++ (x :: goTail ns (found ++ [x]) x r).take (j + 1) = found ++ [x] ++ (goTail ns (found ++ [x]) x r).take j := by
      rw [List.take_succ_cons, List.append_assoc found [x]]
      rfl
    rw [e3]
    exact ⟨G, by rw [List.take_succ_cons, List.take_succ_cons, i1], i2, i3⟩
theorem perm_of {ns os : List Str} (hn : ns.Nodup) (hd : os.Nodup) (hs : ∀ y ∈ os, y ∈ ns) (hl : os.length = ns.length) : os.Perm ns := by
  refine (List.perm_ext_iff_of_nodup hd hn).mpr fun y => ⟨hs y, fun hy => Classical.byContradiction fun hn2 => ?_⟩
  have := List.Nodup.length_le_of_subset (List.nodup_cons.mpr ⟨hn2, hd⟩) (fun z hz => (List.mem_cons.mp hz).elim (fun e => e ▸ hy) (hs z) : ∀ z ∈ y :: os, z ∈ ns)
  rw [List.length_cons] at this
  omega
theorem order_of {ns : List Str} {b : Str} {ps : List Nat} (g : GoodNs ns) (hb : b ∈ ns) (hl : ps.length = ns.length - 1) (hp : PlOk (ns.length - 1) ps) :
    told ns [b] b (goTail ns [b] b ps) = ps ∧ (orderBy ns b ps).Nodup ∧ (∀ y ∈ orderBy ns b ps, y ∈ ns) ∧ (orderBy ns b ps).Perm ns := by
  obtain ⟨h1, h2, h3⟩ := told_go (ns := ns) (ps := ps) (found := [b]) (g := b) g.nd (List.nodup_cons.mpr ⟨List.not_mem_nil, List.nodup_nil⟩) (fun y hy => by rw [List.mem_singleton.mp hy]; exact hb) hp
  refine ⟨h1, h2, h3, perm_of g.nd h2 h3 ?_⟩
  have := g.two
  show (goTail ns [b] b ps).length + 1 = ns.length
  rw [goTail_len]
  omega
theorem orderBy_set {ns : List Str} {b : Str} {ps : List Nat} {j p q : Nat} (g : GoodNs ns) (hb : b ∈ ns) (hl : ps.length = ns.length - 1) (hp : PlOk (ns.length - 1) ps) (hj : ps[j]? = some p) (hq : q < ns.length - 1 - j) (hpq : p ≠ q) :
    (orderBy ns b (ps.set j q)).take (j + 1) = (orderBy ns b ps).take (j + 1) ∧ ∃ x y, (orderBy ns b (ps.set j q))[j + 1]? = some x ∧ (orderBy ns b ps)[j + 1]? = some y ∧ x ≠ y := by
  obtain ⟨G, i1, i2, i3⟩ := goTail_set (ns := ns) (q := q) (found := [b]) (g := b) hj
  obtain ⟨_, hd, hs, _⟩ := order_of g hb hl hp
  refine ⟨?_, _, _, i3, i2, fun e => hpq ?_⟩
  · show (b :: goTail ns [b] b (ps.set j q)).take (j + 1) = (b :: goTail ns [b] b ps).take (j + 1)
    rw [List.take_succ_cons, List.take_succ_cons, i1]
  · have hjl := (List.getElem?_eq_some_iff.mp hj).1
    have e0 : [b] ++ (goTail ns [b] b ps).take j = (orderBy ns b ps).take (j + 1) := by
      show _ = (b :: goTail ns [b] b ps).take (j + 1)
      rw [List.take_succ_cons]
      rfl
    rw [e0] at e
    have hsl := sit_len (ns := ns) (found := (orderBy ns b ps).take (j + 1)) (g := G) g.nd (hd.sublist (List.take_sublist _ _)) (fun y hy => hs y (List.mem_of_mem_take hy))
    have hol : (orderBy ns b ps).length = ps.length + 1 := by
      show (goTail ns [b] b ps).length + 1 = _
      rw [goTail_len]
    rw [List.length_take, hol, Nat.min_eq_left (by omega)] at hsl
    have hpl := hp.at hj
    have hnd := sit_nd (ns := ns) (found := (orderBy ns b ps).take (j + 1)) (g := G) g.nd
    have a1 := idxOf_getD hnd (p := p) (by omega)
    have a2 := idxOf_getD hnd (p := q) (by omega)
    rw [← a1, ← a2, e]
def spExactP : Sp := fun vs H Q _ => ∃ (l w : Addr) (rs qs : List Addr) (xs : List (Nat × Nat)), vs = [.ref l, .ref w] ∧ H l = some (.tup (rs.map V.ref)) ∧ PairL H rs xs ∧ H w = some (.tup (qs.map V.ref)) ∧ PairL H qs xs ∧ ∀ H', Same H H' → Q (.bl true) H'
def spOther : Sp := fun vs H Q _ => ∃ (S C a t : Addr) (ns : List Str) (b : Str) (ps : List Nat), vs = [.ref S, .ref a, .str b, .ref t] ∧ StOk H S C ∧ H a = some (.lst (ns.map V.str)) ∧ GoodNs ns ∧ b ∈ ns ∧ H t = some (.tup ((nz ps).map V.int)) ∧ ps.length = ns.length - 1 ∧ PlOk (ns.length - 1) ps ∧
  ∀ H', Mod S C H H' → StOk H' S C → Q (.bl true) H'
end GL
namespace GL
open PySem PySem.Spec PyProof.Rows L2
theorem PlOk.snoc : ∀ {ps : List Nat} {m d : Nat}, PlOk m ps → d < m - ps.length → PlOk m (ps ++ [d])
  | [], m, d, _, h => ⟨h, trivial⟩
  | p :: r, m, d, h, e => ⟨h.1, PlOk.snoc h.2 (by rw [List.length_cons] at e; omega)⟩
end GL
/-! enumerate of a tuple: each item in a new pair. -/
namespace PySem
open Sem (wp)
set_option maxHeartbeats 1000000 in
theorem g_meets_enum1 {v : Value} {o : Obj} {H : Heap → Prop} (B : Begins v o H) :
    Meets (Builtin.«enumerate.__new__» ⟨[.type "enumerate", v], []⟩) (fun _ R s => H s.heap ∧
      R (.ok (.ret (.ref (s.heap.push o).objs.size))) { s with heap := (s.heap.push o).push { cls := .type "enumerate", data := .fields #[.none, .bool false, .ref s.heap.objs.size, rawInt 0, .none, .none] } }) :=
  .of_wp fun prog w A R s h => by
    obtain ⟨hp, g, d, tk, os⟩ := s; obtain ⟨h1, h⟩ := h
    have hsub := sub_enumerate
    have q1 : ∀ {A' : Around} {E : Value → Shared → Prop} {Q : Value → Shared → Prop}, Q (.ref hp.objs.size) ⟨hp.push o, g, d, tk, os⟩ → wpAny (model prog w) A' (pyIter v) Q E ⟨hp, g, d, tk, os⟩ :=
      fun q => B.iter prog w _ _ ⟨hp, g, d, tk, os⟩ _ h1 q
    wp_walk using q1
    refine wpAny_stack_any fun st => wpAny_pure ?_
    split
    · rename_i c _ _ _ _ _
      cases (c == Value.type "enumerate")
      · wp_walk using q1
        exact ⟨_, rfl, h⟩
      · wp_walk using q1
        exact ⟨_, rfl, h⟩
    · wp_walk using q1
      exact ⟨_, rfl, h⟩
section
variable {prog : Program} {w : World} {A : Around} {E : Value → Shared → Prop} {s : Shared}
theorem g_call_enum {v : Value} {o : Obj} {H : Heap → Prop} {Q : Value → Shared → Prop} (B : Begins v o H) (h1 : H s.heap)
    (h : ∀ h', IsEnum h' (s.heap.objs.size + 1) s.heap.objs.size 0 .none → h'.get? s.heap.objs.size = some o → h'.objs.size = s.heap.objs.size + 2 →
      (∀ b o, s.heap.get? b = some o → h'.get? b = some o) → Q (.ref (s.heap.objs.size + 1)) { s with heap := h' }) :
    wpAny (model prog w) A (call (.type "enumerate") [v]) Q E s := by
  refine callType_new F.called_enumerate (by decide) (F.typeCall_enumerate_1 _) (F.newCall_enumerate_1 _) (fun obj => F.args_object_init_2 obj _) F.entry_enumerate_new
    (g_meets_enum1 B) ⟨h1, ?_⟩
  have hz : (s.heap.push o).objs.size = s.heap.objs.size + 1 := Heap.size_push ..
  show _ ∧ _
  rw [hz]
  have he : IsEnum ((s.heap.push o).push { cls := .type "enumerate", data := .fields #[.none, .bool false, .ref s.heap.objs.size, rawInt 0, .none, .none] }) (s.heap.objs.size + 1) s.heap.objs.size 0 .none := by
    have := Heap.get?_push_size (s.heap.push o) (o := { cls := .type "enumerate", data := .fields #[.none, .bool false, .ref s.heap.objs.size, rawInt 0, .none, .none] }) rfl
    rw [hz] at this; exact this
  exact ⟨⟨_, he, rfl⟩, h _ he (Heap.get?_push_of_some _ (Heap.get?_push_size _ B.free)) (by rw [Heap.size_push, hz]) fun b o x => Heap.get?_push_of_some _ (Heap.get?_push_of_some _ x)⟩
end
end PySem
namespace L2
open PySem PySem.Spec PyProof.Rows
def IteT (K : PySem.W.Frag) (a : Addr) : It :=
  ⟨fun i H => ∃ (xs : List V) (x : V), SqT K H a xs ∧ xs[i]? = some x, fun i H v H' => ∃ T x, v = .ref T ∧ H T = none ∧ H' = upd H T (.tup [.int (i : Nat), x]) ∧ ∀ xs, SqT K H a xs → xs[i]? = some x, fun i H => ∃ xs : List V, SqT K H a xs ∧ xs.length ≤ i⟩
theorem turn_enumT {P : Program} {w : World} {K : PySem.W.Frag} {elts : List Expr} {kk : Nat} {tpos : Pos} (a e it : Addr) (hae : a ≠ e) (hai : a ≠ it) :
    Turn P w K (.Tuple elts kk tpos) (IteT K a) [e, it] e (fun i h => (∃ old, IsEnum h e it ((i : Nat) : Int) old) ∧ h.IsTupleIter it a i ∧ e ≠ it) where
  mem := by simp
  obj := fun i h st b hb => by
    obtain ⟨⟨old, he⟩, ⟨o, ho, hc, hd⟩, _⟩ := st
    have e' : b = e ∨ b = it := by simpa using hb
    rcases e' with z | z
    · rw [z]; exact ⟨_, he, fun v q => nomatch q⟩
    · rw [z]; exact ⟨o, ho, fun v q => by rw [hd] at q; cases q⟩
  keep := fun i h h' st k => let ⟨⟨old, he⟩, hi, hne⟩ := st; ⟨⟨old, k e (by simp) _ he⟩, hi.at fun o q => k it (by simp) o q, hne⟩
  item := by
    intro X hP hw hK hc i pins s σ H E I hf st hg
    subst hP hw hK
    obtain ⟨⟨old, he⟩, hit, hne⟩ := st
    obtain ⟨xs, x, hq, hx⟩ := hg
    obtain ⟨its, rv, p, hz⟩ := I.tuple hq
    obtain ⟨u, hu, ru⟩ := rv.get hx
    have hel : e < s.heap.objs.size := Heap.lt_size he
    have hil : it < s.heap.objs.size := by obtain ⟨_, q, _⟩ := hit; exact Heap.lt_size q
    have hT0 : s.heap.IsTuple a its.toArray := p
    have hul : i < its.toArray.size := by
      rw [List.size_toArray]
      exact (List.getElem?_eq_some_iff.mp hu).1
    refine wpAny_pyNext_enum_itemD (Draws.tuple (A := X.A.in1) (I.ok.hd hc) it a hai its.toArray) he ⟨hit, hT0⟩ hul hne (by simp only [List.mem_cons, List.not_mem_nil, or_false]; exact fun z => z.elim hne fun z => hae z.symm) fun u' h' tk pu ho hst hT hsz hk => ?_
    obtain rfl : u' = u := by
      have e1 : its.toArray[i]? = some u' := pu
      have e2 : its.toArray[i]? = some u := by simpa using hu
      exact Option.some.inj (e1.symm.trans e2)
    refine ⟨_, rfl, wpAny_letOwnedTupleGo_enum (s := { s with heap := h', toks := tk + 1 }) ho fun h'' he' sb => ?_⟩
    have hT2 : h''.get? s.heap.objs.size = some { cls := .type "tuple", data := .seq #[.int i tk, u'] } := (sb.2 _ (Nat.ne_of_gt hel)).trans hT
    have new : ObjOk X.prog X.w (upd H s.heap.objs.size (.tup [.int (i : Nat), x])) h'' s.heap.objs.size (.tup [.int (i : Nat), x]) :=
      ⟨by show 2 ≤ sizeLine; decide, [.int i tk, u'], .cons ⟨_, rfl⟩ (.cons ru .nil), ⟨_, hT2, rfl, _, rfl⟩⟩
    have I1 : Inv X pins σ (upd H s.heap.objs.size (.tup [.int (i : Nat), x])) { s with heap := h'', toks := tk + 1 } :=
      I.turnedNew (ch := [e, it]) (fun b ob hb q => (sb.2 b (fun z => hb (by simp [z]))).trans (hk b ob (fun z => hb (by simp [z])) (fun z => hb (by simp [z])) q)) hf (Nat.le_refl _) new
    refine ⟨.ref s.heap.objs.size, _, I1, rfl, ⟨_, x, rfl, I.hok.fresh (Nat.le_refl _), rfl, fun ys hy => by rw [I.tuple_inj hy hq]; exact hx⟩, ⟨⟨u', ?_⟩, hst.1.at fun o q => (sb.2 it (Ne.symm hne)).trans q, hne⟩, fun b hb => ?_⟩
    · have e1 : ((i + 1 : Nat) : Int) = (i : Int) + 1 := by omega
      rw [e1]; exact he'
    · have hb' : b < s.heap.objs.size := by
        have e' : b = e ∨ b = it := by simpa using hb
        rcases e' with z | z
        · rw [z]; exact hel
        · rw [z]; exact hil
      rw [upd_ne (Nat.ne_of_lt hb')]
      exact (hf b hb).1
  done := by
    intro X hP hw hK hc i pins s σ H E I hf st hg
    subst hP hw hK
    obtain ⟨⟨old, he⟩, hit, hne⟩ := st
    obtain ⟨xs, hq, hx⟩ := hg
    obtain ⟨its, rv, p, hz⟩ := I.tuple hq
    obtain ⟨f0, f1, f2, f3, f4, f5⟩ := hf it (by simp)
    have hl := rv.length
    have hT0 : s.heap.IsTuple a its.toArray := p
    have hT : s.TypeIs (.ref e) "enumerate" := ⟨_, he, rfl⟩
    unfold pyNext
    refine wpAny_bind (wpAny_attempt (wpAny_callSpecial?_slot (name := Str.ofString "__next__") hT F.slot_enumerate_next
      (wpAny_call_entry F.slot_enumerate_next hT F.entry_enumerate_next ?_ (F.args_enumerate_next_1 _))))
    show wpAny _ _ (field (.ref e) 2 >>= _) _ _ _
    refine wpAny_bind (wpAny_field he rfl (x := .ref it) rfl ?_)
    refine wpAny_bind (RZ.nextOf_tuple_end (I.ok.hd hc) hit hT0 (by simp; omega) fun h' x he' hx' => ?_)
    obtain ⟨o, ho, hcc⟩ := hx'
    refine wpAny_bind (wpAny_isInstance (T := "StopIteration") (b := true) ⟨o, ho, hcc⟩ isSubtype_stop ?_)
    exact wpAny_pure ⟨rfl, I.turned (t' := s.toks) (fun b o hb q => he' b o hb q) f0 f1 f3 f4 f5⟩
  self := fun A i s Q E st h => let ⟨⟨_, he⟩, _⟩ := st; wpAny_pyIter_enum he h
def iEnumT (K : PySem.W.Frag) (ta : TA) : TI := fun σ H R => ta σ H fun vs H1 => ∃ a xs, vs = [.ref a] ∧ SqT K H1 a xs ∧ R (IteT K a) H1
theorem pi_enumT {X : Cx} {e : Expr} {ta : TA} {p pos tpos : Pos} {elts : List Expr} {kk : Nat} (hg : Gl X "enumerate") (hm : X.mg "enumerate" = none) (ha : PA X [e] ta) (hs : starEach [e] X.env = [(false, eval e X.env)] := by rfl) :
    PI X (.Tuple elts kk tpos) (.Call (.Name "enumerate" p) [e] [] pos) (iEnumT X.K ta) := by
  refine ⟨fun pins s σ H R I h => ?_⟩
  refine Call_ (ld_blt I hg hm boot_enumerate (PyProof.Rows.callWith_type1 (thn (ha.run pos pins s σ H _ I h) fun us s1 ⟨vs, H1, I1, r1, q1⟩ => ?_) hs rfl))
  obtain ⟨a, xs, ex, hq, q⟩ := q1
  subst ex
  cases r1 with
  | cons r rr =>
    cases rr
    cases r
    obtain ⟨its, rv, p', hz⟩ := I1.tuple hq
    have hT0 : s1.heap.IsTuple a its.toArray := p'
    have hal : a < s1.heap.objs.size := by obtain ⟨o, ho, _⟩ := hT0; exact Heap.lt_size ho
    refine g_call_enum (begins_tuple a its.toArray) hT0 fun h' he hit hsz hk => wpAny_pyIter_enum he ?_
    have I2 : Inv X pins σ H1 { s1 with heap := h' } := I1.kept (t' := s1.toks) hk
    refine ⟨s1.heap.objs.size + 1, [s1.heap.objs.size + 1, s1.heap.objs.size], _, _, H1, rfl, I2, turn_enumT a (s1.heap.objs.size + 1) s1.heap.objs.size (Nat.ne_of_lt (Nat.lt_succ_of_lt hal)) (Nat.ne_of_lt hal), ⟨⟨.none, he⟩, ⟨_, hit, rfl, rfl⟩, Nat.succ_ne_self _⟩, fun b hb => ?_, q⟩
    have e' : b = s1.heap.objs.size + 1 ∨ b = s1.heap.objs.size := by simpa using hb
    have hle : s1.heap.objs.size ≤ b := by
      rcases e' with z | z
      · rw [z]; exact Nat.le_add_right _ _
      · rw [z]; exact Nat.le_refl _
    exact I1.fpOk hle (I1.hok.fresh hle)
theorem walk_enumT {K : PySem.W.Frag} {a : Addr} {xs : List V} : Walk (IteT K a) xs.length (fun H => SqT K H a xs) (YPair (fun i => some (.int (i : Nat))) (fun i => xs[i]?)) := by
  refine ⟨fun i _ hi q => ⟨xs, xs[i], q, by simp [hi]⟩, fun _ q => ⟨xs, q, Nat.le_refl _⟩, fun i H v H' _ q y => ?_⟩
  obtain ⟨T, x, h1, h2, h3, h4⟩ := y
  exact ⟨T, .int (i : Nat), x, h1, h2, h3, rfl, h4 xs q⟩
end L2
/-! Own rules: list(d.items()), list(d.values()). -/
namespace L2
open PySem PySem.Spec PyProof.Rows
section
variable {X : Cx} {pins : List (Addr × Obj)} {σ : List (Option V)} {H H' : Hp} {s : Shared} {h' : Heap}
/-- several new objects laid and tracked at once -/
theorem Inv.laids {t' : Nat} (I : Inv X pins σ H s) (k : ∀ b u, s.heap.get? b = some u → h'.get? b = some u) (sm : ∀ b o, H b = some o → H' b = some o)
    (fr : ∀ b, b < s.heap.objs.size → H b = none → H' b = none) (new : ∀ b o, H b = none → H' b = some o → ObjOk X.prog X.w H' h' b o) : Inv X pins σ H' { s with heap := h', toks := t' } := by
  refine I.un ⟨fun b u q _ _ _ => k b u q, fun b u q _ _ _ => ⟨u.slots, k b u q⟩, fun b u q n _ => fr b (Heap.lt_size q) n, fun b u q _ => ⟨u, k b u q⟩, fun b xs q => sm _ _ q, fun b u xs q => sm _ _ q, fun b ps q => ⟨#[], by rw [sm _ _ q]; simp⟩⟩ fun b o e => ?_
  cases hb : H b with
  | none => exact new b o hb e
  | some o' =>
    have e2 := sm _ _ hb
    rw [e] at e2
    obtain rfl : o = o' := Option.some.inj e2
    exact (I.hok b o hb).stay (fun c v _ q => k c v q) (fun c q => sm _ _ q) fun c xs q => sm _ _ q
end
variable {X : Cx}
theorem kv_at {kvs : List (Key × V)} {vs : List (Key × Value)} (h : KV kvs vs) : ∀ {i : Nat} {p : Key × V}, kvs[i]? = some p → ∃ q, vs[i]? = some q ∧ p.1 = q.1 ∧ RelV p.2 q.2 := by
  unfold KV at h
  induction h with
  | nil => intro i p e; cases e
  | cons r t ih =>
    intro i p e
    cases i with
    | zero => cases e; exact ⟨_, rfl, r⟩
    | succ i => exact ih e
theorem vals_ext : ∀ {xs : List V} {us : List Value}, xs.length = us.length → (∀ (j : Nat) x u, xs[j]? = some x → us[j]? = some u → RelV x u) → Vals xs us
  | [], [], _, _ => .nil
  | x :: xs, u :: us, h, f => .cons (f 0 x u rfl rfl) (vals_ext (Nat.succ.inj h) fun j x u a b => f (j + 1) x u a b)
  | [], _ :: _, h, _ => by cases h
  | _ :: _, [], h, _ => by cases h
def tListVals (td : TE) : TE := fun σ H Q => td σ H fun x H1 => ∃ d kvs, x = .ref d ∧ Rd H1 d (.dK kvs) ∧ ∀ l, H1 l = none → Q (.ref l) (upd H1 l (.lst (kvs.map (·.2))))
theorem pe_listVals {e : Expr} {td : TE} {p apos cpos pos : Pos} (hc : X.calm = true) (hm : X.mg "list" = none) (he : PE X e td) (hg : Gl X "list" := by rfl)
    (hbase : attributeBase e "values" X.env (eval e X.env) = eval e X.env := by rfl) (hline : (apos.endLine == cpos.line) = true := by rfl)
    (na : starEach [.Call (.Attribute e "values" apos) [] [] cpos] X.env = (false, eval (.Call (.Attribute e "values" apos) [] [] cpos) X.env) :: starEach [] X.env := by rfl) :
    PE X (.Call (.Name "list" p) [.Call (.Attribute e "values" apos) [] [] cpos] [] pos) (tListVals td) := by
  refine ⟨fun pins s σ H Q I h => ?_⟩
  have hr : wpAny (model X.prog X.w) X.A (eval (.Call (.Attribute e "values" apos) [] [] cpos) X.env) (fun x s' => ∃ (s1 : Shared) (d : Addr) (kvs : List (Key × V)) (H1 : Hp), x = .ref s1.heap.objs.size ∧ s' = { s1 with heap := s1.heap.push { cls := .type "dict_values", data := .fields #[.ref d] } } ∧ Inv X pins σ H1 s1 ∧
      Rd H1 d (.dK kvs) ∧ ∀ l, H1 l = none → Q (.ref l) (upd H1 l (.lst (kvs.map (·.2))))) X.xe s := by
    refine wpAny_Call_method (T := "dict") (id := "dict.values") hbase rfl hline PySem.F.plainAttrs_dict PySem.F.slot_dict_values PySem.F.type_dict_values (thn (he.run pins s σ H _ I h) fun u s1 ⟨x, H1, I1, rx, d, kvs, ex, hd, q⟩ => ?_)
    subst ex
    obtain rfl : u = Value.ref d := rx
    obtain ⟨z, lo, vs, rel, dd⟩ := dk_rd I1.hok hd
    refine ⟨dd.typeIs, dd.mapOf.noDict, ?_⟩
    show wpAny _ _ (callWith cpos (.builtin "dict.values") [.ref d] [] []) _ X.xe s1
    exact method_meetsIn PySem.F.slot_dict_values PySem.F.entry_dict_values rfl (PySem.evalArgs_none ⟨rfl, dd.typeIs, PySem.F.args_dict_values_1 _, _, meets_dict_values (mixKind X.prog X.w) d lo, ⟨vs, dd⟩, ⟨s1, d, kvs, H1, rfl, rfl, I1, hd, q⟩⟩)
  refine Call_ (ld_blt I hg hm boot_list (callWith_type1 (args_cons (thn hr fun x s' ⟨s1, d, kvs, H1, ex, es, I1, hd, q⟩ => args_nil ?_) na) na))
  subst ex
  subst es
  obtain ⟨z, lo, vs, rel, dd⟩ := dk_rd I1.hok hd
  obtain ⟨es, ep, raw, hsz, ent⟩ := dd.raw
  have hl : kvs.length = vs.length := Paired.length rel
  have hn : es.size ≤ sizeLine := by rw [hsz, ← hl]; exact z
  refine PySem.W.kdl_call (PySem.KdlSrc.rawValues (prog := X.prog) (w := X.w) (es := es) (ep := ep) (r := s1.heap.objs.size) (d := d)) (I1.ok.hd hc) ⟨⟨_, Heap.get?_push_size _ rfl, rfl, rfl⟩, raw.push _⟩ hn fun h' tk acc c' hk hD hacc => ?_
  have hz : (s1.heap.push { cls := .type "dict_values", data := .fields #[.ref d] }).objs.size = s1.heap.objs.size + 1 := Heap.size_push ..
  have hv : Vals (kvs.map (·.2)) acc.toList := vals_ext (by have h1 := hacc.1; have h2 : acc.toList.length = acc.size := Array.length_toList; rw [List.length_map]; omega) fun j x u e1 e2 => by
    rw [List.getElem?_map] at e1
    obtain ⟨p, e3, rfl⟩ := Option.map_eq_some_iff.mp e1
    obtain ⟨q, e4, _, r⟩ := kv_at rel e3
    obtain ⟨hi, e5⟩ := hacc.2 j u (by rw [← Array.getElem?_toList]; exact e2)
    rw [e5, (ent j hi q.1 q.2 e4).2]
    exact r
  have hk2 : ∀ b o, s1.heap.get? b = some o → h'.get? b = some o := fun b o e => hk b o (Heap.get?_push_of_some _ e)
  have hle : s1.heap.objs.size ≤ (s1.heap.push { cls := .type "dict_values", data := .fields #[.ref d] }).objs.size := by rw [hz]; exact Nat.le_succ _
  exact ⟨.ref _, upd H1 _ (.lst (kvs.map (·.2))), I1.laid (t' := tk) hk2 hle (show ObjOk X.prog X.w _ _ _ (.lst (kvs.map (·.2))) from ⟨by rw [List.length_map]; exact z, acc.toList, c', hv, by rw [Array.toArray_toList]; exact hD⟩), rfl, q _ (I1.hok.fresh hle)⟩
theorem vals_refs2 : ∀ as : List Addr, Vals (as.map V.ref) (as.map Value.ref)
  | [] => .nil
  | _ :: r => .cons rfl (vals_refs2 r)
def tListItems (td : TE) : TE := fun σ H Q => td σ H fun x H1 => ∃ d kvs, x = .ref d ∧ Rd H1 d (.dK kvs) ∧ ∀ H' l ts, Same H1 H' → H1 l = none → H' l = some (.lst (ts.map V.ref)) → Paired (fun (t : Addr) (kv : Key × V) => H' t = some (.tup [kV kv.1, kv.2])) ts kvs → Q (.ref l) H'
theorem paired_ext {α β : Type} {F : α → β → Prop} : ∀ {xs : List α} {us : List β}, xs.length = us.length → (∀ (j : Nat) x u, xs[j]? = some x → us[j]? = some u → F x u) → Paired F xs us
  | [], [], _, _ => .nil
  | x :: xs, u :: us, h, f => .cons (f 0 x u rfl rfl) (paired_ext (Nat.succ.inj h) fun j x u a b => f (j + 1) x u a b)
  | [], _ :: _, h, _ => by cases h
  | _ :: _, [], h, _ => by cases h
theorem pe_listItems {e : Expr} {td : TE} {p apos cpos pos : Pos} (hc : X.calm = true) (hm : X.mg "list" = none) (he : PE X e td) (hg : Gl X "list" := by rfl)
    (hbase : attributeBase e "items" X.env (eval e X.env) = eval e X.env := by rfl) (hline : (apos.endLine == cpos.line) = true := by rfl)
    (na : starEach [.Call (.Attribute e "items" apos) [] [] cpos] X.env = (false, eval (.Call (.Attribute e "items" apos) [] [] cpos) X.env) :: starEach [] X.env := by rfl) :
    PE X (.Call (.Name "list" p) [.Call (.Attribute e "items" apos) [] [] cpos] [] pos) (tListItems td) := by
  refine ⟨fun pins s σ H Q I h => ?_⟩
  have hr : wpAny (model X.prog X.w) X.A (eval (.Call (.Attribute e "items" apos) [] [] cpos) X.env) (fun x s' => ∃ (s1 : Shared) (d : Addr) (kvs : List (Key × V)) (H1 : Hp), x = .ref s1.heap.objs.size ∧ s' = { s1 with heap := s1.heap.push { cls := .type "dict_items", data := .fields #[.ref d] } } ∧ Inv X pins σ H1 s1 ∧
      Rd H1 d (.dK kvs) ∧ ∀ H' l ts, Same H1 H' → H1 l = none → H' l = some (.lst (ts.map V.ref)) → Paired (fun (t : Addr) (kv : Key × V) => H' t = some (.tup [kV kv.1, kv.2])) ts kvs → Q (.ref l) H') X.xe s := by
    refine wpAny_Call_method (T := "dict") (id := "dict.items") hbase rfl hline PySem.F.plainAttrs_dict PySem.F.slot_dict_items PySem.F.type_dict_items (thn (he.run pins s σ H _ I h) fun u s1 ⟨x, H1, I1, rx, d, kvs, ex, hd, q⟩ => ?_)
    subst ex
    obtain rfl : u = Value.ref d := rx
    obtain ⟨z, lo, vs, rel, dd⟩ := dk_rd I1.hok hd
    refine ⟨dd.typeIs, dd.mapOf.noDict, ?_⟩
    show wpAny _ _ (callWith cpos (.builtin "dict.items") [.ref d] [] []) _ X.xe s1
    exact method_meetsIn PySem.F.slot_dict_items PySem.F.entry_dict_items rfl (PySem.evalArgs_none ⟨rfl, dd.typeIs, PySem.F.args_dict_items_1 _, _, meets_dict_items (mixKind X.prog X.w) d lo, ⟨vs, dd⟩, ⟨s1, d, kvs, H1, rfl, rfl, I1, hd, q⟩⟩)
  refine Call_ (ld_blt I hg hm boot_list (callWith_type1 (args_cons (thn hr fun x s' ⟨s1, d, kvs, H1, ex, es, I1, hd, q⟩ => args_nil ?_) na) na))
  subst ex
  subst es
  obtain ⟨z, lo, vs, rel, dd⟩ := dk_rd I1.hok hd
  obtain ⟨es, ep, raw, hsz, ent⟩ := dd.raw
  have hl : kvs.length = vs.length := Paired.length rel
  have hn : es.size ≤ sizeLine := by rw [hsz, ← hl]; exact z
  have hz : (s1.heap.push { cls := .type "dict_items", data := .fields #[.ref d] }).objs.size = s1.heap.objs.size + 1 := Heap.size_push ..
  refine PySem.W.dil_call (es := es) (ep := ep) (r := s1.heap.objs.size) (d := d) (I1.ok.hd hc) ⟨_, Heap.get?_push_size _ rfl, rfl, rfl⟩ (raw.push _) hn fun h' tk acc c' as hk hD hal hG hacc => ?_
  generalize hS : (s1.heap.push { cls := .type "dict_items", data := .fields #[.ref d] }).objs.size = S at hD hG hk ⊢
  have hS1 : s1.heap.objs.size < S := by rw [← hS, hz]; exact Nat.lt_succ_self _
  have hk2 : ∀ b o, s1.heap.get? b = some o → h'.get? b = some o := fun b o e => hk b o (Heap.get?_push_of_some _ e)
  have hfree : ∀ b, s1.heap.objs.size ≤ b → H1 b = none := fun b hb => I1.hok.fresh hb
  have nd : as.Nodup := hG.rise.imp fun h => Nat.ne_of_lt h
  have hab : ∀ a ∈ as, S < a := hG.above
  let H2 : Hp := fun b => if b = S then some (.lst (as.map V.ref)) else if b ∈ as then (kvs[as.idxOf b]?).map (fun kv => .tup [kV kv.1, kv.2]) else H1 b
  have e1 : H2 S = some (.lst (as.map V.ref)) := if_pos rfl
  have e2 : ∀ (j : Nat) (a : Addr) (kv : Key × V), as[j]? = some a → kvs[j]? = some kv → H2 a = some (.tup [kV kv.1, kv.2]) := fun j a kv ha hkv => by
    have hm : a ∈ as := List.mem_of_getElem? ha
    have hi : as.idxOf a = j := by
      obtain ⟨h1, h2⟩ := List.getElem?_eq_some_iff.mp ha
      have h3 : as.idxOf a < as.length := List.idxOf_lt_length_iff.mpr hm
      have h4 : as[as.idxOf a] = a := List.getElem_idxOf h3
      exact (List.getElem_inj nd).mp (h4.trans h2.symm)
    show (if a = S then _ else if a ∈ as then _ else _) = _
    rw [if_neg (Nat.ne_of_gt (hab a hm)), if_pos hm, hi, hkv]
    rfl
  have sm : Same H1 H2 := fun b o e => by
    have hb : b < s1.heap.objs.size := (I1.hok b o e).lt
    show (if b = S then _ else if b ∈ as then _ else _) = _
    rw [if_neg (Nat.ne_of_lt (Nat.lt_trans hb hS1)), if_neg (fun hm => Nat.lt_asymm (hab b hm) (Nat.lt_trans hb hS1))]
    exact e
  have I2 : Inv X pins σ H2 { s1 with heap := h', toks := tk } := by
    refine I1.laids hk2 sm (fun b hb hn => ?_) fun b o hn ho => ?_
    · show (if b = S then _ else if b ∈ as then _ else _) = _
      rw [if_neg (Nat.ne_of_lt (Nat.lt_trans hb hS1)), if_neg (fun hm => Nat.lt_asymm (hab b hm) (Nat.lt_trans hb hS1))]
      exact hn
    · have ho2 : (if b = S then some (.lst (as.map V.ref)) else if b ∈ as then (kvs[as.idxOf b]?).map (fun kv => HO.tup [kV kv.1, kv.2]) else H1 b) = some o := ho
      by_cases hb : b = S
      · rw [if_pos hb] at ho2
        subst hb
        obtain rfl : HO.lst (as.map V.ref) = o := Option.some.inj ho2
        refine ⟨by rw [List.length_map, hal, hsz, ← hl]; exact z, acc.toList, c', ?_, by rw [Array.toArray_toList]; exact hD⟩
        rw [hacc]
        exact vals_refs2 as
      · rw [if_neg hb] at ho2
        by_cases hm : b ∈ as
        · rw [if_pos hm] at ho2
          obtain ⟨kv, hkv, rfl⟩ := Option.map_eq_some_iff.mp ho2
          have h3 : as.idxOf b < as.length := List.idxOf_lt_length_iff.mpr hm
          have h4 : as[as.idxOf b]? = some b := by rw [List.getElem?_eq_getElem h3, List.getElem_idxOf]
          obtain ⟨hj, hg⟩ := hG.pairs _ _ h4
          obtain ⟨q2, hq, ek, rq⟩ := kv_at rel hkv
          obtain ⟨ik, ev⟩ := ent _ hj q2.1 q2.2 hq
          refine ⟨by show 2 ≤ sizeLine; decide, [es[as.idxOf b].key, es[as.idxOf b].val], .cons ?_ (.cons (by rw [ev]; exact rq) .nil), ⟨_, hg, rfl, _, rfl⟩⟩
          rw [ek]
          rcases keyIs_shape (show keyIs q2.1 es[as.idxOf b].key = true from ik) with ⟨m, t, e5, e6⟩ | ⟨m, t, e5, e6⟩
          · rw [e5, e6]
            exact ⟨t, rfl⟩
          · rw [e5, e6]
            exact ⟨t, rfl⟩
        · rw [if_neg hm, hn] at ho2
          cases ho2
  exact ⟨.ref S, H2, I2, rfl, q H2 S as sm (hfree S (Nat.le_of_lt hS1)) e1 (paired_ext (by rw [hal, hsz, hl]) fun j a kv ha hkv => e2 j a kv ha hkv)⟩
end L2
/-! Own rule: y = {k: v for ..}, the block's own name a local of the def too. -/
namespace L2
open PySem PySem.Spec PyProof.Rows
section
variable {X : Cx}
theorem ps_setDc {i : Nat} {y : Str} {py : Pos} {kx vx tg iter : Expr} {ifs : List Expr} {scope : Scope} {own : List (Str × Nat)} {pos spos : Pos} {wi : TI} {g : TG} {tt : TT} {tk tv : TE} (hc : X.calm = true) (hN : X.N.Nodup) (hy : X.N[i]? = some y) (hyl : X.env.scope.names.lookup y = some .local)
    (hsw : swapsWith (.DictComp kx vx [⟨tg, iter, ifs, 0⟩] scope pos) (some (.Name y py)) spos.line X.env = pure true) (hi : PI X tg iter wi) (ok : BlkOk X.N X.env.scope scope own)
    (hg : ∀ (s : Shared) (H : Hp) (C : Addr) (cl : List (Str × Addr)) (fp : List Addr), PG (X.blk s H scope (compEnvC scope cl C X.env) fp) tg g) (ht : ∀ (s : Shared) (H : Hp) (C : Addr) (cl : List (Str × Addr)) (fp : List Addr), PTs (X.blk s H scope (compEnvC scope cl C X.env) fp) ifs tt)
    (hk : ∀ (s : Shared) (H : Hp) (C : Addr) (cl : List (Str × Addr)) (fp : List Addr), PE (X.blk s H scope (compEnvC scope cl C X.env) fp) kx tk)
    (he : ∀ (s : Shared) (H : Hp) (C : Addr) (cl : List (Str × Addr)) (fp : List Addr), PE (X.blk s H scope (compEnvC scope cl C X.env) fp) vx tv) (hs : ∀ x, foldedSetIterable iter X.env x = pure x := by intro _; rfl) :
    PS X (.Assign [.Name y py] (.DictComp kx vx [⟨tg, iter, ifs, 0⟩] scope pos) spos) (tAsg (tDc wi g tt tk tv (own.map (·.2))) (gName i)) := by
  refine ⟨fun pins s σ H D I h => ?_⟩
  rw [exec_Assign_Name_used _ _ _ _ hsw]
  refine wpAny_bind (wpAny_standAt (wpAny_bind ?_))
  show wpAny _ X.A (do let _ ← comprehension (.DictComp kx vx [⟨tg, iter, ifs, 0⟩] scope pos) scope X.env (firstIterPos [⟨tg, iter, ifs, 0⟩] pos) newDict false (eval iter X.env) (some (assign (.Name y py) X.env))) _ _ s
  have h : tDc wi g tt tk tv (own.map (·.2)) σ H (fun x H1 => gName i x σ H1 D.nx) := h
  refine wpAny_bind (thn (dc_core (Qf := fun _ s' => SP X pins D .next s') hc hN I hi ok hg ht hk he hs h fun L C s' m H' I' q hn f => ?_) fun _ s' hq => wpAny_pure (wpAny_pure hq))
  show wpAny _ _ (assign (.Name y py) X.env (.ref L)) _ _ _
  refine wpAny_assign_Name (store_ok2 (v := V.ref L) I' hN hy (.inl hyl) rfl (fun s2 I2 ⟨a, sb, ha⟩ => ?_) (.inr hyl))
  obtain ⟨f0, f1, f2, f3, f4, f5⟩ := f
  have haC : C ≠ a := by
    rcases ha with z | z
    · rw [z]; exact f1
    · exact fun e => f4 y a z e.symm
  refine ⟨m, hn.sameBut sb haC, fun h3 sb3 => ?_⟩
  exact ⟨_, H', I2.turned (t' := s2.toks) (fun b o hb e => (sb3.2 b hb).trans e) f0 f1 f3 f4 f5, q⟩
theorem swd_true {kx vx : Expr} {gs : List Comprehension} {scope : Scope} {pos py : Pos} {y : Str} {l : Nat} {env : Env} (hk : env.scope.kind = .function) (hy : env.scope.names.lookup y = some .local) (hl : (py.line == pos.line) = true)
    (ha : (scope.names.any fun (n, k) => n == y && (k == .local || k == .cell)) = false) : swapsWith (.DictComp kx vx gs scope pos) (some (.Name y py)) l env = pure true := by
  have ky : env.kindOf y = some .local := hy
  have hb : env.blockKind = .function := by unfold Env.blockKind; rw [hk]; rfl
  unfold swapsWith
  simp only [hb, ky, ha, Expr.pos, hl]
  rfl
end
end L2
/-! Own rule: list(range(a, b, c)), c from 1 on. -/
namespace L2
open PySem PySem.Spec PyProof.Rows
theorem range_small {a b c : Int} (a0 : 0 ≤ a) (b0 : 0 ≤ b) (c0 : 0 < c) (a1 : a ≤ 100000) (b1 : b ≤ 100000) (c1 : c ≤ 100000) : Builtin.Range.small a b c = true ∧ Builtin.Range.rangeSize a b c ≤ 100000 ∧ 0 ≤ Builtin.Range.rangeSize a b c := by
  have hs : Builtin.Range.rangeSize a b c ≤ 100000 ∧ 0 ≤ Builtin.Range.rangeSize a b c := by
    unfold Builtin.Range.rangeSize
    rw [if_pos (show c > 0 from c0)]
    split
    · have h1 : (b - a - 1) / c ≤ b - a - 1 := Int.ediv_le_self _ (by omega)
      have h2 : 0 ≤ (b - a - 1) / c := Int.ediv_nonneg (by omega) (by omega)
      omega
    · omega
  refine ⟨?_, hs⟩
  obtain ⟨s1, s2⟩ := hs
  unfold Builtin.Range.small
  rw [if_pos (show c > 0 from c0)]
  simp only [Builtin.Range.rangeFitsLong, Bool.and_eq_true, Bool.or_eq_true, decide_eq_true_eq]
  refine ⟨⟨⟨⟨?_, ?_⟩, ?_⟩, ?_⟩, .inr ?_⟩ <;> omega
/-- the numbers from a on below b, by c -/
def rgC (a b c : Int) : List Int := (List.range (Builtin.Range.rangeSize a b c).toNat).map fun k : Nat => a + (k : Int) * c
def tListRgC (ta : TA) : TE := fun σ H Q => ta σ H fun vs H1 => ∃ i j c : Int, vs = [.int i, .int j, .int c] ∧ (0 ≤ i ∧ 0 ≤ j ∧ 0 < c ∧ i ≤ 100000 ∧ j ≤ 100000 ∧ c ≤ 100000) ∧ ∀ q, H1 q = none → Q (.ref q) (upd H1 q (.lst ((rgC i j c).map V.int)))
theorem pe_listRgC {X : Cx} {a b c : Expr} {ta : TA} {p p2 pos pos2 : Pos} (hc : X.calm = true) (hm : X.mg "list" = none) (hm2 : X.mg "range" = none) (ha : PA X [a, b, c] ta) (hg : Gl X "list" := by rfl) (hg2 : Gl X "range" := by rfl)
    (hs : starEach [a, b, c] X.env = (false, eval a X.env) :: starEach [b, c] X.env := by rfl) (hpl : (backTo pos2 (starEach [b, c] X.env)).any (·.1) = false := by rfl)
    (na : starEach [.Call (.Name "range" p2) [a, b, c] [] pos2] X.env = (false, eval (.Call (.Name "range" p2) [a, b, c] [] pos2) X.env) :: starEach [] X.env := by rfl) :
    PE X (.Call (.Name "list" p) [.Call (.Name "range" p2) [a, b, c] [] pos2] [] pos) (tListRgC ta) := by
  refine ⟨fun pins s σ H Q I h => ?_⟩
  have hr : wpAny (model X.prog X.w) X.A (eval (.Call (.Name "range" p2) [a, b, c] [] pos2) X.env) (fun x s' => ∃ (r : Addr) (i j k : Int) (t u v : Tok) (H' : Hp), x = .ref r ∧ IsRange s'.heap r i j k t u v ∧ Inv X pins σ H' s' ∧
      (0 ≤ i ∧ 0 ≤ j ∧ 0 < k ∧ i ≤ 100000 ∧ j ≤ 100000 ∧ k ≤ 100000) ∧ ∀ q, H' q = none → Q (.ref q) (upd H' q (.lst ((rgC i j k).map V.int)))) X.xe s := by
    refine Call_ (ld_blt I hg2 hm2 boot_range (callWith_type1 (thn (ha.run pos2 pins s σ H _ I h) fun us s1 ⟨vs, H1, I1, r1, q1⟩ => ?_) hs hpl))
    obtain ⟨i, j, k, rfl, ok, q⟩ := q1
    cases r1 with
    | cons r rr =>
      cases rr with
      | cons r' rr =>
        cases rr with
        | cons r'' rr =>
          cases rr
          obtain ⟨t, rfl⟩ := r; obtain ⟨t', rfl⟩ := r'; obtain ⟨t'', rfl⟩ := r''
          exact call_range_3 (by omega) ⟨_, i, j, k, _, _, _, H1, rfl, IsRange.new .., I1.kept (t' := s1.toks) fun b o e => Heap.get?_push_of_some _ e, ok, q⟩ (.inl (PyProof.noPylong_small (by omega)))
  refine Call_ (ld_blt I hg hm boot_list (callWith_type1 (args_cons (thn hr fun x s1 ⟨r, i, j, k, t, u, v, H1, ex, hr, I1, ok, q⟩ => args_nil ?_) na) na))
  subst ex
  obtain ⟨o1, o2, o3, o4, o5, o6⟩ := ok
  obtain ⟨sm, s1', s2'⟩ := range_small o1 o2 o3 o4 o5 o6
  refine call_list_range (n := (Builtin.Range.rangeSize i j k).toNat) (I1.ok.hd hc) hr sm (by omega) (by omega) fun h' tk acc c' hk e' hi => ?_
  have hl : acc.toList.length = (Builtin.Range.rangeSize i j k).toNat := by rw [Array.length_toList]; exact hi.1
  have hv : Vals ((rgC i j k).map V.int) acc.toList := by
    unfold rgC
    rw [← hl, List.map_map]
    refine vals_of_get acc.toList _ fun m w hm => ?_
    obtain ⟨t, rfl⟩ := hi.2 m w (by rw [← hm, Array.getElem?_toList])
    exact ⟨t, rfl⟩
  refine ⟨.ref s1.heap.objs.size, upd H1 s1.heap.objs.size (.lst ((rgC i j k).map V.int)), I1.laid hk (Nat.le_refl _) (show ObjOk X.prog X.w _ _ _ (.lst ((rgC i j k).map V.int)) from ⟨?_, acc.toList, c', hv, by rw [Array.toArray_toList]; exact e'⟩), rfl, q _ (I1.hok.fresh (Nat.le_refl _))⟩
  unfold rgC
  rw [List.length_map, List.length_map, List.length_range, sizeLine_eq]
  omega
end L2
/-! Rests. -/
namespace GL
open PySem PySem.Spec PyProof.Rows L2
theorem gcd_pos {m n : Int} (hm : 0 < m) : 0 < (Int.gcd m n : Int) := by
  have : Int.gcd m n ≠ 0 := fun e => by
    rw [Int.gcd_eq_zero_iff] at e
    omega
  omega
theorem dvd_of_emod {a b : Int} (h : a % b = 0) : b ∣ a := Int.dvd_of_emod_eq_zero h
theorem emod_iff {a b : Int} : a % b = 0 ↔ b ∣ a := ⟨Int.dvd_of_emod_eq_zero, Int.emod_eq_zero_of_dvd⟩
/-- parts by the greatest common divisor have none in common -/
theorem coprime_parts {m n : Int} (hm : 0 < m) : Int.gcd (m / (Int.gcd m n : Int)) (n / (Int.gcd m n : Int)) = 1 := by
  have hg := gcd_pos (n := n) hm
  obtain ⟨a, ha⟩ := Int.gcd_dvd_left (a := m) (b := n)
  obtain ⟨b, hb⟩ := Int.gcd_dvd_right (a := m) (b := n)
  generalize hG : (Int.gcd m n : Int) = G at *
  have e1 : m / G = a := by rw [ha]; exact Int.mul_ediv_cancel_left _ (by omega)
  have e2 : n / G = b := by rw [hb]; exact Int.mul_ediv_cancel_left _ (by omega)
  rw [e1, e2]
  have h : Int.gcd (G * a) (G * b) = G.natAbs * Int.gcd a b := Int.gcd_mul_left ..
  rw [← ha, ← hb] at h
  have hGn : G.natAbs = Int.gcd m n := by rw [← hG]; exact Int.natAbs_natCast _
  rw [hGn] at h
  have hpos : 0 < Int.gcd m n := by omega
  have : Int.gcd m n * 1 = Int.gcd m n * Int.gcd a b := by rw [Nat.mul_one]; exact h
  exact (Nat.eq_of_mul_eq_mul_left hpos this).symm
/-- one step of the common rest -/
theorem crt_step {r m s n inv : Int} (hm : 0 < m) (hn : 0 < n) (h0 : 0 ≤ r) (h1 : r < m) (hs0 : 0 ≤ s) (hs1 : s < n) (hd : (s - r) % (Int.gcd m n : Int) = 0)
    (hi : (n / (Int.gcd m n : Int)) ∣ (m / (Int.gcd m n : Int)) * inv - 1) :
    let p := n / (Int.gcd m n : Int)
    let st := ((s - r) / (Int.gcd m n : Int) * inv) % p
    0 < p ∧ 0 ≤ r + m * st ∧ r + m * st < m * p ∧ (r + m * st) % m = r ∧ (r + m * st) % n = s := by
  have hg := gcd_pos (n := n) hm
  obtain ⟨a, ha⟩ := Int.gcd_dvd_left (a := m) (b := n)
  obtain ⟨b, hb⟩ := Int.gcd_dvd_right (a := m) (b := n)
  obtain ⟨k, hk⟩ := dvd_of_emod hd
  generalize (Int.gcd m n : Int) = G at *
  have e1 : m / G = a := by rw [ha]; exact Int.mul_ediv_cancel_left _ (by omega)
  have e2 : n / G = b := by rw [hb]; exact Int.mul_ediv_cancel_left _ (by omega)
  have e3 : (s - r) / G = k := by rw [hk]; exact Int.mul_ediv_cancel_left _ (by omega)
  rw [e1, e2] at hi
  have hb0 : 0 < b := by
    rcases Int.lt_trichotomy b 0 with c | c | c
    · have : G * b < 0 := Int.mul_neg_of_pos_of_neg hg c
      omega
    · rw [c, Int.mul_zero] at hb
      omega
    · exact c
  intro p st
  have ep : p = b := e2
  have est : st = (k * inv) % b := by show ((s - r) / G * inv) % (n / G) = _; rw [e2, e3]
  have t0 : 0 ≤ st := by rw [est]; exact Int.emod_nonneg _ (by omega)
  have t1 : st < b := by rw [est]; exact Int.emod_lt_of_pos _ hb0
  have q0 : 0 ≤ m * st := Int.mul_nonneg (by omega) t0
  have q1 : m * st ≤ m * (b - 1) := Int.mul_le_mul_of_nonneg_left (by omega) (by omega)
  refine ⟨by rw [ep]; exact hb0, by omega, ?_, ?_, ?_⟩
  · rw [ep]
    have : m * (b - 1) = m * b - m := by rw [Int.mul_sub, Int.mul_one]
    omega
  · rw [Int.add_mul_emod_self_left]
    exact Int.emod_eq_of_lt h0 h1
  · obtain ⟨c, hc⟩ := hi
    -- st = k * inv - b * q
    have hq : st = k * inv - b * (k * inv / b) := by
      rw [est]
      have := Int.emod_add_mul_ediv (k * inv) b
      omega
    have key : r + m * st = s + n * (k * c - a * (k * inv / b)) := by
      have e4 : r = s - G * k := by omega
      rw [hq, e4, ha, hb]
      have e5 : a * inv = b * c + 1 := by omega
      have : G * a * (k * inv - b * (k * inv / b)) = G * k * (a * inv) - G * b * (a * (k * inv / b)) := by
        rw [Int.mul_sub]
        congr 1
        · rw [Int.mul_assoc, Int.mul_assoc, ← Int.mul_assoc a, Int.mul_comm a k, Int.mul_assoc k]
        · rw [Int.mul_assoc, Int.mul_assoc, ← Int.mul_assoc a, Int.mul_comm a b, Int.mul_assoc b]
      rw [this, e5, Int.mul_add, Int.mul_one, Int.mul_sub]
      have : G * k * (b * c) = G * b * (k * c) := by
        rw [Int.mul_assoc, Int.mul_assoc, ← Int.mul_assoc k, Int.mul_comm k b, Int.mul_assoc b]
      rw [this]
      omega
    rw [key, Int.add_mul_emod_self_left]
    exact Int.emod_eq_of_lt hs0 hs1
/-- no number has both where the divisor parts them -/
theorem crt_none {r m s n x : Int} (h1 : x % m = r) (h2 : x % n = s) : (s - r) % (Int.gcd m n : Int) = 0 := by
  rw [emod_iff]
  have a : m ∣ x - r := by rw [← h1]; exact Int.dvd_self_sub_emod
  have b : n ∣ x - s := by rw [← h2]; exact Int.dvd_self_sub_emod
  have a' := Int.dvd_trans (Int.gcd_dvd_left (a := m) (b := n)) a
  have b' := Int.dvd_trans (Int.gcd_dvd_right (a := m) (b := n)) b
  have := Int.dvd_sub a' b'
  rwa [show x - r - (x - s) = s - r by omega] at this
/-- all common multiples are multiples of m * (n / g) -/
theorem lcm_dvd {m n d : Int} (hm : 0 < m) (h1 : m ∣ d) (h2 : n ∣ d) : m * (n / (Int.gcd m n : Int)) ∣ d := by
  have hg := gcd_pos (n := n) hm
  have hc := coprime_parts (n := n) hm
  obtain ⟨a, ha⟩ := Int.gcd_dvd_left (a := m) (b := n)
  obtain ⟨b, hb⟩ := Int.gcd_dvd_right (a := m) (b := n)
  generalize (Int.gcd m n : Int) = G at *
  have e1 : m / G = a := by rw [ha]; exact Int.mul_ediv_cancel_left _ (by omega)
  have e2 : n / G = b := by rw [hb]; exact Int.mul_ediv_cancel_left _ (by omega)
  rw [e1, e2] at hc
  rw [e2]
  obtain ⟨x, hx⟩ := h1
  obtain ⟨y, hy⟩ := h2
  have h3 : a * x = b * y := by
    have : G * (a * x) = G * (b * y) := by rw [← Int.mul_assoc, ← Int.mul_assoc, ← ha, ← hb, ← hx, ← hy]
    exact Int.eq_of_mul_eq_mul_left (by omega) this
  have h4 : b ∣ a * x := ⟨y, h3⟩
  have h5 : b ∣ x := by
    have h6 := Int.natAbs_dvd_natAbs.mpr h4
    rw [Int.natAbs_mul] at h6
    have hc' : Nat.Coprime b.natAbs a.natAbs := by
      have : Nat.gcd a.natAbs b.natAbs = 1 := hc
      exact (Nat.gcd_comm _ _).trans this
    exact Int.natAbs_dvd_natAbs.mp (hc'.dvd_of_dvd_mul_left h6)
  obtain ⟨z, hz⟩ := h5
  exact ⟨z, by rw [hx, hz, Int.mul_assoc]⟩
theorem crt_one {m n x y : Int} (hm : 0 < m) (h0 : 0 ≤ x) (h1 : x < m * (n / (Int.gcd m n : Int))) (k0 : 0 ≤ y) (k1 : y < m * (n / (Int.gcd m n : Int))) (a : x % m = y % m) (b : x % n = y % n) : x = y := by
  have d1 : m ∣ x - y := by rw [← emod_iff, Int.sub_emod, a, Int.sub_self, Int.zero_emod]
  have d2 : n ∣ x - y := by rw [← emod_iff, Int.sub_emod, b, Int.sub_self, Int.zero_emod]
  have d := lcm_dvd hm d1 d2
  generalize m * (n / (Int.gcd m n : Int)) = L at *
  have e1 := Int.emod_eq_of_lt h0 h1
  have e2 := Int.emod_eq_of_lt k0 k1
  have : x % L = y % L := by
    rw [← emod_iff] at d
    exact Int.emod_eq_emod_iff_emod_sub_eq_zero.mpr d
  omega
/-- what holds all along of the numbers by which the inverse is reckoned -/
structure InvW (a p h l t o : Int) : Prop where
  hp : 0 < h
  l0 : 0 ≤ l
  cop : Int.gcd h l = 1
  dt : p ∣ a * t - h
  dO : p ∣ a * o - l
  ab : ∃ A B : Int, 0 ≤ A ∧ A ≤ p ∧ 0 ≤ B ∧ B ≤ p ∧ B * h + A * l = p ∧ ((t = A ∧ o = -B) ∨ (t = -A ∧ o = B))
theorem InvW.start {a p : Int} (ha : 0 < a) (hp : 0 < p) (hc : Int.gcd a p = 1) : InvW a p a p 1 0 :=
  ⟨ha, by omega, hc, ⟨0, by rw [Int.mul_one, Int.sub_self, Int.mul_zero]⟩, ⟨-1, by rw [Int.mul_zero]; omega⟩, 1, 0, by omega, by omega, by omega, by omega, by rw [Int.zero_mul, Int.one_mul, Int.zero_add], .inl ⟨rfl, rfl⟩⟩
theorem InvW.step {a p h l t o : Int} (W : InvW a p h l t o) (hl : 0 < l) : InvW a p l (h - h / l * l) o (t - h / l * o) := by
  obtain ⟨hp, l0, cop, dt, dO, A, B, A0, A1, B0, B1, e, sg⟩ := W
  have hq : 0 ≤ h / l := Int.ediv_nonneg (by omega) l0
  have hm : h - h / l * l = h % l := by
    have := Int.emod_add_mul_ediv h l
    rw [Int.mul_comm l] at this
    omega
  have m0 : 0 ≤ h % l := Int.emod_nonneg _ (by omega)
  have B2 : 0 ≤ A + h / l * B := by have := Int.mul_nonneg hq B0; omega
  have key : (A + h / l * B) * l + B * (h - h / l * l) = p := by
    rw [Int.add_mul, Int.mul_sub, ← e, Int.mul_assoc (h / l), Int.mul_comm B l, ← Int.mul_assoc (h / l), Int.mul_comm (h / l * l) B, Int.mul_comm B h, Int.mul_comm A l]
    omega
  refine ⟨hl, by rw [hm]; exact m0, ?_, dO, ?_, B, A + h / l * B, B0, B1, B2, ?_, key, ?_⟩
  · rw [Int.gcd_sub_mul_right_right, Int.gcd_comm]
    exact cop
  · obtain ⟨x, hx⟩ := dt
    obtain ⟨y, hy⟩ := dO
    refine ⟨x - h / l * y, ?_⟩
    have e1 : a * (t - h / l * o) - (h - h / l * l) = (a * t - h) - h / l * (a * o - l) := by
      rw [Int.mul_sub, Int.mul_sub, ← Int.mul_assoc a, Int.mul_comm a (h / l), Int.mul_assoc (h / l)]
      omega
    rw [e1, hx, hy, Int.mul_sub, ← Int.mul_assoc p, Int.mul_comm p (h / l), Int.mul_assoc (h / l)]
  · have n1 : 0 ≤ B * (h - h / l * l) := Int.mul_nonneg B0 (by rw [hm]; exact m0)
    have n2 : (A + h / l * B) * 1 ≤ (A + h / l * B) * l := Int.mul_le_mul_of_nonneg_left (by omega) B2
    rw [Int.mul_one] at n2
    omega
  · rcases sg with ⟨rfl, rfl⟩ | ⟨rfl, rfl⟩
    · refine .inr ⟨rfl, ?_⟩
      rw [Int.mul_neg]
      omega
    · refine .inl ⟨rfl, ?_⟩
      omega
theorem InvW.fin {a p h t o : Int} (W : InvW a p h 0 t o) : p ∣ a * t - 1 ∧ t.natAbs ≤ p.natAbs := by
  obtain ⟨hp, l0, cop, dt, dO, A, B, A0, A1, B0, B1, e, sg⟩ := W
  have : h = 1 := by
    rw [Int.gcd_zero_right] at cop
    omega
  rw [this] at dt
  exact ⟨dt, by rcases sg with ⟨rfl, _⟩ | ⟨rfl, _⟩ <;> omega⟩
theorem InvW.bound {a p h l t o : Int} (W : InvW a p h l t o) : o.natAbs ≤ p.natAbs ∧ t.natAbs ≤ p.natAbs := by
  obtain ⟨hp, l0, cop, dt, dO, A, B, A0, A1, B0, B1, e, sg⟩ := W
  rcases sg with ⟨rfl, rfl⟩ | ⟨rfl, rfl⟩ <;> omega
/-! ### promises -/
/-- a rest stands at t -/
structure RestAt (H : Hp) (t : Addr) (r m : Int) : Prop where
  at' : H t = some (.tup [.int r, .int m])
  r0 : 0 ≤ r
  rm : r < m
  big : m.natAbs < 2 ^ 4000
theorem RestAt.same {H H' : Hp} {t : Addr} {r m : Int} (h : RestAt H t r m) (s : Same H H') : RestAt H' t r m := ⟨s _ _ h.at', h.r0, h.rm, h.big⟩
theorem RestAt.mod {H H' : Hp} {t S C : Addr} {r m : Int} (h : RestAt H t r m) (s : Mod S C H H') (st : StOk H S C) : RestAt H' t r m := ⟨s.other st h.at' (fun _ z => nomatch z), h.r0, h.rm, h.big⟩
theorem RestAt.pos {H : Hp} {t : Addr} {r m : Int} (h : RestAt H t r m) : 0 < m := by have := h.r0; have := h.rm; omega
def spIsInt : Sp := fun vs H Q _ => ∃ z : Int, vs = [.int z] ∧ Q (.bl true) H
def spIsRest : Sp := fun vs H Q _ => ∃ (t : Addr) (r m : Int), vs = [.ref t] ∧ RestAt H t r m ∧ Q (.bl true) H
def spChRest : Sp := fun vs H Q _ => ∃ (t : Addr) (r m : Int), vs = [.ref t] ∧ RestAt H t r m ∧ Q .non H
def spChNum : Sp := fun vs H Q _ => ∃ z : Int, vs = [.int z] ∧ Q .non H
def spHas : Sp := fun vs H Q _ => ∃ (t : Addr) (r m z : Int), vs = [.ref t, .int z] ∧ RestAt H t r m ∧ Q (.bl (decide (z % m = r))) H
def spLeast : Sp := fun vs H Q _ => ∃ (t : Addr) (r m : Int), vs = [.ref t] ∧ RestAt H t r m ∧ Q (.int r) H
def spMoved : Sp := fun vs H Q _ => ∃ (t : Addr) (r m k : Int), vs = [.ref t, .int k] ∧ RestAt H t r m ∧ ∀ H' q, Same H H' → H q = none → RestAt H' q ((r + k) % m) m → Q (.ref q) H'
def spInv : Sp := fun vs H Q _ => ∃ a p : Int, vs = [.int a, .int p] ∧ 0 < a ∧ 0 < p ∧ a.natAbs < 2 ^ 4000 ∧ p.natAbs < 2 ^ 4000 ∧ Int.gcd a p = 1 ∧ ∀ (H' : Hp) (t : Int), Same H H' → p ∣ a * t - 1 → t.natAbs ≤ p.natAbs → Q (.int t) H'
def spBoth : Sp := fun vs H Q _ => ∃ (t u : Addr) (r m s n : Int), vs = [.ref t, .ref u] ∧ RestAt H t r m ∧ RestAt H u s n ∧
  (¬ (s - r) % (Int.gcd m n : Int) = 0 → Q .non H) ∧
  ((s - r) % (Int.gcd m n : Int) = 0 → ∀ H' q x, Same H H' → H q = none → H' q = some (.tup [.int x, .int (m * (n / (Int.gcd m n : Int)))]) → 0 ≤ x → x < m * (n / (Int.gcd m n : Int)) → x % m = r → x % n = s → Q (.ref q) H')
def spBetween : Sp := fun vs H Q _ => ∃ (z lo hi : Int), vs = [.int z, .int lo, .int hi] ∧ lo ≤ z ∧ z ≤ hi ∧ Q .non H
def spBy : Sp := fun vs H Q _ => ∃ (t : Addr) (r m k : Int), vs = [.ref t, .int k] ∧ RestAt H t r m ∧ 1 ≤ k ∧ k ≤ 1000 ∧ ∀ H' q, Same H H' → H q = none → H' q = some (.lst ((rgC (r % (Int.gcd m k : Int)) k (Int.gcd m k : Int)).map V.int)) → Q (.ref q) H'
end GL
namespace GL
open PySem PySem.Spec PyProof.Rows L2
def spGreat : Sp := fun vs H Q _ => ∃ (S C : Addr) (f : Int), vs = [.ref S, .int f] ∧ 0 ≤ f ∧ f ≤ 100 ∧ StOk H S C ∧ ∀ H' z, Mod S C H H' → StOk H' S C → 0 ≤ z → z < 10 ^ f.toNat → Q (.int z) H'
end GL
/-! Far rounds: going on by a map, counting who is last. -/
namespace GL
open PySem PySem.Spec PyProof.Rows L2
def itn (f : Str → Str) : Nat → Str → Str
  | 0, x => x
  | k + 1, x => itn f k (f x)
/-- how often y is the last one in the first k rounds -/
def lcn (f l : Str → Str) : Nat → Str → Str → Nat
  | 0, _, _ => 0
  | k + 1, x, y => (if l x = y then 1 else 0) + lcn f l k (f x) y
theorem itn_add {f : Str → Str} : ∀ (a b : Nat) (x : Str), itn f (a + b) x = itn f b (itn f a x)
  | 0, b, x => by rw [Nat.zero_add]; rfl
  | a + 1, b, x => by
    rw [Nat.add_right_comm]
    exact itn_add a b (f x)
theorem itn_succ {f : Str → Str} (k : Nat) (x : Str) : itn f (k + 1) x = f (itn f k x) := itn_add k 1 x
theorem lcn_add {f l : Str → Str} : ∀ (a b : Nat) (x y : Str), lcn f l (a + b) x y = lcn f l a x y + lcn f l b (itn f a x) y
  | 0, b, x, y => by rw [Nat.zero_add]; show _ = 0 + lcn f l b x y; rw [Nat.zero_add]
  | a + 1, b, x, y => by
    rw [Nat.add_right_comm]
    show (if l x = y then 1 else 0) + lcn f l (a + b) (f x) y = (if l x = y then 1 else 0) + lcn f l a (f x) y + lcn f l b (itn f a (f x)) y
    rw [lcn_add a b, Nat.add_assoc]
theorem lcn_succ {f l : Str → Str} (k : Nat) (x y : Str) : lcn f l (k + 1) x y = lcn f l k x y + (if l (itn f k x) = y then 1 else 0) := by
  rw [lcn_add k 1]
  rfl
theorem itn_mem {f : Str → Str} {ns : List Str} (h : ∀ x ∈ ns, f x ∈ ns) : ∀ (k : Nat) {x : Str}, x ∈ ns → itn f k x ∈ ns
  | 0, _, hx => hx
  | k + 1, _, hx => itn_mem h k (h _ hx)
theorem itn_turns {f : Str → Str} {x : Str} {c : Nat} (h : itn f c x = x) : ∀ q : Nat, itn f (q * c) x = x
  | 0 => by rw [Nat.zero_mul]; rfl
  | q + 1 => by rw [Nat.succ_mul, Nat.add_comm, itn_add, h]; exact itn_turns h q
theorem lcn_turns {f l : Str → Str} {x y : Str} {c : Nat} (h : itn f c x = x) : ∀ q : Nat, lcn f l (q * c) x y = q * lcn f l c x y
  | 0 => by rw [Nat.zero_mul, Nat.zero_mul]; rfl
  | q + 1 => by rw [Nat.succ_mul, Nat.add_comm, lcn_add, h, lcn_turns h q, Nat.succ_mul, Nat.add_comm]
theorem lcn_le {f l : Str → Str} : ∀ (k : Nat) (x y : Str), lcn f l k x y ≤ k
  | 0, _, _ => Nat.le_refl _
  | k + 1, x, y => by
    have := lcn_le (f := f) (l := l) k (f x) y
    show (if l x = y then 1 else 0) + lcn f l k (f x) y ≤ k + 1
    split <;> omega
/-- the counts of all add up -/
theorem one_sum {ns : List Str} (hn : ns.Nodup) {z : Str} (hz : z ∈ ns) : (ns.map fun y => if z = y then 1 else 0).sum = 1 := by
  induction ns with
  | nil => cases hz
  | cons a r ih =>
    rw [List.nodup_cons] at hn
    rw [List.map_cons, List.sum_cons]
    by_cases e : z = a
    · rw [if_pos e]
      have : (r.map fun y => if z = y then 1 else 0).sum = 0 := by
        have h0 : ∀ w ∈ r, (if z = w then 1 else 0) = 0 := fun w hw => if_neg fun e2 => hn.1 (by rw [← e, e2]; exact hw)
        clear ih hz
        induction r with
        | nil => rfl
        | cons b t ih2 => rw [List.map_cons, List.sum_cons, h0 b List.mem_cons_self, ih2 ⟨fun h => hn.1 (List.mem_cons_of_mem _ h), (List.nodup_cons.mp hn.2).2⟩ fun w hw => h0 w (List.mem_cons_of_mem _ hw)]
      rw [this]
    · rw [if_neg e, ih hn.2 ((List.mem_cons.mp hz).resolve_left e)]
theorem sum_addf (ns : List Str) (a b : Str → Nat) : (ns.map fun y => a y + b y).sum = (ns.map a).sum + (ns.map b).sum := by
  induction ns with
  | nil => rfl
  | cons x r ih => rw [List.map_cons, List.sum_cons, ih, List.map_cons, List.sum_cons, List.map_cons, List.sum_cons]; omega
theorem zero_sum : ∀ ns : List Str, (ns.map fun _ => 0).sum = 0
  | [] => rfl
  | a :: r => by rw [List.map_cons, List.sum_cons, zero_sum r]
theorem lcn_sum {f l : Str → Str} {ns : List Str} (hn : ns.Nodup) (hf : ∀ x ∈ ns, f x ∈ ns) (hl : ∀ x ∈ ns, l x ∈ ns) : ∀ (k : Nat) {x : Str}, x ∈ ns → (ns.map fun y => lcn f l k x y).sum = k
  | 0, _, _ => zero_sum ns
  | k + 1, x, hx => by
    show (ns.map fun y => (if l x = y then 1 else 0) + lcn f l k (f x) y).sum = k + 1
    rw [sum_addf ns (fun y => if l x = y then 1 else 0), one_sum hn (hl x hx), lcn_sum hn hf hl k (hf x hx)]
    omega
/-- one more where the rounds left over come as far: the part of a row of rounds -/
def part (f l : Str → Str) (q r j : Nat) (x y : Str) : Nat := q * lcn f l j x y + lcn f l (min j r) x y
theorem part_step {f l : Str → Str} {q r j : Nat} {x y : Str} : part f l q r (j + 1) x y = part f l q r j x y + (if l (itn f j x) = y then q + (if j < r then 1 else 0) else 0) := by
  unfold part
  rw [lcn_succ, Nat.mul_add]
  by_cases h : j < r
  · rw [Nat.min_eq_left (by omega), Nat.min_eq_left (by omega), lcn_succ, if_pos h]
    split <;> omega
  · rw [Nat.min_eq_right (by omega), Nat.min_eq_right (by omega), if_neg h]
    split <;> omega
theorem lcn_far {f l : Str → Str} {b y : Str} {t c k : Nat} (h : itn f (t + c) b = itn f t b) (hk : t ≤ k) (hc0 : 0 < c) : lcn f l k b y = lcn f l t b y + part f l ((k - t) / c) ((k - t) % c) c (itn f t b) y := by
  have hc : itn f c (itn f t b) = itn f t b := by rw [← itn_add]; exact h
  obtain ⟨d, rfl⟩ : ∃ d, k = t + d := ⟨k - t, by omega⟩
  rw [Nat.add_sub_cancel_left, lcn_add]
  congr 1
  unfold part
  have e : d = d / c * c + d % c := by rw [Nat.mul_comm]; exact (Nat.div_add_mod d c).symm
  rw [Nat.min_eq_right (Nat.le_of_lt (Nat.mod_lt _ hc0))]
  conv => lhs; rw [e]
  rw [lcn_add, lcn_turns hc, itn_turns hc]
theorem itn_far {f : Str → Str} {b : Str} {t c k : Nat} (h : itn f (t + c) b = itn f t b) (hk : t ≤ k) (hc0 : 0 < c) : itn f k b = itn f (t + (k - t) % c) b := by
  have hc : itn f c (itn f t b) = itn f t b := by rw [← itn_add]; exact h
  obtain ⟨d, rfl⟩ : ∃ d, k = t + d := ⟨k - t, by omega⟩
  rw [Nat.add_sub_cancel_left, itn_add, itn_add]
  have e : d = d / c * c + d % c := by rw [Nat.mul_comm]; exact (Nat.div_add_mod d c).symm
  conv => lhs; rw [e]
  rw [itn_add, itn_turns hc]
/-! ### promises -/
def spValues : Sp := fun vs H Q _ => ∃ (S C a : Addr) (ns : List Str), vs = [.ref S, .ref a] ∧ StOk H S C ∧ H a = some (.lst (ns.map V.str)) ∧ ns.length ≤ 100 ∧ ns.Nodup ∧
  ∀ H' d sl, Mod S C H H' → StOk H' S C → H d = none → SlipsAt H' d ns sl → Q (.ref d) H'
def spNamesOf (aR : Addr) : Sp := fun vs H Q _ => ∃ (p : Addr) (ns : List Str) (sl : Str → Int), vs = [.ref p] ∧ RingAt aR H p ns sl ∧ ∀ H' l, Same H H' → H l = none → H' l = some (.lst (ns.map V.str)) → Q (.ref l) H'
def spAdvanced : Sp := fun vs H Q _ => ∃ (a d : Addr) (ns fd : List Str) (g : Str) (p : Nat), vs = [.ref a, .ref d, .int (ns.idxOf g : Nat), .int (p : Nat)] ∧ H a = some (.lst (ns.map V.str)) ∧ GoodNs ns ∧ g ∈ ns ∧ SlipsAt H d ns (sd01 fd) ∧ p < (sitting ns fd g).length ∧
  Q (.int (ns.idxOf ((sitting ns fd g).getD p Str.empty) : Nat)) H
def spPlayed : Sp := fun vs H Q _ => ∃ (a d : Addr) (ns : List Str) (sl : Str → Int) (b : Str), vs = [.ref a, .ref d, .str b] ∧ H a = some (.lst (ns.map V.str)) ∧ SlipsAt H d ns sl ∧ GoodNs ns ∧ b ∈ ns ∧
  ∀ H' t r, Same H H' → H t = none → H r = none → H' t = some (.tup [.ref r, .str (nextOf ns sl b)]) → H' r = some (.tup ((orderOf ns sl b).map V.str)) → Q (.ref t) H'
/-! ### counts, tables -/
def cntK (ns : List Str) (c : Str → Nat) : List (Key × V) := ns.map fun n => ((Sum.inr n : Key), V.int (c n : Nat))
def CntAt (H : Hp) (d : Addr) (ns : List Str) (c : Str → Nat) : Prop := H d = some (.dK (cntK ns c))
theorem cntK_keys (ns : List Str) (c : Str → Nat) : (cntK ns c).map (·.1) = ns.map Sum.inr := by
  unfold cntK
  rw [List.map_map]
  rfl
theorem cntK_nd {ns : List Str} (c : Str → Nat) (hn : ns.Nodup) : ((cntK ns c).map (·.1)).Nodup := by
  rw [cntK_keys]
  exact nodup_map (fun a b e => Sum.inr.inj e) hn
theorem cntK_val {ns : List Str} {c : Str → Nat} {n : Str} (h : n ∈ ns) : valV (cntK ns c) (Sum.inr n : Key) = some (.int (c n : Nat)) := by
  have : (Sum.inr n : Key) ∈ (cntK ns c).map (·.1) := by
    rw [cntK_keys]
    exact List.mem_map.mpr ⟨n, h, rfl⟩
  obtain ⟨v, h1, h2⟩ := valV_mem this
  obtain ⟨m, _, e⟩ := List.mem_map.mp h2
  have e1 : m = n := Sum.inr.inj (congrArg Prod.fst e)
  have e2 : V.int (c m : Nat) = v := congrArg Prod.snd e
  rw [h1, ← e2, e1]
theorem cntK_get {ns : List Str} {c : Str → Nat} {i : Nat} {k : Key} {v : V} (h : (cntK ns c)[i]? = some (k, v)) : ∃ n, ns[i]? = some n ∧ k = Sum.inr n ∧ v = .int (c n : Nat) := by
  unfold cntK at h
  rw [List.getElem?_map] at h
  obtain ⟨n, h1, h2⟩ := Option.map_eq_some_iff.mp h
  exact ⟨n, h1, (congrArg Prod.fst h2).symm, (congrArg Prod.snd h2).symm⟩
theorem CntAt.same {H H' : Hp} {d : Addr} {ns : List Str} {c : Str → Nat} (h : CntAt H d ns c) (s : Same H H') : CntAt H' d ns c := s _ _ h
theorem CntAt.mod {H H' : Hp} {d S C : Addr} {ns : List Str} {c : Str → Nat} (h : CntAt H d ns c) (s : Mod S C H H') (st : StOk H S C) : CntAt H' d ns c := s.other st h (fun _ z => nomatch z)
theorem CntAt.congr {H : Hp} {d : Addr} {ns : List Str} {c c' : Str → Nat} (h : CntAt H d ns c) (e : ∀ n ∈ ns, c n = c' n) : CntAt H d ns c' := by
  unfold CntAt cntK at *
  rw [h]
  congr 2
  exact List.map_congr_left fun n hn => by rw [e n hn]
def TabAt (H : Hp) (d : Addr) (ns : List Str) (nx : Str → Str) (c : Str → Str → Nat) : Prop := ∃ kvs : List (Key × V), H d = some (.dK kvs) ∧ kvs.map (·.1) = ns.map Sum.inr ∧
  ∀ n ∈ ns, ∃ t q, valV kvs (Sum.inr n : Key) = some (.ref t) ∧ H t = some (.tup [.str (nx n), .ref q]) ∧ CntAt H q ns (c n)
theorem TabAt.same {H H' : Hp} {d : Addr} {ns : List Str} {nx : Str → Str} {c : Str → Str → Nat} (h : TabAt H d ns nx c) (s : Same H H') : TabAt H' d ns nx c := by
  obtain ⟨kvs, a, b, f⟩ := h
  exact ⟨kvs, s _ _ a, b, fun n hn => let ⟨t, q, e1, e2, e3⟩ := f n hn; ⟨t, q, e1, s _ _ e2, e3.same s⟩⟩
theorem TabAt.mod {H H' : Hp} {d S C : Addr} {ns : List Str} {nx : Str → Str} {c : Str → Str → Nat} (h : TabAt H d ns nx c) (s : Mod S C H H') (st : StOk H S C) : TabAt H' d ns nx c := by
  obtain ⟨kvs, a, b, f⟩ := h
  exact ⟨kvs, s.other st a (fun _ z => nomatch z), b, fun n hn => let ⟨t, q, e1, e2, e3⟩ := f n hn; ⟨t, q, e1, s.other st e2 (fun _ z => nomatch z), e3.mod s st⟩⟩
theorem same_unlock {H H' : Hp} {d : Addr} {od : Obj} {u : HO} (hd : H d = some u) (s : Same (upd H d (.frz od u)) H') : Same H (upd H' d u) := fun b o e => by
  by_cases hb : b = d
  · subst hb
    rw [upd_same, ← hd]
    exact e
  · rw [upd_ne hb]
    exact s _ _ (by rw [upd_ne hb]; exact e)
theorem same_lock {H H' : Hp} {d : Addr} {od : Obj} {u : HO} (hd : H d = some u) (s : Same (upd H d (.frz od u)) H') : H' d = some (.frz od u) := s _ _ upd_same
def spOnce : Sp := fun vs H Q _ => ∃ (a d : Addr) (ns : List Str) (sl : Str → Int), vs = [.ref a, .ref d] ∧ H a = some (.lst (ns.map V.str)) ∧ SlipsAt H d ns sl ∧ GoodNs ns ∧
  ∀ H' r, Same H H' → H r = none → TabAt H' r ns (itn (nextOf ns sl) 1) (lcn (nextOf ns sl) (lastOf ns sl) 1) → Q (.ref r) H'
def spTwice : Sp := fun vs H Q _ => ∃ (t : Addr) (ns : List Str) (f l : Str → Str) (M : Nat), vs = [.ref t] ∧ TabAt H t ns (itn f M) (lcn f l M) ∧ GoodNs ns ∧ (∀ n ∈ ns, f n ∈ ns) ∧
  ∀ H' r, Same H H' → H r = none → TabAt H' r ns (itn f (M + M)) (lcn f l (M + M)) → Q (.ref r) H'
def spAfter : Sp := fun vs H Q _ => ∃ (t : Addr) (ns : List Str) (f l : Str → Str) (b : Str) (k : Nat), vs = [.ref t, .str b, .int (k : Nat)] ∧ TabAt H t ns (itn f 1) (lcn f l 1) ∧ GoodNs ns ∧ (∀ n ∈ ns, f n ∈ ns) ∧ b ∈ ns ∧
  ∀ H' r q, Same H H' → H' r = some (.tup [.str (itn f k b), .ref q]) → CntAt H' q ns (lcn f l k b) → Q (.ref r) H'
theorem putK_cnt {ns : List Str} {c : Str → Nat} {n : Str} {z : Nat} (h : n ∈ ns) : putK (cntK ns c) (Sum.inr n : Key) (.int (z : Nat)) = cntK ns (fun y => if y = n then z else c y) := by
  have a : ((cntK ns c).any fun kv => decide (kv.1 = (Sum.inr n : Key))) = true := by rw [valV_any, cntK_val h]; rfl
  unfold putK
  rw [if_pos a]
  unfold cntK
  rw [List.map_map]
  refine List.map_congr_left fun y _ => ?_
  show (if (Sum.inr y : Key) = Sum.inr n then ((Sum.inr y : Key), V.int (z : Nat)) else ((Sum.inr y : Key), V.int (c y : Nat))) = ((Sum.inr y : Key), V.int ((if y = n then z else c y : Nat)))
  by_cases e : y = n
  · rw [if_pos (congrArg Sum.inr e), if_pos e]
  · rw [if_neg (fun h => e (Sum.inr.inj h)), if_neg e]
def rowOf (f : Str → Str) (b : Str) (n : Nat) : List Str := (List.range n).map fun i => itn f i b
theorem row_at {f : Str → Str} {b : Str} {n i : Nat} (h : i < n) : (rowOf f b n)[i]? = some (itn f i b) := by
  unfold rowOf
  rw [List.getElem?_map, List.getElem?_range h]
  rfl
theorem row_len {f : Str → Str} {b : Str} {n : Nat} : (rowOf f b n).length = n := by rw [rowOf, List.length_map, List.length_range]
theorem row_snoc {f : Str → Str} {b : Str} {n : Nat} : rowOf f b (n + 1) = rowOf f b n ++ [itn f n b] := by
  unfold rowOf
  rw [List.range_succ, List.map_append]
  rfl
theorem row_take {f : Str → Str} {b : Str} {n t : Nat} (h : t ≤ n) : (rowOf f b n).take t = rowOf f b t := by
  unfold rowOf
  rw [← List.map_take, List.take_range, Nat.min_eq_left h]
theorem row_drop {f : Str → Str} {b : Str} {t c : Nat} : (rowOf f b (t + c)).drop t = rowOf f (itn f t b) c := by
  refine List.ext_getElem? fun i => ?_
  rw [List.getElem?_drop]
  by_cases h : i < c
  · rw [row_at (by omega), row_at h, itn_add]
  · rw [List.getElem?_eq_none (by rw [row_len]; omega), List.getElem?_eq_none (by rw [row_len]; omega)]
theorem row_mem {f : Str → Str} {b x : Str} {n : Nat} (h : x ∈ rowOf f b n) : ∃ i, i < n ∧ x = itn f i b := by
  obtain ⟨i, hi, e⟩ := List.mem_map.mp h
  exact ⟨i, List.mem_range.mp hi, e.symm⟩
def spCheckCount : Sp := fun vs H Q _ => ∃ k : Nat, vs = [.int (k : Nat)] ∧ Q .non H
def spBegins (aR : Addr) : Sp := fun vs H Q _ => ∃ (p : Addr) (ns : List Str) (sl : Str → Int) (b : Str), vs = [.ref p, .str b] ∧ RingAt aR H p ns sl ∧ b ∈ ns ∧
  ∀ H' t l1 l2 (tn c : Nat), Same H H' → H' t = some (.tup [.ref l1, .ref l2]) → H' l1 = some (.lst ((rowOf (nextOf ns sl) b tn).map V.str)) → H' l2 = some (.lst ((rowOf (nextOf ns sl) (itn (nextOf ns sl) tn b) c).map V.str)) → 0 < c → tn + c ≤ ns.length → itn (nextOf ns sl) (tn + c) b = itn (nextOf ns sl) tn b → Q (.ref t) H'
def spBeginAt (aR : Addr) : Sp := fun vs H Q _ => ∃ (p : Addr) (ns : List Str) (sl : Str → Int) (b : Str) (k : Nat), vs = [.ref p, .str b, .int (k : Nat)] ∧ RingAt aR H p ns sl ∧ b ∈ ns ∧ ∀ H', Same H H' → Q (.str (itn (nextOf ns sl) k b)) H'
def spRoundAt (aR : Addr) : Sp := fun vs H Q _ => ∃ (p : Addr) (ns : List Str) (sl : Str → Int) (b : Str) (k : Nat), vs = [.ref p, .str b, .int (k : Nat)] ∧ RingAt aR H p ns sl ∧ b ∈ ns ∧ ∀ H' t, Same H H' → H' t = some (.tup ((orderOf ns sl (itn (nextOf ns sl) k b)).map V.str)) → Q (.ref t) H'
def spLasts (aR : Addr) : Sp := fun vs H Q _ => ∃ (p : Addr) (ns : List Str) (sl : Str → Int) (b : Str) (k : Nat), vs = [.ref p, .str b, .int (k : Nat)] ∧ RingAt aR H p ns sl ∧ b ∈ ns ∧ ∀ H' d, Same H H' → H d = none → CntAt H' d ns (lcn (nextOf ns sl) (lastOf ns sl) k b) → Q (.ref d) H'
/-! ### items of a dict of counts as data -/
def cntD (ns : List Str) (c : Str → Nat) : List PyData := ns.map fun n => .tuple [.str n, .int (c n : Nat)]
theorem dp_cnt {K : PySem.W.Frag} {H : Hp} {c : Str → Nat} : ∀ {ns : List Str} {ts : List Addr}, Paired (fun (t : Addr) (kv : Key × V) => H t = some (.tup [kV kv.1, kv.2])) ts (cntK ns c) → DpAll K H (ts.map V.ref) (cntD ns c)
  | [], _, h => by
    cases h
    exact .nil
  | n :: r, _, h => by
    cases h with
    | cons a t => exact .cons (.tup (SqT.of a) (.cons (.str _) (.cons (.int _) .nil))) (dp_cnt t)
theorem cntD_self (c : Str → Nat) : ∀ ns : List Str, PyData.eqvAll (cntD ns c) (cntD ns c) = true
  | [] => by simp [cntD, PyData.eqvAll]
  | n :: r => by
    have := cntD_self c r
    unfold cntD at this ⊢
    rw [List.map_cons, PyData.eqvAll, this]
    simp [PyData.eqv, PyData.eqvAll]
theorem cntD_eqv (ns : List Str) (c : Str → Nat) : PyData.eqv (.list (cntD ns c)) (.list (cntD ns c)) = true := by rw [PyData.eqv, cntD_self]
theorem cntD_can (c : Str → Nat) : ∀ ns : List Str, (∀ y ∈ ns, PyData.strOk y = true) → PyData.canLayAll0 (cntD ns c) = true
  | [], _ => by simp [cntD, PyData.canLayAll0]
  | n :: r, h => by
    have := cntD_can c r fun y hy => h y (List.mem_cons_of_mem _ hy)
    unfold cntD at this ⊢
    rw [List.map_cons, PyData.canLayAll0, this]
    simp [PyData.canLay0, PyData.canLayAll0, h n List.mem_cons_self]
theorem cntD_depth (c : Str → Nat) : ∀ ns : List Str, PyData.depthAll (cntD ns c) ≤ 3
  | [] => by simp [cntD, PyData.depthAll]
  | n :: r => by
    have b := cntD_depth c r
    unfold cntD at b ⊢
    rw [List.map_cons, PyData.depthAll]
    exact Nat.max_le.mpr ⟨by simp [PyData.depth, PyData.depthAll], b⟩
theorem cntD_shaped {ns : List Str} {c : Str → Nat} (h : ∀ y ∈ ns, PyData.strOk y = true) : SeqAt.shaped (.list (cntD ns c)) = true := by
  have a := cntD_can c ns h
  have b := cntD_depth c ns
  unfold SeqAt.shaped
  rw [Bool.and_eq_true, decide_eq_true_eq]
  refine ⟨by rw [PyData.canLay0]; exact a, ?_⟩
  rw [PyData.depth]
  omega
theorem nz_sum : ∀ xs : List Nat, (nz xs).sum = ((xs.sum : Nat) : Int)
  | [] => rfl
  | x :: r => by
    have := nz_sum r
    unfold nz at this ⊢
    rw [List.map_cons, List.sum_cons, List.sum_cons, this]
    rfl
def spToldR (aR : Addr) : Sp := fun vs H Q _ => ∃ (p a d t : Addr) (ns : List Str) (sl : Str → Int) (b : Str) (k : Nat), vs = [.ref p, .ref a, .ref d, .ref t, .str b, .int (k : Nat)] ∧ RingAt aR H p ns sl ∧ H a = some (.lst (ns.map V.str)) ∧ SlipsAt H d ns sl ∧
  TabAt H t ns (itn (nextOf ns sl) 1) (lcn (nextOf ns sl) (lastOf ns sl) 1) ∧ b ∈ ns ∧ ∀ H', Same H H' → Q (.bl true) H'
end GL
namespace K09
open PySem PySem.Spec PyProof.Rows L2
def topS (i : Nat) : Stmt := PySem.Challenge.pw_goersay_k09_whole_far_rounds_by_doubling.main.body.getD i (.Pass ⟨0, 0, 0, 0⟩)
abbrev s_is_number : Stmt := topS 9
abbrev N_is_number : List Str := ["thing"]
abbrev P_is_number : List Str := ["thing"]
theorem sc_is_number : FnScope N_is_number P_is_number (defScope s_is_number) := ⟨rfl, rfl, rfl, by decide +kernel, rfl, by decide +kernel, by decide +kernel⟩
abbrev s_is_name : Stmt := topS 10
abbrev N_is_name : List Str := ["thing", "sign"]
abbrev P_is_name : List Str := ["thing"]
theorem sc_is_name : FnScope N_is_name P_is_name (defScope s_is_name) := ⟨rfl, rfl, rfl, by decide +kernel, rfl, by decide +kernel, by decide +kernel⟩
abbrev s_is_names : Stmt := topS 20
abbrev N_is_names : List Str := ["thing", "name"]
abbrev P_is_names : List Str := ["thing"]
theorem sc_is_names : FnScope N_is_names P_is_names (defScope s_is_names) := ⟨rfl, rfl, rfl, by decide +kernel, rfl, by decide +kernel, by decide +kernel⟩
abbrev s_check_names : Stmt := topS 21
abbrev N_check_names : List Str := ["thing"]
abbrev P_check_names : List Str := ["thing"]
theorem sc_check_names : FnScope N_check_names P_check_names (defScope s_check_names) := ⟨rfl, rfl, rfl, by decide +kernel, rfl, by decide +kernel, by decide +kernel⟩
abbrev s_check_name : Stmt := topS 22
abbrev N_check_name : List Str := ["names", "thing"]
abbrev P_check_name : List Str := ["names", "thing"]
theorem sc_check_name : FnScope N_check_name P_check_name (defScope s_check_name) := ⟨rfl, rfl, rfl, by decide +kernel, rfl, by decide +kernel, by decide +kernel⟩
abbrev s_is_slips : Stmt := topS 23
abbrev N_is_slips : List Str := ["names", "thing", "name"]
abbrev P_is_slips : List Str := ["names", "thing"]
theorem sc_is_slips : FnScope N_is_slips P_is_slips (defScope s_is_slips) := ⟨rfl, rfl, rfl, by decide +kernel, rfl, by decide +kernel, by decide +kernel⟩
abbrev s_listed_behind : Stmt := topS 24
abbrev N_listed_behind : List Str := ["names", "name", "seat"]
abbrev P_listed_behind : List Str := ["names", "name"]
theorem sc_listed_behind : FnScope N_listed_behind P_listed_behind (defScope s_listed_behind) := ⟨rfl, rfl, rfl, by decide +kernel, rfl, by decide +kernel, by decide +kernel⟩
abbrev s_who_sit : Stmt := topS 25
abbrev N_who_sit : List Str := ["names", "goers", "name"]
abbrev P_who_sit : List Str := ["names", "goers"]
theorem sc_who_sit : FnScope N_who_sit P_who_sit (defScope s_who_sit) := ⟨rfl, rfl, rfl, by decide +kernel, rfl, by decide +kernel, by decide +kernel⟩
abbrev s_begins : Stmt := topS 12
abbrev N_begins : List Str := ["ring", "begin", "row", "following", "turn"]
abbrev P_begins : List Str := ["ring", "begin"]
theorem sc_begins : FnScope N_begins P_begins (defScope s_begins) := ⟨rfl, rfl, rfl, by decide +kernel, rfl, by decide +kernel, by decide +kernel⟩
abbrev s_begin_at : Stmt := topS 13
abbrev N_begin_at : List Str := ["ring", "begin", "k", "ahead", "again"]
abbrev P_begin_at : List Str := ["ring", "begin", "k"]
theorem sc_begin_at : FnScope N_begin_at P_begin_at (defScope s_begin_at) := ⟨rfl, rfl, rfl, by decide +kernel, rfl, by decide +kernel, by decide +kernel⟩
abbrev s_round_at : Stmt := topS 14
abbrev N_round_at : List Str := ["ring", "begin", "k"]
abbrev P_round_at : List Str := ["ring", "begin", "k"]
theorem sc_round_at : FnScope N_round_at P_round_at (defScope s_round_at) := ⟨rfl, rfl, rfl, by decide +kernel, rfl, by decide +kernel, by decide +kernel⟩
abbrev s_lasts : Stmt := topS 15
abbrev N_lasts : List Str := ["ring", "begin", "k", "ahead", "again", "told", "at", "name", "left"]
abbrev P_lasts : List Str := ["ring", "begin", "k"]
theorem sc_lasts : FnScope N_lasts P_lasts (defScope s_lasts) := ⟨rfl, rfl, rfl, by decide +kernel, rfl, by decide +kernel, by decide +kernel⟩
abbrev s_check_count : Stmt := topS 16
abbrev N_check_count : List Str := ["thing"]
abbrev P_check_count : List Str := ["thing"]
theorem sc_check_count : FnScope N_check_count P_check_count (defScope s_check_count) := ⟨rfl, rfl, rfl, by decide +kernel, rfl, by decide +kernel, by decide +kernel⟩
abbrev s_l_state : Stmt := topS 28
abbrev N_l_state : List Str := ["_law_script", "_law_cell"]
abbrev P_l_state : List Str := ["_law_script"]
theorem sc_l_state : FnScope N_l_state P_l_state (defScope s_l_state) := ⟨rfl, rfl, rfl, by decide +kernel, rfl, by decide +kernel, by decide +kernel⟩
abbrev s_l_draw : Stmt := topS 29
abbrev N_l_draw : List Str := ["_law_state_here", "_law_many", "_law_cells", "_law_at", "_law_cell"]
abbrev P_l_draw : List Str := ["_law_state_here", "_law_many"]
theorem sc_l_draw : FnScope N_l_draw P_l_draw (defScope s_l_draw) := ⟨rfl, rfl, rfl, by decide +kernel, rfl, by decide +kernel, by decide +kernel⟩
abbrev s_l_pick : Stmt := topS 30
abbrev N_l_pick : List Str := ["_law_state_here", "_law_some"]
abbrev P_l_pick : List Str := ["_law_state_here", "_law_some"]
theorem sc_l_pick : FnScope N_l_pick P_l_pick (defScope s_l_pick) := ⟨rfl, rfl, rfl, by decide +kernel, rfl, by decide +kernel, by decide +kernel⟩
abbrev s_l_great : Stmt := topS 31
abbrev N_l_great : List Str := ["_law_state_here", "_law_figures", "_law_found", "_law_turn"]
abbrev P_l_great : List Str := ["_law_state_here", "_law_figures"]
theorem sc_l_great : FnScope N_l_great P_l_great (defScope s_l_great) := ⟨rfl, rfl, rfl, by decide +kernel, rfl, by decide +kernel, by decide +kernel⟩
abbrev s_l_labels : Stmt := topS 32
abbrev N_l_labels : List Str := ["_law_state_here", "_law_many", "_law_own", "_law_found", "_law_turn", "_law_label", "_law_k", "_law_sign"]
abbrev P_l_labels : List Str := ["_law_state_here", "_law_many"]
theorem sc_l_labels : FnScope N_l_labels P_l_labels (defScope s_l_labels) := ⟨rfl, rfl, rfl, by decide +kernel, rfl, by decide +kernel, by decide +kernel⟩
abbrev s_l_values : Stmt := topS 33
abbrev N_l_values : List Str := ["_law_state_here", "_law_labels_here", "_law_way", "_law_found", "_law_one", "_law_label", "_law_number"]
abbrev P_l_values : List Str := ["_law_state_here", "_law_labels_here"]
theorem sc_l_values : FnScope N_l_values P_l_values (defScope s_l_values) := ⟨rfl, rfl, rfl, by decide +kernel, rfl, by decide +kernel, by decide +kernel⟩
abbrev s_l_advanced : Stmt := topS 34
abbrev N_l_advanced : List Str := ["_law_labels_here", "_law_seated", "_law_at", "_law_place", "_law_left"]
abbrev P_l_advanced : List Str := ["_law_labels_here", "_law_seated", "_law_at", "_law_place"]
theorem sc_l_advanced : FnScope N_l_advanced P_l_advanced (defScope s_l_advanced) := ⟨rfl, rfl, rfl, by decide +kernel, rfl, by decide +kernel, by decide +kernel⟩
abbrev s_l_played_round : Stmt := topS 35
abbrev N_l_played_round : List Str := ["_law_labels_here", "_law_cards", "_law_first", "_law_seated", "_law_at", "_law_row", "_law_label"]
abbrev P_l_played_round : List Str := ["_law_labels_here", "_law_cards", "_law_first"]
theorem sc_l_played_round : FnScope N_l_played_round P_l_played_round (defScope s_l_played_round) := ⟨rfl, rfl, rfl, by decide +kernel, rfl, by decide +kernel, by decide +kernel⟩
abbrev s_l_once : Stmt := topS 36
abbrev N_l_once : List Str := ["_law_labels_here", "_law_cards", "_law_found", "_law_label", "_law_row", "_law_later", "_law_one"]
abbrev P_l_once : List Str := ["_law_labels_here", "_law_cards"]
theorem sc_l_once : FnScope N_l_once P_l_once (defScope s_l_once) := ⟨rfl, rfl, rfl, by decide +kernel, rfl, by decide +kernel, by decide +kernel⟩
abbrev s_l_twice : Stmt := topS 37
abbrev N_l_twice : List Str := ["_law_table", "_law_found", "_law_label", "_law_there", "_law_counts", "_law_goal", "_law_more", "_law_one"]
abbrev P_l_twice : List Str := ["_law_table"]
theorem sc_l_twice : FnScope N_l_twice P_l_twice (defScope s_l_twice) := ⟨rfl, rfl, rfl, by decide +kernel, rfl, by decide +kernel, by decide +kernel⟩
abbrev s_l_after : Stmt := topS 38
abbrev N_l_after : List Str := ["_law_table", "_law_first", "_law_many", "_law_here", "_law_found", "_law_left", "_law_counts", "_law_one"]
abbrev P_l_after : List Str := ["_law_table", "_law_first", "_law_many"]
theorem sc_l_after : FnScope N_l_after P_l_after (defScope s_l_after) := ⟨rfl, rfl, rfl, by decide +kernel, rfl, by decide +kernel, by decide +kernel⟩
abbrev s_l_told_right : Stmt := topS 39
abbrev N_l_told_right : List Str := ["_law_circle", "_law_labels_here", "_law_cards", "_law_table", "_law_first", "_law_many", "_law_here", "_law_counts", "_law_row", "_law_later", "_law_told"]
abbrev P_l_told_right : List Str := ["_law_circle", "_law_labels_here", "_law_cards", "_law_table", "_law_first", "_law_many"]
theorem sc_l_told_right : FnScope N_l_told_right P_l_told_right (defScope s_l_told_right) := ⟨rfl, rfl, rfl, by decide +kernel, rfl, by decide +kernel, by decide +kernel⟩
abbrev s_law : Stmt := topS 40
abbrev N_law : List Str := ["_law_script", "_law_state_here", "_law_turn", "_law_labels_here", "_law_cards", "_law_circle", "_law_table", "_law_first", "_law_many", "_law_more", "_law_number", "_law_one", "_law_two", "_law_label"]
abbrev P_law : List Str := ["_law_script"]
theorem sc_law : FnScope N_law P_law (defScope s_law) := ⟨rfl, rfl, rfl, by decide +kernel, rfl, by decide +kernel, by decide +kernel⟩
abbrev s_Ring_init : Stmt := inClass (topS 26) 0
abbrev N_Ring_init : List Str := ["self", "names", "slips", "name"]
abbrev P_Ring_init : List Str := ["self", "names", "slips"]
theorem sc_Ring_init : FnScope N_Ring_init P_Ring_init (defScope s_Ring_init) := ⟨rfl, rfl, rfl, by decide +kernel, rfl, by decide +kernel, by decide +kernel⟩
abbrev s_Ring_names : Stmt := inClass (topS 26) 1
abbrev N_Ring_names : List Str := ["self"]
abbrev P_Ring_names : List Str := ["self"]
theorem sc_Ring_names : FnScope N_Ring_names P_Ring_names (defScope s_Ring_names) := ⟨rfl, rfl, rfl, by decide +kernel, rfl, by decide +kernel, by decide +kernel⟩
abbrev s_Ring_order : Stmt := inClass (topS 26) 4
abbrev N_Ring_order : List Str := ["self", "begin", "goers"]
abbrev P_Ring_order : List Str := ["self", "begin"]
theorem sc_Ring_order : FnScope N_Ring_order P_Ring_order (defScope s_Ring_order) := ⟨rfl, rfl, rfl, by decide +kernel, rfl, by decide +kernel, by decide +kernel⟩
abbrev s_Ring_next_of : Stmt := inClass (topS 26) 5
abbrev N_Ring_next_of : List Str := ["self", "begin", "last"]
abbrev P_Ring_next_of : List Str := ["self", "begin"]
theorem sc_Ring_next_of : FnScope N_Ring_next_of P_Ring_next_of (defScope s_Ring_next_of) := ⟨rfl, rfl, rfl, by decide +kernel, rfl, by decide +kernel, by decide +kernel⟩
abbrev s_Ring_counted_on : Stmt := inClass (topS 26) 9
abbrev N_Ring_counted_on : List Str := ["self", "goer", "row"]
abbrev P_Ring_counted_on : List Str := ["self", "goer", "row"]
theorem sc_Ring_counted_on : FnScope N_Ring_counted_on P_Ring_counted_on (defScope s_Ring_counted_on) := ⟨rfl, rfl, rfl, by decide +kernel, rfl, by decide +kernel, by decide +kernel⟩
/-- what the top has written -/
structure Tx (K : PySem.W.Frag) (mg : Str → Option Value) where
  a_Ring : Addr
  cl_Ring : Cls K a_Ring
  g_Ring : mg "Ring" = some (.ref a_Ring)
  n_Ring__names : NoAttr K a_Ring "_names"
  n_Ring__slips : NoAttr K a_Ring "_slips"
  a_is_number : Addr
  fd_is_number : FuncData
  F_is_number : Fun K "is_number" "is_number" s_is_number a_is_number fd_is_number
  b_is_number : Binds K fd_is_number P_is_number []
  g_is_number : mg "is_number" = some (.ref a_is_number)
  a_is_name : Addr
  fd_is_name : FuncData
  F_is_name : Fun K "is_name" "is_name" s_is_name a_is_name fd_is_name
  b_is_name : Binds K fd_is_name P_is_name []
  g_is_name : mg "is_name" = some (.ref a_is_name)
  a_is_names : Addr
  fd_is_names : FuncData
  F_is_names : Fun K "is_names" "is_names" s_is_names a_is_names fd_is_names
  b_is_names : Binds K fd_is_names P_is_names []
  g_is_names : mg "is_names" = some (.ref a_is_names)
  a_check_names : Addr
  fd_check_names : FuncData
  F_check_names : Fun K "check_names" "check_names" s_check_names a_check_names fd_check_names
  b_check_names : Binds K fd_check_names P_check_names []
  g_check_names : mg "check_names" = some (.ref a_check_names)
  a_check_name : Addr
  fd_check_name : FuncData
  F_check_name : Fun K "check_name" "check_name" s_check_name a_check_name fd_check_name
  b_check_name : Binds K fd_check_name P_check_name []
  g_check_name : mg "check_name" = some (.ref a_check_name)
  a_is_slips : Addr
  fd_is_slips : FuncData
  F_is_slips : Fun K "is_slips" "is_slips" s_is_slips a_is_slips fd_is_slips
  b_is_slips : Binds K fd_is_slips P_is_slips []
  g_is_slips : mg "is_slips" = some (.ref a_is_slips)
  a_listed_behind : Addr
  fd_listed_behind : FuncData
  F_listed_behind : Fun K "listed_behind" "listed_behind" s_listed_behind a_listed_behind fd_listed_behind
  b_listed_behind : Binds K fd_listed_behind P_listed_behind []
  g_listed_behind : mg "listed_behind" = some (.ref a_listed_behind)
  a_who_sit : Addr
  fd_who_sit : FuncData
  F_who_sit : Fun K "who_sit" "who_sit" s_who_sit a_who_sit fd_who_sit
  b_who_sit : Binds K fd_who_sit P_who_sit []
  g_who_sit : mg "who_sit" = some (.ref a_who_sit)
  a_begins : Addr
  fd_begins : FuncData
  F_begins : Fun K "begins" "begins" s_begins a_begins fd_begins
  b_begins : Binds K fd_begins P_begins []
  g_begins : mg "begins" = some (.ref a_begins)
  a_begin_at : Addr
  fd_begin_at : FuncData
  F_begin_at : Fun K "begin_at" "begin_at" s_begin_at a_begin_at fd_begin_at
  b_begin_at : Binds K fd_begin_at P_begin_at []
  g_begin_at : mg "begin_at" = some (.ref a_begin_at)
  a_round_at : Addr
  fd_round_at : FuncData
  F_round_at : Fun K "round_at" "round_at" s_round_at a_round_at fd_round_at
  b_round_at : Binds K fd_round_at P_round_at []
  g_round_at : mg "round_at" = some (.ref a_round_at)
  a_lasts : Addr
  fd_lasts : FuncData
  F_lasts : Fun K "lasts" "lasts" s_lasts a_lasts fd_lasts
  b_lasts : Binds K fd_lasts P_lasts []
  g_lasts : mg "lasts" = some (.ref a_lasts)
  a_check_count : Addr
  fd_check_count : FuncData
  F_check_count : Fun K "_check_count" "_check_count" s_check_count a_check_count fd_check_count
  b_check_count : Binds K fd_check_count P_check_count []
  g_check_count : mg "_check_count" = some (.ref a_check_count)
  a_l_state : Addr
  fd_l_state : FuncData
  F_l_state : Fun K "_law_state" "_law_state" s_l_state a_l_state fd_l_state
  b_l_state : Binds K fd_l_state P_l_state []
  g_l_state : mg "_law_state" = some (.ref a_l_state)
  a_l_draw : Addr
  fd_l_draw : FuncData
  F_l_draw : Fun K "_law_draw" "_law_draw" s_l_draw a_l_draw fd_l_draw
  b_l_draw : Binds K fd_l_draw P_l_draw []
  g_l_draw : mg "_law_draw" = some (.ref a_l_draw)
  a_l_pick : Addr
  fd_l_pick : FuncData
  F_l_pick : Fun K "_law_pick" "_law_pick" s_l_pick a_l_pick fd_l_pick
  b_l_pick : Binds K fd_l_pick P_l_pick []
  g_l_pick : mg "_law_pick" = some (.ref a_l_pick)
  a_l_great : Addr
  fd_l_great : FuncData
  F_l_great : Fun K "_law_great" "_law_great" s_l_great a_l_great fd_l_great
  b_l_great : Binds K fd_l_great P_l_great []
  g_l_great : mg "_law_great" = some (.ref a_l_great)
  a_l_labels : Addr
  fd_l_labels : FuncData
  F_l_labels : Fun K "_law_labels" "_law_labels" s_l_labels a_l_labels fd_l_labels
  b_l_labels : Binds K fd_l_labels P_l_labels []
  g_l_labels : mg "_law_labels" = some (.ref a_l_labels)
  a_l_values : Addr
  fd_l_values : FuncData
  F_l_values : Fun K "_law_values" "_law_values" s_l_values a_l_values fd_l_values
  b_l_values : Binds K fd_l_values P_l_values []
  g_l_values : mg "_law_values" = some (.ref a_l_values)
  a_l_advanced : Addr
  fd_l_advanced : FuncData
  F_l_advanced : Fun K "_law_advanced" "_law_advanced" s_l_advanced a_l_advanced fd_l_advanced
  b_l_advanced : Binds K fd_l_advanced P_l_advanced []
  g_l_advanced : mg "_law_advanced" = some (.ref a_l_advanced)
  a_l_played_round : Addr
  fd_l_played_round : FuncData
  F_l_played_round : Fun K "_law_played_round" "_law_played_round" s_l_played_round a_l_played_round fd_l_played_round
  b_l_played_round : Binds K fd_l_played_round P_l_played_round []
  g_l_played_round : mg "_law_played_round" = some (.ref a_l_played_round)
  a_l_once : Addr
  fd_l_once : FuncData
  F_l_once : Fun K "_law_once" "_law_once" s_l_once a_l_once fd_l_once
  b_l_once : Binds K fd_l_once P_l_once []
  g_l_once : mg "_law_once" = some (.ref a_l_once)
  a_l_twice : Addr
  fd_l_twice : FuncData
  F_l_twice : Fun K "_law_twice" "_law_twice" s_l_twice a_l_twice fd_l_twice
  b_l_twice : Binds K fd_l_twice P_l_twice []
  g_l_twice : mg "_law_twice" = some (.ref a_l_twice)
  a_l_after : Addr
  fd_l_after : FuncData
  F_l_after : Fun K "_law_after" "_law_after" s_l_after a_l_after fd_l_after
  b_l_after : Binds K fd_l_after P_l_after []
  g_l_after : mg "_law_after" = some (.ref a_l_after)
  a_l_told_right : Addr
  fd_l_told_right : FuncData
  F_l_told_right : Fun K "_law_told_right" "_law_told_right" s_l_told_right a_l_told_right fd_l_told_right
  b_l_told_right : Binds K fd_l_told_right P_l_told_right []
  g_l_told_right : mg "_law_told_right" = some (.ref a_l_told_right)
  a_law : Addr
  fd_law : FuncData
  F_law : Fun K "law" "law" s_law a_law fd_law
  b_law : Binds K fd_law P_law []
  g_law : mg "law" = some (.ref a_law)
  a_Ring_init : Addr
  fd_Ring_init : FuncData
  F_Ring_init : Fun K "__init__" "Ring.__init__" s_Ring_init a_Ring_init fd_Ring_init
  b_Ring_init : Binds K fd_Ring_init P_Ring_init []
  M_Ring : Mk K a_Ring a_Ring_init
  a_Ring_names : Addr
  fd_Ring_names : FuncData
  F_Ring_names : Fun K "names" "Ring.names" s_Ring_names a_Ring_names fd_Ring_names
  b_Ring_names : Binds K fd_Ring_names P_Ring_names []
  mt_Ring_names : Meth K a_Ring "names" a_Ring_names
  a_Ring_order : Addr
  fd_Ring_order : FuncData
  F_Ring_order : Fun K "order" "Ring.order" s_Ring_order a_Ring_order fd_Ring_order
  b_Ring_order : Binds K fd_Ring_order P_Ring_order []
  mt_Ring_order : Meth K a_Ring "order" a_Ring_order
  a_Ring_next_of : Addr
  fd_Ring_next_of : FuncData
  F_Ring_next_of : Fun K "next_of" "Ring.next_of" s_Ring_next_of a_Ring_next_of fd_Ring_next_of
  b_Ring_next_of : Binds K fd_Ring_next_of P_Ring_next_of []
  mt_Ring_next_of : Meth K a_Ring "next_of" a_Ring_next_of
  a_Ring_counted_on : Addr
  fd_Ring_counted_on : FuncData
  F_Ring_counted_on : Fun K "_counted_on" "Ring._counted_on" s_Ring_counted_on a_Ring_counted_on fd_Ring_counted_on
  b_Ring_counted_on : Binds K fd_Ring_counted_on P_Ring_counted_on []
  mt_Ring_counted_on : Meth K a_Ring "_counted_on" a_Ring_counted_on
  tk_LETTERS : Tok
  g_LETTERS : mg "LETTERS" = some (.str "abcdefghijklmnopqrstuvwxyz" tk_LETTERS)
  tk_LONGEST_NAME : Tok
  g_LONGEST_NAME : mg "LONGEST_NAME" = some (.int 8 tk_LONGEST_NAME)
  tk_FEWEST : Tok
  g_FEWEST : mg "FEWEST" = some (.int 2 tk_FEWEST)
  tk_MOST : Tok
  g_MOST : mg "MOST" = some (.int 12 tk_MOST)
  m_abs : mg "abs" = none
  m_all : mg "all" = none
  m_bool : mg "bool" = none
  m_dict : mg "dict" = none
  m_int : mg "int" = none
  m_isinstance : mg "isinstance" = none
  m_len : mg "len" = none
  m_list : mg "list" = none
  m_min : mg "min" = none
  m_range : mg "range" = none
  m_set : mg "set" = none
  m_str : mg "str" = none
  m_tuple : mg "tuple" = none
  m_enumerate : mg "enumerate" = none
  m_max : mg "max" = none
  m_sum : mg "sum" = none
end K09
namespace K09
open PySem PySem.Spec PyProof.Rows L2 GL
section
variable {P : Program} {w : World} {K : PySem.W.Frag} {mg : Str → Option Value} {base : Heap}
theorem ok_l_draw (T : Tx K mg) : FnOk P w K mg base CX0 1 T.a_l_draw T.fd_l_draw P_l_draw spDraw := by
  refine T.F_l_draw.ok sc_l_draw (fun vs H Q E h => ?_) (fun cdv A outer s H vs Q E hr h => ?_)
  · obtain ⟨S, C, n, rfl, _⟩ := h
    rfl
  · obtain ⟨S, C, n, rfl, hn, hn2, hst, q⟩ := h
    have hSC := hst.ne
    obtain ⟨cells, k, m, hS, hC, hc0, hc63, hpos, hk, hm, hm2⟩ := hst
    have hz : (0 : Int) < ((cells.map V.int).length : Int) := by rw [List.length_map]; omega
    have b1 := Int.emod_nonneg k (Int.ne_of_gt hz)
    have b2 := Int.emod_lt_of_pos k hz
    obtain ⟨j, c, ej, hj, _, hcj, hcm⟩ := cell_at (xs := cells) b1 (by rw [List.length_map] at b2 ⊢; exact b2)
    have c0 := hpos c hcm
    refine ⟨_, (pss_cons (ps_set (i := 2) sc_l_draw.nd rfl (.inl rfl) (pe_ix ix_list (pv 0) pe_int (fun _ _ => rfl)))
      (pss_cons (ps_set (i := 3) sc_l_draw.nd rfl (.inl rfl) (pe_op op_mod (pe_ix ix_list (pv 0) pe_int (fun _ _ => rfl)) (pe_callB call_len_seq (by rfl) T.m_len (by decide +kernel) (pa_cons (pv 2) pa_nil))))
      (pss_cons (ps_set (i := 4) sc_l_draw.nd rfl (.inl rfl) (pe_ix ix_list (pv 2) (pv 3) (fun _ _ => rfl)))
      (pss_cons (ps_if (pt_cmpR op_ge (pv 4) pe_int (nomark _))
       (pss_cons (ps_asg (pe_op op_fdivW (pv 4) (pv 1)) (pg_sub (pv 2) (pv 3) set_list))
        (pss_one (ps_ret (pe_op op_mod (pv 4) (pv 1)))))
       pss_nil)
      (pss_cons (ps_asg (pe_op op_add (pe_ix ix_list (pv 0) pe_int (fun _ _ => rfl)) pe_int) (pg_sub (pv 0) pe_int set_list))
      (pss_cons (ps_asg (pe_op op_mod (pe_op op_add (pe_op op_add (pe_op op_add (pe_op op_mul (pe_ix ix_list (pv 0) pe_int (fun _ _ => rfl)) pe_int) (pv 4)) (pe_op op_mul pe_int (pe_ix ix_list (pv 0) pe_int (fun _ _ => rfl)))) pe_int) pe_int) (pg_sub (pv 0) pe_int set_list))
      (pss_one (ps_ret (pe_op op_mod (pe_op op_fdiv (pe_op op_mod (pe_op op_mul (pe_ix ix_list (pv 0) pe_int (fun _ _ => rfl)) (pe_ix ix_list (pv 0) pe_int (fun _ _ => rfl))) pe_int) pe_int) (pv 1)))))))))), ?_⟩
    refine ⟨_, rfl, _, _, _, _, rfl, rfl, SqL.of hS, rfl, ?_⟩
    refine ⟨_, rfl, _, _, _, _, rfl, rfl, SqL.of hS, rfl, _, rfl, C, _, rfl, .inl (SqL.of hC), _, _, rfl, rfl, hz, ?_⟩
    refine ⟨_, rfl, _, rfl, _, _, _, _, rfl, rfl, SqL.of hC, at_of ej hcj, ?_⟩
    refine ⟨_, rfl, _, _, rfl, rfl, _, rfl, ite2 (fun hbig => ?_) (fun hsmall => ?_)⟩
    · refine ⟨_, rfl, _, rfl, _, _, rfl, rfl, wide_div hn hn2 (by decide) (by decide), _, rfl, _, rfl, C, _, _, j, rfl, rfl, hC, ixN_of ej (by rw [List.length_map]; exact hj), ?_⟩
      refine ⟨_, rfl, _, rfl, _, _, rfl, rfl, hn, ?_⟩
      refine q _ _ (fun b o e n1 n2 => by rw [upd_ne n2]; exact e) ⟨cells.set j (c / n), k, m, by rw [upd_ne hSC]; exact hS, by rw [upd_same, List.map_set], by rw [List.length_set]; exact hc0, by rw [List.length_set]; exact hc63, fun x hx => ?_, hk, hm, hm2⟩ (Int.emod_nonneg _ (Int.ne_of_gt hn)) (Int.emod_lt_of_pos _ hn)
      rcases List.mem_or_eq_of_mem_set hx with hx | rfl
      · exact hpos x hx
      · exact Int.ediv_nonneg c0 (Int.le_of_lt hn)
    · refine ⟨_, rfl, _, _, _, _, rfl, rfl, SqL.of hS, rfl, _, _, rfl, rfl, _, rfl, S, _, _, 1, rfl, rfl, hS, rfl, ?_⟩
      rw [lst3_set1]
      refine ⟨_, rfl, _, _, _, _, rfl, rfl, SqL.of upd_same, rfl, _, _, rfl, rfl, .inl (by omega), _, rfl, _, _, rfl, rfl, _, rfl, _, _, _, _, rfl, rfl, SqL.of upd_same, rfl, _, _, rfl, rfl, .inl ⟨by decide, by decide⟩, _, _, rfl, rfl, _, _, rfl, rfl, _, _, rfl, rfl, (by show (0 : Int) < 2147483647; decide), _, rfl, S, _, _, 2, rfl, rfl, upd_same, rfl, ?_⟩
      have n1 := Int.emod_nonneg (m * 48271 + c + 7919 * (k + 1) + 12345) (show (2147483647 : Int) ≠ 0 by decide)
      have n2 := Int.emod_lt_of_pos (m * 48271 + c + 7919 * (k + 1) + 12345) (show (0 : Int) < 2147483647 by decide)
      refine ⟨_, rfl, _, _, _, _, rfl, rfl, SqL.of upd_same, rfl, _, rfl, _, _, _, _, rfl, rfl, SqL.of upd_same, rfl, _, _, rfl, rfl, .inl (by omega), _, _, rfl, rfl, (by show (0 : Int) < 2147483629; decide), _, _, rfl, rfl, ⟨by decide, by decide⟩, _, rfl, _, _, rfl, rfl, hn, ?_⟩
      refine q _ _ (fun b o e n1 n2 => by rw [upd_ne n1, upd_ne n1]; exact e) ⟨cells, k + 1, _, upd_same, by rw [upd_ne hSC.symm, upd_ne hSC.symm]; exact hC, hc0, hc63, hpos, by omega, n1, n2⟩ (Int.emod_nonneg _ (Int.ne_of_gt hn)) (Int.emod_lt_of_pos _ hn)
theorem ok_l_state (T : Tx K mg) : FnOk P w K mg base CX0 1 T.a_l_state T.fd_l_state P_l_state (spState K) := by
  refine T.F_l_state.ok sc_l_state (fun vs H Q E h => ?_) (fun cdv A outer s H vs Q E hr h => ?_)
  · obtain ⟨a, ns, rfl, _⟩ := h
    rfl
  · obtain ⟨a, ns, rfl, ha, hl, q⟩ := h
    refine ⟨_, (pss_one (ps_ret (pe_lst (pa_cons (pe_orT (pe_lc (own := [("_law_cell", 1)]) (g := gName 1) (tt := tYes) rfl sc_l_state.nd (pi_list (pe_slice sl_list (pv 0) po_none (po_some pe_int))) (blkOk_by (N := N_l_state) (sc := defScope s_l_state) (by decide +kernel)) (fun _ _ _ _ _ => pg_name (i := 1) sc_l_state.nd rfl (Or.inl rfl)) (fun _ _ _ _ _ => pts_nil) (fun _ _ _ _ _ => (pe_callB call_abs (by rfl) T.m_abs (by decide +kernel) (pa_cons (pv 1) pa_nil)))) (pe_one (pe_lst (pa_cons pe_int pa_nil)))) (pa_cons pe_int (pa_cons pe_int pa_nil)))))), ?_⟩
    refine ⟨_, rfl, 63, rfl, a, _, rfl, ha, fun c nc => ?_⟩
    rw [show cutV (ns.map V.int) none (some 63) = ns.map V.int from (cut_take _ 63).trans (List.take_of_length_le (by rw [List.length_map]; exact hl))]
    have Dn : ∀ D, (upd H c (.lst (ns.map V.int))) D = none → D ≠ c ∧ H D = none := fun D nD => by
      have k : D ≠ c := fun e => by rw [e, upd_same] at nD; cases nD
      exact ⟨k, by rw [upd_ne k] at nD; exact nD⟩
    refine ⟨c, rfl, ⟨_, SqL.of upd_same⟩, fun D nD => ?_⟩
    obtain ⟨nDc, nD0⟩ := Dn D nD
    refine lc_list (K := K) (a := c) (xs := ns.map V.int) (fun i H' => Same H H' ∧ H' c = some (.lst (ns.map V.int)) ∧ H' D = some (.lst (((ns.take i).map fun n => if n < 0 then -n else n).map V.int))) ⟨(same_new nc).own nD0, by rw [upd_ne nDc.symm, upd_same], upd_same⟩ (fun i H' _ p => SqL.of p.2.1) (fun i x H' hx p => ?_) (fun H' p => ?_)
    · obtain ⟨sm, hc, hD⟩ := p
      obtain ⟨z, hz, rfl⟩ := of_ints_at hx
      have hlt := (List.getElem?_eq_some_iff.mp hz).1
      refine ⟨rfl, ?_⟩
      refine ⟨_, rfl, z, rfl, _, hD, by rw [List.length_map, List.length_map, List.length_take]; exact small_lt (by omega), ?_⟩
      refine ⟨L2.Same.own sm nD0, by rw [upd_ne nDc.symm]; exact hc, ?_⟩
      rw [upd_same, take_snoc hz, List.map_append, List.map_append]
      rfl
    · obtain ⟨sm, hc, hD⟩ := p
      rw [List.length_map, List.take_length] at hD
      generalize hcs : (ns.map fun n => if n < 0 then -n else n) = cs at hD
      have hpos : ∀ z ∈ cs, 0 ≤ z := fun z hz => by
        rw [← hcs] at hz
        obtain ⟨n, _, rfl⟩ := List.mem_map.mp hz
        split <;> omega
      have hcl : cs.length ≤ 63 := by rw [← hcs, List.length_map]; exact hl
      refine ⟨!cs.isEmpty, .inl ⟨_, SqL.of hD, by cases cs <;> rfl⟩, ?_⟩
      cases cs with
      | nil =>
        refine ⟨(by show 1 ≤ sizeLine; decide), fun p np => ?_⟩
        refine ⟨(by show 3 ≤ sizeLine; decide), fun S nS => ?_⟩
        have nSp : S ≠ p := fun z => by rw [z, upd_same] at nS; cases nS
        have nS0 : H S = none := sm.free (by rw [upd_ne nSp] at nS; exact nS)
        exact q _ S p ((sm.trans (same_new np)).trans (same_new nS)) nS0 (sm.free np) ⟨[7], 0, 1, upd_same, by rw [upd_ne nSp.symm, upd_same]; rfl, by decide, by decide, by decide, by decide, by decide, by decide⟩
      | cons c0 cr =>
        refine ⟨(by show 3 ≤ sizeLine; decide), fun S nS => ?_⟩
        have nS0 : H S = none := sm.free nS
        have hSD : S ≠ D := fun z => by rw [z, hD] at nS; cases nS
        exact q _ S D (sm.trans (same_new nS)) nS0 nD0 ⟨c0 :: cr, 0, 1, upd_same, by rw [upd_ne hSD.symm]; exact hD, Nat.succ_pos _, hcl, hpos, by decide, by decide, by decide⟩
theorem ok_l_great (T : Tx K mg) : FnOk P w K mg base CX0 2 T.a_l_great T.fd_l_great P_l_great spGreat := by
  refine T.F_l_great.ok sc_l_great (fun vs H Q E h => ?_) (fun cdv A outer s H vs Q E hr h => ?_)
  · obtain ⟨S, C, n, rfl, _⟩ := h
    rfl
  · obtain ⟨S, C, f, rfl, f0, f1, hst, q⟩ := h
    refine ⟨_, (pss_cons (ps_set (i := 2) sc_l_great.nd rfl (.inl rfl) pe_int)
      (pss_cons (ps_for PassesOwn.never rfl (pi_range1 (by rfl) T.m_range (pa_cons (pv 1) pa_nil)) (pg_name (i := 3) sc_l_great.nd rfl (.inl rfl))
       (pss_one (ps_set (i := 2) sc_l_great.nd rfl (.inl rfl) (pe_op op_add (pe_op op_mul (pv 2) pe_int) (pe_call (ok_l_draw T) (hr.mono (by decide)) (by rfl) T.g_l_draw T.F_l_draw.kp T.b_l_draw .nil pass0 (pa_cons (pv 0) (pa_cons pe_int pa_nil)))))))
      (pss_one (ps_ret (pv 2))))), ?_⟩
    refine ⟨_, rfl, f, rfl, by omega, by omega, ?_⟩
    refine for_range (lo := 0) (n := f.toNat) (fun i σ H1 => Mod S C H H1 ∧ StOk H1 S C ∧ ∃ (z : Int) (u : Option V), σ = [some (.ref S), some (.int f), some (.int z), u] ∧ 0 ≤ z ∧ z < 10 ^ i)
      ⟨Mod.refl S C H, hst, 0, none, rfl, by decide, by decide⟩ (fun i σ H1 hi hP => ?_) (fun σ H1 hP => ?_)
    · obtain ⟨m1, st1, z, u, rfl, z0, z1⟩ := hP
      refine ⟨_, rfl, _, _, rfl, rfl, .inr ⟨by decide, by decide⟩, _, rfl, S, C, _, rfl, by decide, by decide, st1, fun H2 d m2 st2 d0 d1 => ?_⟩
      refine ⟨_, _, rfl, rfl, m1.trans m2, st2, z * 10 + d, _, rfl, by omega, ?_⟩
      rw [Int.pow_succ]
      omega
    · obtain ⟨m1, st1, z, u, rfl, z0, z1⟩ := hP
      exact ⟨_, rfl, q _ _ m1 st1 z0 z1⟩
theorem ok_l_pick (T : Tx K mg) : FnOk P w K mg base CX0 2 T.a_l_pick T.fd_l_pick P_l_pick spPick := by
  refine T.F_l_pick.ok sc_l_pick (fun vs H Q E h => ?_) (fun cdv A outer s H vs Q E hr h => ?_)
  · obtain ⟨S, C, n, rfl, _⟩ := h
    rfl
  · obtain ⟨S, C, x, rfl, hst, h⟩ := h
    refine ⟨_, (pss_one (ps_ret (pe_ix ix_seq (pv 1) (pe_call (ok_l_draw T) (hr.mono (by decide)) (by rfl) T.g_l_draw T.F_l_draw.kp T.b_l_draw .nil pass0 (pa_cons (pv 0) (pa_cons (pe_callB call_len (by rfl) T.m_len (by decide +kernel) (pa_cons (pv 1) pa_nil)) pa_nil))) (fun _ _ => rfl)))), ?_⟩
    rcases h with ⟨a, xs, rfl, na, nc, ha, h0, hl, q⟩ | ⟨z, rfl, h0, hl, q⟩
    · refine ⟨_, rfl, _, rfl, _, rfl, _, xs.length, rfl, .inl ⟨xs, SqL.of ha, rfl⟩, S, C, _, rfl, by omega, small_nat (by omega), hst, fun H' d m st d0 d1 => ?_⟩
      obtain ⟨j, v, ej, hj, hv⟩ := at_some d0 d1
      exact .inl ⟨a, xs, d, v, rfl, rfl, SqL.of (m _ _ ha na nc), atI_at ej hj, q _ _ m st hv⟩
    · have hz : z.cps.toList.length = z.length := Array.length_toList
      refine ⟨_, rfl, _, rfl, _, rfl, _, z.length, rfl, ⟨Nat.le_trans hl (by decide), rfl⟩, S, C, _, rfl, by omega, small_nat (by omega), hst, fun H' d m st d0 d1 => ?_⟩
      obtain ⟨j, v, ej, hj, hv⟩ := at_some (xs := z.cps.toList) d0 (by omega)
      exact .inr (.inr ⟨z, d, v, rfl, rfl, Nat.le_trans hl (by decide), atI_at ej hj, q _ _ m st hv⟩)
end
end K09
namespace K09
open PySem PySem.Spec PyProof.Rows L2 GL
section
variable {P : Program} {w : World} {K : PySem.W.Frag} {mg : Str → Option Value} {base : Heap}
theorem ok_l_labels (T : Tx K mg) : FnOk P w K mg base CX0 3 T.a_l_labels T.fd_l_labels P_l_labels spNames := by
  refine T.F_l_labels.ok sc_l_labels (fun vs H Q E h => ?_) (fun cdv A outer s H vs Q E hr h => ?_)
  · obtain ⟨S, C, n, rfl, _⟩ := h
    rfl
  · obtain ⟨S, C, n, rfl, hn0, hn1, hst, q⟩ := h
    refine ⟨_, (pss_cons (ps_set (i := 2) sc_l_labels.nd rfl (.inl rfl) (pe_lst (pa_cons pe_str (pa_cons pe_str (pa_cons pe_str (pa_cons pe_str (pa_cons pe_str (pa_cons pe_str (pa_cons pe_str (pa_cons pe_str (pa_cons pe_str (pa_cons pe_str (pa_cons pe_str (pa_cons pe_str (pa_cons pe_str pa_nil)))))))))))))))
      (pss_cons (ps_set (i := 3) sc_l_labels.nd rfl (.inr rfl) (pe_lst pa_nil))
      (pss_cons (ps_for PassesOwn.never rfl (pi_range1 (by rfl) T.m_range (pa_cons (pv 1) pa_nil)) (pg_name (i := 4) sc_l_labels.nd rfl (.inl rfl))
       (pss_cons (ps_set (i := 5) sc_l_labels.nd rfl (.inr rfl) (pe_call (ok_l_pick T) (hr.mono (by decide)) (by rfl) T.g_l_pick T.F_l_pick.kp T.b_l_pick .nil pass0 (pa_cons (pv 0) (pa_cons (pv 2) pa_nil))))
        (pss_cons (ps_if (pt_cmpR op_gt (pe_call (ok_l_draw T) (hr.mono (by decide)) (by rfl) T.g_l_draw T.F_l_draw.kp T.b_l_draw .nil pass0 (pa_cons (pv 0) (pa_cons pe_int pa_nil))) pe_int (nomark _))
         (pss_one (ps_set (i := 5) sc_l_labels.nd rfl (.inr rfl) (pe_join pe_str (pe_lc (own := [("_law_k", 6)]) (g := gName 6) (tt := tYes) rfl sc_l_labels.nd (pi_range1 (by rfl) T.m_range (pa_cons (pe_op op_add pe_int (pe_call (ok_l_draw T) (hr.mono (by decide)) (by rfl) T.g_l_draw T.F_l_draw.kp T.b_l_draw .nil pass0 (pa_cons (pv 0) (pa_cons pe_int pa_nil)))) pa_nil)) (blkOk_by (N := N_l_labels) (sc := defScope s_l_labels) (by decide +kernel)) (fun _ _ _ _ _ => pg_name (i := 6) sc_l_labels.nd rfl (Or.inl rfl)) (fun _ _ _ _ _ => pts_nil) (fun _ _ _ _ _ => (pe_call (ok_l_pick T) (hr.mono (by decide)) (by rfl) T.g_l_pick T.F_l_pick.kp T.b_l_pick .nil pass0 (pa_cons (pv 0) (pa_cons pe_str pa_nil))))))))
         pss_nil)
        (pss_cons (ps_if (pt_cmpR op_in_seq (pv 5) (pv 3) (by rfl))
         (pss_one (ps_set (i := 5) sc_l_labels.nd rfl (.inr rfl) (pe_ix ix_list (pe_lc (own := [("_law_sign", 7)]) (g := gName 7)  rfl sc_l_labels.nd (pi_str pe_str) (blkOk_by (N := N_l_labels) (sc := defScope s_l_labels) (by decide +kernel)) (fun _ _ _ _ _ => pg_name (i := 7) sc_l_labels.nd rfl (Or.inl rfl)) (fun _ _ _ _ _ => pts_one (pt_cmpR (show OpR _ (compareOp .NotIn) (rIn K true) from op_notIn_seq) (pe_op op_add_str (pe_slice sl_str (pv 5) po_none (po_some pe_int)) (pv 7)) (pv 3) (by rfl))) (fun _ _ _ _ _ => (pe_op op_add_str (pe_slice sl_str (pv 5) po_none (po_some pe_int)) (pv 7)))) pe_int (fun _ _ => rfl))))
         pss_nil)
        (pss_one (ps_expr (pe_bm PySem.F.plainAttrs_list PySem.F.slot_list_append PySem.F.type_list_append mt_append (pv 3) (pa_cons (pv 5) pa_nil))))))))
      (pss_one (ps_ret (pv 3)))))), ?_⟩
    refine ⟨(by show 13 ≤ sizeLine; decide), fun ow now => ⟨Nat.zero_le _, fun f nf => ?_⟩⟩
    have fow : f ≠ ow := fun e => by rw [e, upd_same] at nf; cases nf
    have nf0 : H f = none := by rw [upd_ne fow] at nf; exact nf
    refine ⟨_, rfl, n, rfl, by omega, by omega, ?_⟩
    have how0 : (upd (upd H ow (.lst (words13.map V.str))) f (.lst [])) ow = some (.lst (words13.map V.str)) := by rw [upd_ne fow.symm, upd_same]
    have st0 : StOk (upd (upd H ow (.lst (words13.map V.str))) f (.lst [])) S C := (hst.same (same_new now)).same (same_new nf)
    refine for_range (lo := 0) (n := n.toNat) (fun i σ H1 => (∃ a b, σ = [some (.ref S), some (.int n), some (.ref ow), some (.ref f), a, b, none, none]) ∧ Mod S C H H1 ∧ StOk H1 S C ∧ H1 ow = some (.lst (words13.map V.str)) ∧ ∃ ys : List Str, H1 f = some (.lst (ys.map V.str)) ∧ ys.length = i ∧ ys.Nodup ∧ ∀ y ∈ ys, NameOk y)
      ⟨⟨none, none, rfl⟩, (Mod.of (same_new now)).own nf0, st0, how0, [], upd_same, rfl, List.nodup_nil, fun _ h => nomatch h⟩ (fun i σ H1 hi hP => ?_) (fun σ H1 hP => ?_)
    · obtain ⟨⟨a, b, rfl⟩, m1, st1, how, ys, hf, hlen, hnd, hok⟩ := hP
      have hi14 : i < 14 := by omega
      have off := st1.offS how
      refine ⟨_, rfl, _, rfl, S, C, _, rfl, st1, .inl ⟨ow, _, rfl, off.1, off.2, how, by decide, by decide, fun H2 v m2 st2 hv => ?_⟩⟩
      obtain ⟨y, rfl, hy⟩ : ∃ y, v = .str y ∧ NameOk y := by
        obtain ⟨y, hy, rfl⟩ := List.mem_map.mp hv
        exact ⟨y, rfl, words13_ok y hy⟩
      clear hv
      refine ⟨_, rfl, S, C, _, rfl, by decide, by decide, st2, fun H3 d m3 st3 d0 d1 => ?_⟩
      refine ⟨_, _, rfl, rfl, _, rfl, ?_⟩
      dsimp only
      refine ite2R (R := fun H4 z => tNext _ (([some (V.ref S), some (V.int n), some (V.ref ow), some (V.ref f), a, b, none, none].set 4 (some (V.int (0 + ((i : Nat) : Int))))).set 5 (some (V.str z))) H4) (fun H4 z => Mod S C H1 H4 ∧ StOk H4 S C ∧ NameOk z) H3 y (fun _ => ⟨m2.trans m3, st3, hy⟩) (fun _ key => ?_) (fun H4 z hz => ?_)
      · -- a word
        refine ⟨⟨_, rfl⟩, _, rfl, S, C, _, rfl, by decide, by decide, st3, fun H4 e m4 st4 e0 e1 => ?_⟩
        refine ⟨_, _, rfl, rfl, _, rfl, by omega, by omega, fun D nD => ?_⟩
        refine lc_range (lo := 0) (n := (1 + e).toNat) (fun j H5 => Mod S C H4 H5 ∧ StOk H5 S C ∧ ∃ cs : List Nat, cs.length = j ∧ (∀ x ∈ cs, 97 ≤ x ∧ x ≤ 122) ∧ H5 D = some (.lst ((cs.map one).map V.str)))
          ⟨Mod.of (same_new nD), st4.same (same_new nD), [], rfl, (fun _ h => nomatch h), upd_same⟩ (fun j H5 hj hP => ?_) (fun H5 hP => ?_)
        · obtain ⟨m5, st5, cs, hcl, hcs, hD⟩ := hP
          refine ⟨rfl, _, rfl, S, C, _, rfl, st5, .inr ⟨etao, rfl, by decide +kernel, by decide +kernel, fun H6 x m6 st6 hx => ?_⟩⟩
          have hD6 := m6.strs st5 hD
          have off6 := st6.offS hD6
          refine ⟨_, hD6, by rw [List.length_map, List.length_map]; exact small_lt (by omega), (m5.trans m6).own nD, st6.upd off6.1 off6.2, cs ++ [x], by rw [List.length_append, hcl]; rfl, fun y hy => ?_, ?_⟩
          · rcases List.mem_append.mp hy with hy | hy
            · exact hcs y hy
            · rw [List.mem_singleton] at hy
              rw [hy]
              exact etao_mem x hx
          · rw [upd_same, List.map_append, List.map_append]
            rfl
        · obtain ⟨m5, st5, cs, hcl, hcs, hD⟩ := hP
          have hcl8 : cs.length ≤ 8 := by omega
          refine ⟨_, D, cs.map one, rfl, rfl, .inl (SqL.of hD), by rw [ones_len]; show cs.length + (cs.map one).length * 0 ≤ 16777216; omega, ?_⟩
          have hw : NameOk (Txt.join ("" : Str) (cs.map one)) := by
            rw [show ("" : Str) = ⟨#[]⟩ by decide +kernel]
            unfold NameOk
            rw [glue_ones]
            exact ⟨by omega, hcl8, hcs⟩
          exact key H5 _ ⟨((m2.trans m3).trans m4).trans m5, st5, hw⟩
      · obtain ⟨m4, st4, hz⟩ := hz
        have hf4 := m4.strs st1 hf
        have how4 := m4.strs st1 how
        refine ⟨_, rfl, _, rfl, f, _, rfl, .inl (SqL.of hf4), rfl, flat_strs ys, decide (z ∈ ys), by rw [inV_strs]; rfl, ?_⟩
        dsimp only
        refine ite2R (R := fun H5 y => tNext _ (([some (V.ref S), some (V.int n), some (V.ref ow), some (V.ref f), a, b, none, none].set 4 (some (V.int (0 + ((i : Nat) : Int))))).set 5 (some (V.str y))) H5) (fun H5 y => Mod S C H1 H5 ∧ StOk H5 S C ∧ NameOk y ∧ y ∉ ys) H4 z (fun h => ⟨m4, st4, hz, fun hm => h (decide_eq_true hm)⟩) (fun _ key => ?_) (fun H5 y hy => ?_)
        · refine ⟨_, rfl, fun D nD => ?_⟩
          refine lc_it (walk_str (z := abc)) (fun j H5 => Same H4 H5 ∧ H5 D = some (.lst ((((abc.cps.toList.take j).map (w7 z)).filter fun x => !decide (x ∈ ys)).map V.str))) ⟨same_new nD, by rw [upd_same]; rfl⟩ (fun _ _ _ _ => trivial) (fun j x H5 H6 hj hP hY => ?_) (fun H5 hP => ?_)
          · obtain ⟨sm5, hD⟩ := hP
            obtain ⟨rfl, ch, hch, rfl⟩ := hY
            have hch2 : abc.cps.toList[j]? = some ch := by rw [Array.getElem?_toList]; exact hch
            have hsz : (cutS z none (some 7)).length + 1 ≤ sizeLine := by
              have := cutS_length z none (some 7)
              have h8 := hz.len
              exact small_sz (by omega)
            refine ⟨rfl, _, rfl, 7, rfl, z, rfl, Nat.le_trans hz.len (by decide), _, rfl, _, _, rfl, rfl, hsz, _, rfl, f, _, rfl, .inl (SqL.of (sm5 _ _ hf4)), rfl, flat_strs ys, _, rfl, ?_⟩
            show if (!inV (.str (w7 z ch)) (ys.map V.str)) = true then _ else _
            rw [inV_strs]
            by_cases hxy : w7 z ch ∈ ys
            · rw [decide_eq_true hxy]
              refine iteF ⟨sm5, ?_⟩
              rw [hD, take_snoc hch2, List.map_append, List.filter_append, List.map_cons, List.filter_cons, decide_eq_true hxy]
              simp
            · rw [decide_eq_false hxy]
              refine ⟨_, rfl, 7, rfl, z, rfl, Nat.le_trans hz.len (by decide), _, rfl, _, _, rfl, rfl, hsz, _, hD, ?_, sm5.own nD, ?_⟩
              · rw [List.length_map]
                refine small_lt (Nat.lt_of_le_of_lt (List.length_filter_le _ _) ?_)
                rw [List.length_map, List.length_take]
                have : abc.cps.toList.length = 26 := by decide +kernel
                omega
              · rw [upd_same, take_snoc hch2, List.map_append, List.filter_append, List.map_cons, List.filter_cons, decide_eq_false hxy]
                simp
                rfl
          · obtain ⟨sm5, hD⟩ := hP
            have e26 : abc.cps.size = 26 := by decide +kernel
            have e26' : abc.cps.toList.length = 26 := by decide +kernel
            rw [List.take_of_length_le (by omega)] at hD
            have hne := fresh_w7 (z := z) (found := ys) (by omega)
            cases hfl : (abc.cps.toList.map (w7 z)).filter (fun x => !decide (x ∈ ys)) with
            | nil => exact absurd hfl hne
            | cons x r =>
              rw [hfl] at hD
              have hxm : x ∈ (abc.cps.toList.map (w7 z)).filter (fun x => !decide (x ∈ ys)) := by rw [hfl]; exact List.mem_cons_self
              obtain ⟨hx1, hx2⟩ := List.mem_filter.mp hxm
              have hxy : x ∉ ys := by simpa using hx2
              have hxo : NameOk x := by
                obtain ⟨c, hc, rfl⟩ := List.mem_map.mp hx1
                exact w7_ok hz (abc_mem.mp hc)
              refine ⟨D, _, 0, .str x, rfl, rfl, SqL.of hD, atI_nat (j := 0) rfl, ?_⟩
              exact key H5 x ⟨m4.trans (Mod.of sm5), st4.same sm5, hxo, hxy⟩
        · obtain ⟨m5, st5, hyo, hys⟩ := hy
          have hf5 := m5.strs st1 hf
          have how5 := m5.strs st1 how
          have off5 := st5.offS hf5
          have fow5 : ow ≠ f := fow.symm
          refine ⟨_, rfl, .inl ⟨rfl, _, SqL.of hf5⟩, _, rfl, f, _, _, rfl, rfl, hf5, by rw [List.length_map]; exact small_lt (by omega), ?_⟩
          refine ⟨⟨_, _, rfl⟩, (m1.trans m5).own nf0, st5.upd off5.1 off5.2, by rw [upd_ne fow5]; exact how5, ys ++ [y], by rw [upd_same, List.map_append]; rfl, by rw [List.length_append, hlen]; rfl, snoc_nd hnd hys, fun u hu => ?_⟩
          rcases List.mem_append.mp hu with hu | hu
          · exact hok u hu
          · rw [List.mem_singleton.mp hu]
            exact hyo
    · obtain ⟨⟨a, b, rfl⟩, m1, st1, how, ys, hf, hlen, hnd, hok⟩ := hP
      exact ⟨_, rfl, q H1 f ys m1 st1 nf0 hf hlen hnd hok⟩
end
end K09
namespace K09
open PySem PySem.Spec PyProof.Rows L2 GL
section
variable {P : Program} {w : World} {K : PySem.W.Frag} {mg : Str → Option Value} {base : Heap}
theorem ok_l_values (T : Tx K mg) : FnOk P w K mg base CX0 3 T.a_l_values T.fd_l_values P_l_values spValues := by
  refine T.F_l_values.ok sc_l_values (fun vs H Q E h => ?_) (fun cdv A outer s H vs Q E hr h => ?_)
  · obtain ⟨S, C, a, ns, rfl, _⟩ := h
    rfl
  · obtain ⟨S, C, a, ns, rfl, hst, ha, hl, hnd, q⟩ := h
    have hu := hu_of hr
    refine ⟨_, (pss_cons (ps_par3 (i := 2) (j := 3) (l := 4) (by rfl) sc_l_values.nd rfl rfl rfl (by decide) (by decide) (by decide) rfl rfl rfl (pa_cons (pe_call (ok_l_draw T) (hr.mono (by decide)) (by rfl) T.g_l_draw T.F_l_draw.kp T.b_l_draw .nil pass0 (pa_cons (pv 0) (pa_cons pe_int pa_nil))) (pa_cons pe_dnewK (pa_cons (pe_op op_sub (pe_call (ok_l_draw T) (hr.mono (by decide)) (by rfl) T.g_l_draw T.F_l_draw.kp T.b_l_draw .nil pass0 (pa_cons (pv 0) (pa_cons pe_int pa_nil))) pe_int) pa_nil))) (by rfl))
      (pss_cons (ps_for PassesOwn.never rfl (pi_list (pv 1)) (pg_name (i := 5) sc_l_values.nd rfl (.inl rfl))
       (pss_cons (ps_set (i := 6) sc_l_values.nd rfl (.inl rfl) (pe_ix ix_list (pe_lst (pa_cons (pe_op op_sub (pe_call (ok_l_draw T) (hr.mono (by decide)) (by rfl) T.g_l_draw T.F_l_draw.kp T.b_l_draw .nil pass0 (pa_cons (pv 0) (pa_cons pe_int pa_nil))) pe_int) (pa_cons (pe_op op_add (pe_call (ok_l_draw T) (hr.mono (by decide)) (by rfl) T.g_l_draw T.F_l_draw.kp T.b_l_draw .nil pass0 (pa_cons (pv 0) (pa_cons pe_int pa_nil))) (pe_op op_mul pe_int (pe_op op_sub (pe_call (ok_l_draw T) (hr.mono (by decide)) (by rfl) T.g_l_draw T.F_l_draw.kp T.b_l_draw .nil pass0 (pa_cons (pv 0) (pa_cons pe_int pa_nil))) pe_int))) (pa_cons pe_int pa_nil)))) (pe_op op_mod (pv 2) pe_int) (fun _ _ => rfl)))
        (pss_cons (ps_if (pt_cmpR op_gt (pv 2) pe_int (nomark _))
         (pss_one (ps_set (i := 6) sc_l_values.nd rfl (.inl rfl) (pe_op op_mul (pe_call (ok_l_great T) (hr.mono (by decide)) (by rfl) T.g_l_great T.F_l_great.kp T.b_l_great .nil pass0 (pa_cons (pv 0) (pa_cons (pe_op op_add pe_int (pe_call (ok_l_draw T) (hr.mono (by decide)) (by rfl) T.g_l_draw T.F_l_draw.kp T.b_l_draw .nil pass0 (pa_cons (pv 0) (pa_cons pe_int pa_nil)))) pa_nil))) (pe_op op_sub pe_int (pe_op op_mul pe_int (pe_call (ok_l_draw T) (hr.mono (by decide)) (by rfl) T.g_l_draw T.F_l_draw.kp T.b_l_draw .nil pass0 (pa_cons (pv 0) (pa_cons pe_int pa_nil))))))))
         pss_nil)
        (pss_one (ps_dput hu (pv 3) (pv 5) (pe_ifExp (pt_cmpR op_eq (pv 2) pe_int (nomark _)) (pv 4) (pv 6)) rfl)))))
      (pss_one (ps_ret (pv 3))))), ?_⟩
    refine ⟨_, rfl, S, C, _, rfl, by decide, by decide, hst, fun H1 way m1 st1 w0 w1 => fun d nd => ?_⟩
    have st2 := st1.same (same_new (o := .dK []) nd)
    refine ⟨_, rfl, S, C, _, rfl, by decide, by decide, st2, fun H2 one m2 st3 o0 o1 => ⟨_, _, rfl, rfl, _, _, _, rfl, ?_⟩⟩
    have hd2 : H2 d = some (.dK []) := m2 _ _ upd_same (st1.neS nd) (st1.neC nd)
    have m12 : Mod S C H H2 := (m1.trans (Mod.of (same_new nd))).trans m2
    have nd0 : H d = none := by
      cases hh : H d with
      | none => rfl
      | some o =>
        by_cases c1 : d = S
        · exact absurd c1 (st1.neS nd)
        · by_cases c2 : d = C
          · exact absurd c2 (st1.neC nd)
          · rw [m1 _ _ hh c1 c2] at nd
            cases nd
    have ha2 := m12.strs hst ha
    refine ⟨_, rfl, a, rfl, ⟨_, SqL.of ha2⟩, for_list (K := K) (a := a) (xs := ns.map V.str) (fun j σ H3 => ∃ (kvs : List (Key × V)) (u5 u6 : Option V), σ = [some (.ref S), some (.ref a), some (.int way), some (.ref d), some (.int (one - 12)), u5, u6] ∧ Mod S C H H3 ∧ StOk H3 S C ∧ H3 d = some (.dK kvs) ∧ kvs.map (·.1) = (ns.take j).map Sum.inr ∧ ∀ kv ∈ kvs, ∃ z, kv.2 = V.int z)
      ⟨[], none, none, rfl, m12, st3, hd2, rfl, fun _ h => nomatch h⟩ (fun j σ H3 _ hP => ?_) (fun j v σ H3 hv hP => ?_) (fun σ H3 hP => ?_)⟩
    · obtain ⟨kvs, u5, u6, rfl, m3, _⟩ := hP
      exact SqL.of (m3.strs hst ha)
    · obtain ⟨kvs, u5, u6, rfl, m3, st4, hd, hk, hz⟩ := hP
      obtain ⟨y, hy, rfl⟩ := of_strs_at hv
      have hjl := (List.getElem?_eq_some_iff.mp hy).1
      refine ⟨_, rfl, S, C, _, rfl, by decide, by decide, st4, fun Ha x1 ma sta a0 a1 => ⟨_, _, rfl, rfl, ?_⟩⟩
      refine ⟨_, rfl, S, C, _, rfl, by decide, by decide, sta, fun Hb x2 mb stb b0 b1 => ?_⟩
      refine ⟨_, rfl, S, C, _, rfl, by decide, by decide, stb, fun Hc x3 mc stc c0 c1 => ⟨_, _, rfl, rfl, _, _, rfl, rfl, .inl ⟨by decide, by decide⟩, _, _, rfl, rfl, (by show 3 ≤ sizeLine; decide), fun p np => ?_⟩⟩
      refine ⟨_, rfl, _, _, rfl, rfl, (by show (0 : Int) < 3; decide), ?_⟩
      obtain ⟨z0, hz0⟩ : ∃ z0 : Int, atI [V.int (x1 - 12), V.int (x2 + 27720 * (x3 - 4)), V.int 0] (way % 3) = some (.int z0) := by
        rcases (show way % 3 = 0 ∨ way % 3 = 1 ∨ way % 3 = 2 by omega) with e | e | e <;> rw [e]
        · exact ⟨_, rfl⟩
        · exact ⟨_, rfl⟩
        · exact ⟨_, rfl⟩
      refine ⟨p, _, _, _, rfl, rfl, SqL.of upd_same, hz0, ?_⟩
      have sp := same_new (o := .lst [V.int (x1 - 12), V.int (x2 + 27720 * (x3 - 4)), V.int 0]) np
      have mac := ((ma.trans mb).trans mc).trans (Mod.of sp)
      have std := stc.same sp
      refine ⟨_, rfl, _, _, rfl, rfl, _, rfl, ?_⟩
      dsimp only
      refine ite2R (R := fun H4 (z : Int) => tNext _ (([some (.ref S), some (.ref a), some (.int way), some (.ref d), some (.int (one - 12)), u5, u6].set 5 (some (.str y))).set 6 (some (.int z))) H4) (fun H4 z => Mod S C H3 H4 ∧ StOk H4 S C) _ z0 (fun _ => ⟨mac, std⟩) (fun _ key => ?_) (fun H4 z hz4 => ?_)
      · refine ⟨_, rfl, _, rfl, S, C, _, rfl, by decide, by decide, std, fun He x4 me ste e0 e1 => ?_⟩
        refine ⟨_, _, rfl, rfl, S, C, _, rfl, by omega, by omega, ste, fun Hf x5 mf stf f0 f1 => ?_⟩
        refine ⟨_, rfl, S, C, _, rfl, by decide, by decide, stf, fun Hg x6 mg stg g0 g1 => ?_⟩
        refine ⟨_, _, rfl, rfl, .inl ⟨by decide, by decide⟩, _, _, rfl, rfl, _, _, rfl, rfl, .inr ⟨by omega, by omega⟩, ?_⟩
        exact key Hg _ ⟨((mac.trans me).trans mf).trans mg, stg⟩
      · obtain ⟨m4, st4'⟩ := hz4
        have dS := st1.neS nd
        have dC := st1.neC nd
        have hd4 := m4 _ _ hd dS dC
        have hnew : (Sum.inr y : Key) ∉ kvs.map (·.1) := fun hm => by
          rw [hk] at hm
          obtain ⟨w2, hw2, e⟩ := List.mem_map.mp hm
          obtain rfl : w2 = y := Sum.inr.inj e
          obtain ⟨i, hi, ei⟩ := List.mem_iff_getElem.mp hw2
          rw [List.length_take] at hi
          rw [List.getElem_take] at ei
          obtain ⟨_, e2⟩ := List.getElem?_eq_some_iff.mp hy
          have := (List.getElem_inj hnd).mp (ei.trans e2.symm)
          omega
        have hkl : kvs.length = min j ns.length := by
          have := congrArg List.length hk
          rw [List.length_map, List.length_map, List.length_take] at this
          exact this
        refine ⟨_, rfl, rfl, _, rfl, ite2 (fun _ => ?_) (fun _ => ?_)⟩
        all_goals
          refine ⟨_, rfl, _, rfl, _, rfl, d, _, rfl, DPut.k (k := Sum.inr y) hd4 (small_lt (by omega)), ?_⟩
          refine ⟨_, _, _, rfl, (m3.trans m4).own nd0, st4'.upd dS dC, upd_same, ?_, ?_⟩
          · rw [putK_new _ (valV_none hnew), List.map_append, hk, take_snoc hy, List.map_append]
            rfl
          · rw [putK_new _ (valV_none hnew)]
            intro kv hkv
            rcases List.mem_append.mp hkv with h | h
            · exact hz kv h
            · rw [List.mem_singleton.mp h]
              exact ⟨_, rfl⟩
    · obtain ⟨kvs, u5, u6, rfl, m3, st4, hd, hk, hz⟩ := hP
      rw [List.length_map, List.take_length] at hk
      have hkn : (kvs.map (·.1)).Nodup := by
        rw [hk]
        exact nodup_map (fun a b e => Sum.inr.inj e) hnd
      have hkl : kvs.length = ns.length := by
        have := congrArg List.length hk
        rw [List.length_map, List.length_map] at this
        exact this
      refine ⟨_, rfl, q _ d (slOf kvs) m3 st4 nd0 ⟨kvs, hd, hkl, hkn, fun n hn => ?_⟩⟩
      have : (Sum.inr n : Key) ∈ kvs.map (·.1) := by
        rw [hk]
        exact List.mem_map.mpr ⟨n, hn, rfl⟩
      obtain ⟨v, h1, h2⟩ := valV_mem this
      obtain ⟨z, e⟩ := hz _ h2
      have e : v = .int z := e
      subst e
      unfold slOf
      rw [h1]
end
end K09
namespace K09
open PySem PySem.Spec PyProof.Rows L2 GL
section
variable {P : Program} {w : World} {K : PySem.W.Frag} {mg : Str → Option Value} {base : Heap}
theorem ok_is_number (T : Tx K mg) : FnOk P w K mg base CX0 1 T.a_is_number T.fd_is_number P_is_number spIsNumber := by
  refine T.F_is_number.ok sc_is_number (fun vs H Q E h => ?_) (fun cdv A outer s H vs Q E hr h => ?_)
  · obtain ⟨z, rfl, _⟩ := h
    rfl
  · obtain ⟨z, rfl, q⟩ := h
    refine ⟨_, (pss_one (ps_ret (pe_and (pe_callB call_isi (by rfl) T.m_isinstance (by decide +kernel) (pa_cons (pv 0) (pa_cons (pe_bltn (v := .ty "int") (by rfl) T.m_int (by decide +kernel) rfl) pa_nil))) (pe_one (pe_not (pe_callB call_isi (by rfl) T.m_isinstance (by decide +kernel) (pa_cons (pv 0) (pa_cons (pe_bltn (v := .ty "bool") (by rfl) T.m_bool (by decide +kernel) rfl) pa_nil)))))))), ?_⟩
    refine ⟨_, rfl, _, _, _, _, true, rfl, .ty _, .base (.int z), kit_ty (by decide +kernel), true, rfl, ?_⟩
    exact ⟨_, rfl, _, _, _, _, false, rfl, .ty _, .base (.int z), kit_ty (by decide +kernel), false, rfl, q⟩
theorem ok_is_name (T : Tx K mg) : FnOk P w K mg base CX0 1 T.a_is_name T.fd_is_name P_is_name spIsName := by
  refine T.F_is_name.ok sc_is_name (fun vs H Q E h => ?_) (fun cdv A outer s H vs Q E hr h => ?_)
  · obtain ⟨z, rfl, _⟩ := h
    rfl
  · obtain ⟨z, rfl, hz, q⟩ := h
    refine ⟨_, (pss_cons (ps_if (PW.pt (pw_or (pt_not (pt_val (pe_callB call_isi (by rfl) T.m_isinstance (by decide +kernel) (pa_cons (pv 0) (pa_cons (pe_bltn (v := .ty "str") (by rfl) T.m_str (by decide +kernel) rfl) pa_nil))))) (pw_or1 (pt_not (pt_chain op_le op_le pe_int (pe_callB call_len_str (by rfl) T.m_len (by decide +kernel) (pa_cons (pv 0) pa_nil)) (pe_glob (v := .int 8) rfl T.g_LONGEST_NAME ⟨_, rfl⟩))))))
       (pss_one (ps_ret pe_bl))
       pss_nil)
      (pss_one (ps_ret (pe_callB (cr_all rfl) (by rfl) T.m_all (by decide +kernel) (pa_cons (pe_lc (own := [("sign", 1)]) (g := gName 1) (tt := tYes) rfl sc_is_name.nd (pi_str (pv 0)) (blkOk_by (N := N_is_name) (sc := defScope s_is_name) (by decide +kernel)) (fun _ _ _ _ _ => pg_name (i := 1) sc_is_name.nd rfl (Or.inl rfl)) (fun _ _ _ _ _ => pts_nil) (fun _ _ _ _ _ => (pe_cmpR op_in_sign (pv 1) (pe_glob (v := .str "abcdefghijklmnopqrstuvwxyz") rfl T.g_LETTERS ⟨_, rfl⟩) (by rfl)))) pa_nil))))), ?_⟩
    have l1 := hz.len1
    have l8 := hz.len
    have h1 : decide ((1 : Int) ≤ (z.length : Int)) = true := decide_eq_true (by omega)
    have h2 : decide ((z.length : Int) ≤ 8) = true := decide_eq_true (by omega)
    refine ⟨_, rfl, _, _, _, _, true, rfl, .ty _, .base (.str z), kit_ty (by decide +kernel), true, rfl, ?_⟩
    refine ⟨_, rfl, z, rfl, small_sz (by omega), _, _, rfl, rfl, _, rfl, ?_⟩
    rw [h1]
    refine ⟨_, _, rfl, rfl, _, rfl, ?_⟩
    rw [h2]
    refine ⟨_, rfl, _, rfl, fun D nD => ?_⟩
    refine lc_it (walk_str (z := z)) (fun j H1 => Same H H1 ∧ H1 D = some (.lst ((List.replicate j true).map V.bl))) ⟨same_new nD, upd_same⟩ (fun _ _ _ _ => trivial) (fun j x H1 H2 hj hP hY => ?_) (fun H1 hP => ?_)
    · obtain ⟨sm, hD⟩ := hP
      obtain ⟨rfl, c, hc, rfl⟩ := hY
      have hj8 : j < 8 := by have : z.cps.size = z.length := rfl
                             omega
      have hcm : c ∈ abc.cps.toList := abc_mem.mpr (hz.2.2 c (by rw [← Array.getElem?_toList] at hc; exact List.mem_of_getElem? hc))
      refine ⟨rfl, _, rfl, c, abc, rfl, rfl, _, hD, by rw [List.length_map, List.length_replicate]; exact small_lt (by omega), sm.own nD, ?_⟩
      rw [upd_same, decide_eq_true hcm, List.replicate_succ', List.map_append]
      rfl
    · obtain ⟨sm, hD⟩ := hP
      refine ⟨D, _, rfl, SqL.of hD, ?_⟩
      rw [all_rep]
      exact q _ sm
theorem ok_is_names (T : Tx K mg) : FnOk P w K mg base CX0 2 T.a_is_names T.fd_is_names P_is_names spIsNames := by
  refine T.F_is_names.ok sc_is_names (fun vs H Q E h => ?_) (fun cdv A outer s H vs Q E hr h => ?_)
  · obtain ⟨c, a, ns, rfl, _⟩ := h
    rfl
  · obtain ⟨c, a, ns, rfl, ha, g, q⟩ := h
    refine ⟨_, (pss_cons (ps_if (PW.pt (pw_or (pt_not (pt_val (pe_callB call_isiT (by rfl) T.m_isinstance (by decide +kernel) (pa_cons (pv 0) (pa_cons (pe_tup (pa_cons (pe_bltn (v := .ty "list") (by rfl) T.m_list (by decide +kernel) rfl) (pa_cons (pe_bltn (v := .ty "tuple") (by rfl) T.m_tuple (by decide +kernel) rfl) pa_nil))) pa_nil))))) (pw_or1 (pt_not (pt_chain op_le op_le (pe_glob (v := .int 2) rfl T.g_FEWEST ⟨_, rfl⟩) (pe_callB call_len_seq (by rfl) T.m_len (by decide +kernel) (pa_cons (pv 0) pa_nil)) (pe_glob (v := .int 12) rfl T.g_MOST ⟨_, rfl⟩))))))
       (pss_one (ps_ret pe_bl))
       pss_nil)
      (pss_cons (ps_if (pt_not (pt_val (pe_callB (cr_all rfl) (by rfl) T.m_all (by decide +kernel) (pa_cons (pe_lc (own := [("name", 1)]) (g := gName 1) (tt := tYes) rfl sc_is_names.nd (pi_either (pi_list (pv 0)) (pi_tup (pv 0))) (blkOk_by (N := N_is_names) (sc := defScope s_is_names) (by decide +kernel)) (fun _ _ _ _ _ => pg_name (i := 1) sc_is_names.nd rfl (Or.inl rfl)) (fun _ _ _ _ _ => pts_nil) (fun _ _ _ _ _ => (pe_call (ok_is_name T) (hr.mono (by decide)) (by rfl) T.g_is_name T.F_is_name.kp T.b_is_name .nil pass0 (pa_cons (pv 1) pa_nil)))) pa_nil))))
       (pss_one (ps_ret pe_bl))
       pss_nil)
      (pss_one (ps_ret (pe_cmpR op_eq (pe_lenSetS rfl T.m_len T.m_set (pv 0)) (pe_callB call_len_seq (by rfl) T.m_len (by decide +kernel) (pa_cons (pv 0) pa_nil)) (nomark _)))))), ?_⟩
    have l2 := g.two
    have l12 := g.twelve
    have h1 : decide ((2 : Int) ≤ ((ns.map V.str).length : Int)) = true := decide_eq_true (by rw [List.length_map]; omega)
    have h2 : decide (((ns.map V.str).length : Int) ≤ 12) = true := decide_eq_true (by rw [List.length_map]; omega)
    refine ⟨_, rfl, (by show 2 ≤ sizeLine; decide), fun t nt => ?_⟩
    cases c
    · have ha1 := SqAt.same ha (same_new (o := .tup [.ty "list", .ty "tuple"]) nt)
      refine ⟨_, t, _, _, _, true, rfl, upd_same, .cons (.ty _) (.cons (.ty _) .nil), SqAt.tyl ha1, kitAny_cons (b := true) (kit_ty (by decide +kernel)) (fun h => nomatch h) (fun _ => rfl), true, rfl, ?_⟩
      refine ⟨_, rfl, a, _, rfl, .inl (SqAt.l ha1), _, _, rfl, rfl, _, rfl, ?_⟩
      rw [h1]
      refine ⟨_, _, rfl, rfl, _, rfl, ?_⟩
      rw [h2]
      refine .inl ⟨_, rfl, a, rfl, ⟨_, SqAt.l ha1⟩, fun D nD => ?_⟩
      refine lc_list (K := K) (a := a) (xs := ns.map V.str) (fun j H1 => Same H H1 ∧ H1 D = some (.lst ((List.replicate j true).map V.bl))) ⟨(same_new nt).trans (same_new nD), upd_same⟩ (fun j H1 _ hP => SqAt.l (ha.same hP.1)) (fun j x H1 hx hP => ?_) (fun H1 hP => ?_)
      · obtain ⟨sm, hD⟩ := hP
        obtain ⟨y, hy, rfl⟩ := of_strs_at hx
        have hj := (List.getElem?_eq_some_iff.mp hy).1
        refine ⟨rfl, _, rfl, y, rfl, g.ok y (List.mem_of_getElem? hy), fun H2 sm2 => ?_⟩
        refine ⟨_, sm2 _ _ hD, by rw [List.length_map, List.length_replicate]; exact small_lt (by omega), (sm.trans sm2).own ((same_new nt).free nD), ?_⟩
        rw [upd_same, List.replicate_succ', List.map_append]
        rfl
      · obtain ⟨sm, hD⟩ := hP
        refine ⟨D, _, rfl, SqL.of hD, ?_⟩
        rw [all_rep]
        refine ⟨_, rfl, ?_⟩
        refine ⟨_, rfl, a, ns, rfl, .inl (SqAt.l (ha.same sm)), by omega, _, rfl, a, _, rfl, .inl (SqAt.l (ha.same sm)), rfl, ?_⟩
        rw [GSet.firsts_of_nodup g.nd, List.length_map, decide_eq_true rfl]
        exact q _ sm
    · have ha1 := SqAt.same ha (same_new (o := .tup [.ty "list", .ty "tuple"]) nt)
      refine ⟨_, t, _, _, _, true, rfl, upd_same, .cons (.ty _) (.cons (.ty _) .nil), SqAt.tyt ha1, kitAny_cons (b := false) (kit_ty (by decide +kernel)) (fun _ => kitAny_cons (b := true) (kit_ty (by decide +kernel)) (fun h => nomatch h) (fun _ => rfl)) (fun h => nomatch h), true, rfl, ?_⟩
      refine ⟨_, rfl, a, _, rfl, .inr (SqAt.t ha1), _, _, rfl, rfl, _, rfl, ?_⟩
      rw [h1]
      refine ⟨_, _, rfl, rfl, _, rfl, ?_⟩
      rw [h2]
      refine .inr ⟨_, rfl, a, rfl, ⟨_, SqAt.t ha1⟩, fun D nD => ?_⟩
      refine lc_tup (K := K) (a := a) (xs := ns.map V.str) (fun j H1 => Same H H1 ∧ H1 D = some (.lst ((List.replicate j true).map V.bl))) ⟨(same_new nt).trans (same_new nD), upd_same⟩ (fun j H1 _ hP => SqAt.t (ha.same hP.1)) (fun j x H1 hx hP => ?_) (fun H1 hP => ?_)
      · obtain ⟨sm, hD⟩ := hP
        obtain ⟨y, hy, rfl⟩ := of_strs_at hx
        have hj := (List.getElem?_eq_some_iff.mp hy).1
        refine ⟨rfl, _, rfl, y, rfl, g.ok y (List.mem_of_getElem? hy), fun H2 sm2 => ?_⟩
        refine ⟨_, sm2 _ _ hD, by rw [List.length_map, List.length_replicate]; exact small_lt (by omega), (sm.trans sm2).own ((same_new nt).free nD), ?_⟩
        rw [upd_same, List.replicate_succ', List.map_append]
        rfl
      · obtain ⟨sm, hD⟩ := hP
        refine ⟨D, _, rfl, SqL.of hD, ?_⟩
        rw [all_rep]
        refine ⟨_, rfl, ?_⟩
        refine ⟨_, rfl, a, ns, rfl, .inr (SqAt.t (ha.same sm)), by omega, _, rfl, a, _, rfl, .inr (SqAt.t (ha.same sm)), rfl, ?_⟩
        rw [GSet.firsts_of_nodup g.nd, List.length_map, decide_eq_true rfl]
        exact q _ sm
theorem ok_check_names (T : Tx K mg) : FnOk P w K mg base CX0 3 T.a_check_names T.fd_check_names P_check_names spChkNames := by
  refine T.F_check_names.ok sc_check_names (fun vs H Q E h => ?_) (fun cdv A outer s H vs Q E hr h => ?_)
  · obtain ⟨c, a, ns, rfl, _⟩ := h
    rfl
  · obtain ⟨c, a, ns, rfl, ha, g, q⟩ := h
    refine ⟨_, (pss_one (ps_if (pt_not (pt_val (pe_call (ok_is_names T) (hr.mono (by decide)) (by rfl) T.g_is_names T.F_is_names.kp T.b_is_names .nil pass0 (pa_cons (pv 0) pa_nil))))
       (pss_one ps_never)
       pss_nil)), ?_⟩
    exact ⟨_, rfl, c, a, ns, rfl, ha, g, fun H1 sm1 => ⟨true, rfl, q _ sm1⟩⟩
theorem ok_check_name (T : Tx K mg) : FnOk P w K mg base CX0 1 T.a_check_name T.fd_check_name P_check_name spChkName := by
  refine T.F_check_name.ok sc_check_name (fun vs H Q E h => ?_) (fun cdv A outer s H vs Q E hr h => ?_)
  · obtain ⟨c, a, ns, x, rfl, _⟩ := h
    rfl
  · obtain ⟨c, a, ns, x, rfl, ha, hx, q⟩ := h
    refine ⟨_, (pss_one (ps_if (pt_cmpR op_notIn_seq (pv 1) (pv 0) (by rfl))
       (pss_one ps_never)
       pss_nil)), ?_⟩
    refine ⟨_, rfl, _, rfl, a, _, rfl, ha.seq, rfl, flat_strs ns, _, rfl, ?_⟩
    show if (!inV (.str x) (ns.map V.str)) = true then _ else _
    rw [inV_strs, decide_eq_true hx]
    exact iteF q
theorem ok_is_slips (T : Tx K mg) : FnOk P w K mg base CX0 2 T.a_is_slips T.fd_is_slips P_is_slips spIsSlips := by
  refine T.F_is_slips.ok sc_is_slips (fun vs H Q E h => ?_) (fun cdv A outer s H vs Q E hr h => ?_)
  · obtain ⟨a, d, ns, sl, rfl, _⟩ := h
    rfl
  · obtain ⟨a, d, ns, sl, rfl, ha, hd, hl, q⟩ := h
    have hu := hu_of hr
    refine ⟨_, (pss_cons (ps_if (PW.pt (pw_or (pt_not (pt_val (pe_callB call_isi (by rfl) T.m_isinstance (by decide +kernel) (pa_cons (pv 1) (pa_cons (pe_bltn (v := .ty "dict") (by rfl) T.m_dict (by decide +kernel) rfl) pa_nil))))) (pw_or1 (pt_cmpR op_ne (pe_callB call_lenD (by rfl) T.m_len (by decide +kernel) (pa_cons (pv 1) pa_nil)) (pe_callB call_len_seq (by rfl) T.m_len (by decide +kernel) (pa_cons (pv 0) pa_nil)) (nomark _)))))
       (pss_one (ps_ret pe_bl))
       pss_nil)
      (pss_one (ps_ret (pe_callB (cr_all rfl) (by rfl) T.m_all (by decide +kernel) (pa_cons (pe_lc (own := [("name", 2)]) (g := gName 2) (tt := tYes) rfl sc_is_slips.nd (pi_list (pv 0)) (blkOk_by (N := N_is_slips) (sc := defScope s_is_slips) (by decide +kernel)) (fun _ _ _ _ _ => pg_name (i := 2) sc_is_slips.nd rfl (Or.inl rfl)) (fun _ _ _ _ _ => pts_nil) (fun _ _ _ _ _ => (pe_and (pe_cmp (pc_din hu (pv 2) (pv 1)) rfl) (pe_one (pe_call (ok_is_number T) (hr.mono (by decide)) (by rfl) T.g_is_number T.F_is_number.kp T.b_is_number .nil pass0 (pa_cons (pe_dget hu (pv 1) (pv 2) (fun _ _ => rfl)) pa_nil)))))) pa_nil))))), ?_⟩
    obtain ⟨kvs, k1, k2, k3, k4⟩ := hd
    refine ⟨_, rfl, _, _, _, _, true, rfl, .ty _, .base (.dK k1), kit_ty (by decide +kernel), true, rfl, ?_⟩
    refine ⟨_, rfl, d, kvs, rfl, k1, _, rfl, a, _, rfl, .inl (SqL.of ha), rfl, _, rfl, ?_⟩
    rw [List.length_map, k2, decide_eq_true rfl]
    refine ⟨_, rfl, a, rfl, ⟨_, SqL.of ha⟩, fun D nD => ?_⟩
    refine lc_list (K := K) (a := a) (xs := ns.map V.str) (fun j H1 => Same H H1 ∧ H1 D = some (.lst ((List.replicate j true).map V.bl))) ⟨same_new nD, upd_same⟩ (fun j H1 _ hP => SqL.of (hP.1 _ _ ha)) (fun j x H1 hx hP => ?_) (fun H1 hP => ?_)
    · obtain ⟨sm, hD⟩ := hP
      obtain ⟨y, hy, rfl⟩ := of_strs_at hx
      have hj := (List.getElem?_eq_some_iff.mp hy).1
      have hv := k4 y (List.mem_of_getElem? hy)
      refine ⟨rfl, _, rfl, _, rfl, d, _, rfl, DGet.k (k := Sum.inr y) (sm _ _ k1), true, by rw [hv]; rfl, ?_⟩
      refine ⟨_, rfl, _, rfl, d, .int (sl y), rfl, by rw [← hv]; exact DGet.k (k := Sum.inr y) (sm _ _ k1), sl y, rfl, ?_⟩
      refine ⟨_, hD, by rw [List.length_map, List.length_replicate]; exact small_lt (by omega), sm.own nD, ?_⟩
      rw [upd_same, List.replicate_succ', List.map_append]
      rfl
    · obtain ⟨sm, hD⟩ := hP
      refine ⟨D, _, rfl, SqL.of hD, ?_⟩
      rw [all_rep]
      exact q _ sm
theorem ok_listed_behind (T : Tx K mg) : FnOk P w K mg base CX0 1 T.a_listed_behind T.fd_listed_behind P_listed_behind spBehind := by
  refine T.F_listed_behind.ok sc_listed_behind (fun vs H Q E h => ?_) (fun cdv A outer s H vs Q E hr h => ?_)
  · obtain ⟨c, a, ns, x, rfl, _⟩ := h
    rfl
  · obtain ⟨c, a, ns, b, rfl, ha, hl, hb, q⟩ := h
    have hib := idx_lt hb
    have hrl : ns.length = (ns.drop (ns.idxOf b + 1)).length + (ns.take (ns.idxOf b + 1)).length := by rw [List.length_drop, List.length_take]; omega
    cases c
    · replace ha : H a = some (.lst (ns.map V.str)) := ha
      refine ⟨_, (pss_cons (ps_set (i := 2) sc_listed_behind.nd rfl (.inl rfl) (pe_op op_add (pe_bm PySem.F.plainAttrs_list PySem.F.slot_list_index PySem.F.type_list_index mt_index (pv 0) (pa_cons (pv 1) pa_nil)) pe_int))
      (pss_one (ps_ret (pe_op op_cat (pe_slice sl_list (pv 0) (po_some (pv 2)) po_none) (pe_slice sl_list (pv 0) po_none (po_some (pv 2))))))), ?_⟩
      refine ⟨_, rfl, .inl ⟨rfl, _, SqL.of ha⟩, _, rfl, a, _, _, ns.idxOf b, .str b, rfl, rfl, SqL.of ha, rfl, flat_strs ns, strs_at (idx_at hb), beq_self_eq_true _, fun m z hm hz => ?_, ?_⟩
      · obtain ⟨y, hy, rfl⟩ := of_strs_at hz
        exact beq_eq_false_iff_ne.mpr fun e => idx_first hm (e ▸ hy)
      refine ⟨_, _, rfl, rfl, _, rfl, _, rfl, _, rfl, a, _, rfl, SqL.of ha, fun p1 n1 => ?_⟩
      rw [cut_drop_s]
      refine ⟨_, rfl, _, rfl, _, rfl, a, _, rfl, SqL.of (same_new n1 _ _ ha), fun p2 n2 => ?_⟩
      rw [show (some (((ns.idxOf b : Nat) : Int) + 1)) = some ((ns.idxOf b + 1 : Nat) : Int) from rfl, cut_take_s]
      have n21 : p2 ≠ p1 := fun e => by rw [e, upd_same] at n2; cases n2
      refine ⟨p1, p2, _, _, rfl, rfl, by rw [upd_ne n21.symm, upd_same], upd_same, by rw [← List.length_append, ← List.map_append]; exact len_s (by have : (rot ns b).length = ns.length := rot_len; unfold rot at this; omega), fun p3 n3 => ?_⟩
      rw [← List.map_append]
      exact q _ p3 (((same_new n1).trans (same_new n2)).trans (same_new n3)) upd_same
    · have ha : TupF H a (ns.map V.str) := ha
      refine ⟨_, (pss_cons (ps_set (i := 2) sc_listed_behind.nd rfl (.inl rfl) (pe_op op_add (pe_bmF PySem.F.slot_tuple_index PySem.F.type_tuple_index mt_tup_index (pv 0) (pa_cons (pv 1) pa_nil)) pe_int))
      (pss_one (ps_ret (pe_op op_catF (pe_slice sl_tupF (pv 0) (po_some (pv 2)) po_none) (pe_slice sl_tupF (pv 0) po_none (po_some (pv 2))))))), ?_⟩
      refine ⟨_, rfl, ⟨a, _, rfl, ha⟩, _, rfl, a, ns, b, ns.idxOf b, rfl, rfl, ha.sq, idx_at hb, fun m hm e => idx_first hm e, ?_⟩
      refine ⟨_, _, rfl, rfl, _, rfl, _, rfl, _, rfl, ?_⟩
      dsimp only [tNoPart]
      refine slF ha fun H1 p1 sm1 hp1 => ?_
      rw [cut_drop_s] at hp1
      refine ⟨_, rfl, _, rfl, _, rfl, ?_⟩
      dsimp only [tNoPart]
      refine slF (ha.same sm1) fun H2 p2 sm2 hp2 => ?_
      rw [show (some (((ns.idxOf b : Nat) : Int) + 1)) = some ((ns.idxOf b + 1 : Nat) : Int) from rfl, cut_take_s] at hp2
      refine catF (hp1.same sm2) hp2 (by rw [← List.length_append, ← List.map_append]; exact len_s (by have : (rot ns b).length = ns.length := rot_len; unfold rot at this; omega)) fun H3 p3 sm3 hp3 => ?_
      rw [← List.map_append] at hp3
      exact q _ p3 ((sm1.trans sm2).trans sm3) hp3
theorem ok_who_sit (T : Tx K mg) : FnOk P w K mg base CX0 2 T.a_who_sit T.fd_who_sit P_who_sit spSit := by
  refine T.F_who_sit.ok sc_who_sit (fun vs H Q E h => ?_) (fun cdv A outer s H vs Q E hr h => ?_)
  · obtain ⟨c, a, g, ns, found, x, rfl, _⟩ := h
    rfl
  · obtain ⟨c, a, g, ns, found, x, rfl, ha, hg, hl, hx, q⟩ := h
    refine ⟨_, (pss_one (ps_ret (pe_lc (own := [("name", 2)]) (g := gName 2)  rfl sc_who_sit.nd (pi_either (pi_list (pe_call (ok_listed_behind T) (hr.mono (by decide)) (by rfl) T.g_listed_behind T.F_listed_behind.kp T.b_listed_behind .nil pass0 (pa_cons (pv 0) (pa_cons (pe_ix ix_seq (pv 1) (pe_un un_neg pe_int) (fun _ _ => rfl)) pa_nil)))) (pi_tup (pe_call (ok_listed_behind T) (hr.mono (by decide)) (by rfl) T.g_listed_behind T.F_listed_behind.kp T.b_listed_behind .nil pass0 (pa_cons (pv 0) (pa_cons (pe_ix ix_seq (pv 1) (pe_un un_neg pe_int) (fun _ _ => rfl)) pa_nil))))) (blkOk_by (N := N_who_sit) (sc := defScope s_who_sit) (by decide +kernel)) (fun _ _ _ _ _ => pg_name (i := 2) sc_who_sit.nd rfl (Or.inl rfl)) (fun _ _ _ _ _ => pts_one (pt_cmpR (show OpR _ (compareOp .NotIn) (rIn K true) from op_notIn_seq) (pv 2) (pv 1) (by rfl))) (fun _ _ _ _ _ => (pv 2))))), ?_⟩
    cases c
    · refine .inl ⟨_, rfl, _, rfl, 1, rfl, ixSeq hg (last_s found x) ⟨false, a, ns, x, rfl, ha, hl, hx, fun H1 p sm1 hp => ?_⟩⟩
      refine ⟨p, rfl, ⟨_, SqAt.l hp⟩, fun D nD => ?_⟩
      refine lc_list (K := K) (a := p) (xs := (rot ns x).map V.str) (fun j H2 => Same H1 H2 ∧ H2 D = some (.lst ((((rot ns x).take j).filter fun y => !decide (y ∈ found ++ [x])).map V.str))) ⟨same_new nD, upd_same⟩ (fun j H2 _ hP => SqAt.l (hp.same hP.1)) (fun j v H2 hv hP => ?_) (fun H2 hP => ?_)
      · obtain ⟨sm2, hD⟩ := hP
        obtain ⟨y, hy, rfl⟩ := of_strs_at hv
        have hj := (List.getElem?_eq_some_iff.mp hy).1
        rw [rot_len] at hj
        refine ⟨rfl, _, rfl, _, rfl, g, _, rfl, ((hg.same sm1).same sm2).seq, rfl, flat_strs _, _, rfl, ?_⟩
        show if (!inV (.str y) ((found ++ [x]).map V.str)) = true then _ else _
        rw [inV_strs]
        by_cases hxy : y ∈ found ++ [x]
        · rw [decide_eq_true hxy]
          refine iteF ⟨sm2, ?_⟩
          rw [hD, take_snoc hy, List.filter_append, List.filter_cons, decide_eq_true hxy]
          simp
        · rw [decide_eq_false hxy]
          refine ⟨_, rfl, _, hD, ?_, sm2.own nD, ?_⟩
          · rw [List.length_map]
            refine small_lt (Nat.lt_of_le_of_lt (List.length_filter_le _ _) ?_)
            rw [List.length_take]
            omega
          · rw [upd_same, take_snoc hy, List.filter_append, List.filter_cons, decide_eq_false hxy]
            simp
      · obtain ⟨sm2, hD⟩ := hP
        rw [List.length_map, List.take_length] at hD
        exact q _ D (sm1.trans sm2) (sm1.free nD) hD
    · refine .inr ⟨_, rfl, _, rfl, 1, rfl, ixSeq hg (last_s found x) ⟨true, a, ns, x, rfl, ha, hl, hx, fun H1 p sm1 hp => ?_⟩⟩
      refine ⟨p, rfl, ⟨_, SqAt.t hp⟩, fun D nD => ?_⟩
      refine lc_tup (K := K) (a := p) (xs := (rot ns x).map V.str) (fun j H2 => Same H1 H2 ∧ H2 D = some (.lst ((((rot ns x).take j).filter fun y => !decide (y ∈ found ++ [x])).map V.str))) ⟨same_new nD, upd_same⟩ (fun j H2 _ hP => SqAt.t (hp.same hP.1)) (fun j v H2 hv hP => ?_) (fun H2 hP => ?_)
      · obtain ⟨sm2, hD⟩ := hP
        obtain ⟨y, hy, rfl⟩ := of_strs_at hv
        have hj := (List.getElem?_eq_some_iff.mp hy).1
        rw [rot_len] at hj
        refine ⟨rfl, _, rfl, _, rfl, g, _, rfl, ((hg.same sm1).same sm2).seq, rfl, flat_strs _, _, rfl, ?_⟩
        show if (!inV (.str y) ((found ++ [x]).map V.str)) = true then _ else _
        rw [inV_strs]
        by_cases hxy : y ∈ found ++ [x]
        · rw [decide_eq_true hxy]
          refine iteF ⟨sm2, ?_⟩
          rw [hD, take_snoc hy, List.filter_append, List.filter_cons, decide_eq_true hxy]
          simp
        · rw [decide_eq_false hxy]
          refine ⟨_, rfl, _, hD, ?_, sm2.own nD, ?_⟩
          · rw [List.length_map]
            refine small_lt (Nat.lt_of_le_of_lt (List.length_filter_le _ _) ?_)
            rw [List.length_take]
            omega
          · rw [upd_same, take_snoc hy, List.filter_append, List.filter_cons, decide_eq_false hxy]
            simp
      · obtain ⟨sm2, hD⟩ := hP
        rw [List.length_map, List.take_length] at hD
        exact q _ D (sm1.trans sm2) (sm1.free nD) hD
end
end K09
namespace K09
open PySem PySem.Spec PyProof.Rows L2 GL
section
variable {P : Program} {w : World} {K : PySem.W.Frag} {mg : Str → Option Value} {base : Heap}
theorem dc_list {K : PySem.W.Frag} {a : Addr} {xs : List V} {g : TG} {tt : TT} {tk tv : TE} {vs : List Nat} {σ : L2.St} {H1 : Hp} {D : Addr} {Qd : Hp → Prop} (Pv : Nat → Hp → Prop) (h0 : Pv 0 (upd H1 D (.dK []))) (hl : ∀ i H, i ≤ xs.length → Pv i H → SqL K H a xs)
    (hs : ∀ i x H, xs[i]? = some x → Pv i H → g x (wipe σ vs) H fun σ2 H2 => wipe σ2 vs = wipe σ vs ∧ tt σ2 H2 fun b H3 =>
      if b = true then tk σ2 H3 fun y H4 => tv σ2 H4 fun z H5 => ∃ kvs k, y = kV k ∧ H5 D = some (.dK kvs) ∧ kvs.length < sizeLine ∧ Pv (i + 1) (upd H5 D (.dK (putK kvs k z))) else Pv (i + 1) H3) (hd : ∀ H, Pv xs.length H → Qd H) :
    ∃ W : Nat → Nat → Hp → Prop, (∃ m, W 0 m (upd H1 D (.dK []))) ∧ ∀ i m H, W i m H →
      ((Itl K a).stop i H ∧ Qd H) ∨ ((Itl K a).go i H ∧ ∃ Nx : Hp → Prop, (∀ H', Nx H' → ∃ m', m' < m ∧ W (i + 1) m' H') ∧ ∀ x H', (Itl K a).yld i H x H' → g x (wipe σ vs) H' fun σ2 H2 => wipe σ2 vs = wipe σ vs ∧ tt σ2 H2 fun b H3 =>
        if b = true then tk σ2 H3 fun y H4 => tv σ2 H4 fun z H5 => ∃ kvs k, y = kV k ∧ H5 D = some (.dK kvs) ∧ kvs.length < sizeLine ∧ Nx (upd H5 D (.dK (putK kvs k z))) else Nx H3) := by
  refine ⟨fun i m H => m = xs.length - i ∧ i ≤ xs.length ∧ Pv i H, ⟨_, rfl, Nat.zero_le _, h0⟩, fun i m H hW => ?_⟩
  obtain ⟨rfl, hi, p⟩ := hW
  have q := hl i H hi p
  rcases Nat.lt_or_ge i xs.length with lt | ge
  · exact .inr ⟨⟨xs, xs[i], q, List.getElem?_eq_getElem lt⟩, Pv (i + 1), fun H' p' => ⟨_, by omega, rfl, lt, p'⟩, fun x H' y => by obtain ⟨rfl, y⟩ := y; exact hs i x _ (y xs q) p⟩
  · obtain rfl : i = xs.length := by omega
    exact .inl ⟨⟨xs, q, Nat.le_refl _⟩, hd H p⟩
theorem ok_Ring_init (T : Tx K mg) : FnOk P w K mg base CX0 4 T.a_Ring_init T.fd_Ring_init P_Ring_init (spInit T.a_Ring) := by
  refine T.F_Ring_init.ok sc_Ring_init (fun vs H Q E h => ?_) (fun cdv A outer s H vs Q E hr h => ?_)
  · obtain ⟨p, dx, a, d, ns, sl, rfl, _⟩ := h
    rfl
  · obtain ⟨p, dx, a, d, ns, sl, rfl, hp, ha, hd, g, q⟩ := h
    have hu := hu_of hr
    refine ⟨_, (pss_cons (ps_expr (pe_call (ok_check_names T) (hr.mono (by decide)) (by rfl) T.g_check_names T.F_check_names.kp T.b_check_names .nil pass0 (pa_cons (pv 1) pa_nil)))
      (pss_cons (ps_if (pt_not (pt_val (pe_call (ok_is_slips T) (hr.mono (by decide)) (by rfl) T.g_is_slips T.F_is_slips.kp T.b_is_slips .nil pass0 (pa_cons (pv 1) (pa_cons (pv 2) pa_nil)))))
       (pss_one ps_never)
       pss_nil)
      (pss_cons (ps_fld (pv 0) (pe_callTy call_list_of (by rfl) T.m_list (by decide +kernel) (pa_cons (pv 1) pa_nil)) rfl)
      (pss_one (ps_fld (pv 0) (pe_dc (own := [("name", 3)]) (g := gName 3) (tt := tYes) rfl sc_Ring_init.nd (pi_list (pv 1)) (blkOk_by (N := N_Ring_init) (sc := defScope s_Ring_init) (by decide +kernel)) (fun _ _ _ _ _ => pg_name (i := 3) sc_Ring_init.nd rfl (Or.inl rfl)) (fun _ _ _ _ _ => pts_nil) (fun _ _ _ _ _ => (pv 3)) (fun _ _ _ _ _ => (pe_dget hu (pv 2) (pv 3) (fun _ _ => rfl)))) rfl))))), ?_⟩
    have l12 := g.twelve
    refine ⟨_, rfl, false, a, ns, rfl, ha, g, fun H1 sm1 => ?_⟩
    refine ⟨_, rfl, _, rfl, a, d, ns, sl, rfl, sm1 _ _ ha, hd.same sm1, by omega, fun H2 sm2 => ⟨true, rfl, ?_⟩⟩
    have sm12 := sm1.trans sm2
    refine ⟨_, rfl, a, _, rfl, .inl (SqL.of (sm12 _ _ ha)), fun nl nnl => ?_⟩
    have hp3 := same_new (o := .lst (ns.map V.str)) nnl _ _ (sm12 _ _ hp)
    have nlp : nl ≠ p := fun e => by rw [e, sm12 _ _ hp] at nnl; cases nnl
    refine ⟨_, rfl, p, T.a_Ring, dx, _, rfl, hp3, T.cl_Ring, T.n_Ring__names, (by show 0 < 1000; decide), ?_⟩
    generalize hH4 : upd (upd H2 nl (.lst (ns.map V.str))) p (.ins T.a_Ring dx (putF "_names" (.ref nl) [])) = H4
    have keep4 : ∀ b o, H b = some o → b ≠ p → H4 b = some o := fun b o e hb => by
      rw [← hH4, upd_ne hb, upd_ne (ne_of_none (sm12 _ _ e) nnl)]
      exact sm12 _ _ e
    have hp4 : H4 p = some (.ins T.a_Ring dx (putF "_names" (.ref nl) [])) := by rw [← hH4, upd_same]
    have hn4 : H4 nl = some (.lst (ns.map V.str)) := by rw [← hH4, upd_ne nlp, upd_same]
    have ap : a ≠ p := ne_of ha hp (fun z => nomatch z)
    obtain ⟨kvs, k1, k2, k3, k4⟩ := hd
    have dp : d ≠ p := ne_of k1 hp (fun z => nomatch z)
    have ha4 := keep4 _ _ ha ap
    have hd4 := keep4 _ _ k1 dp
    refine ⟨_, rfl, a, rfl, ⟨_, SqL.of ha4⟩, fun D nD => ?_⟩
    refine dc_list (K := K) (a := a) (xs := ns.map V.str) (fun j H5 => Same H4 H5 ∧ H5 D = some (.dK ((ns.take j).map fun n => ((Sum.inr n : Key), V.int (sl n))))) ⟨same_new nD, upd_same⟩ (fun j H5 _ hP => SqL.of (hP.1 _ _ ha4)) (fun j x H5 hx hP => ?_) (fun H5 hP => ?_)
    · obtain ⟨sm5, hD⟩ := hP
      obtain ⟨y, hy, rfl⟩ := of_strs_at hx
      have hj := (List.getElem?_eq_some_iff.mp hy).1
      have hv := k4 y (List.mem_of_getElem? hy)
      refine ⟨rfl, _, rfl, _, rfl, _, rfl, d, .int (sl y), rfl, by rw [← hv]; exact DGet.k (k := Sum.inr y) (sm5 _ _ hd4), _, Sum.inr y, rfl, hD, by rw [List.length_map, List.length_take]; exact small_lt (by omega), sm5.own nD, ?_⟩
      have hnew : (Sum.inr y : Key) ∉ ((ns.take j).map fun n => ((Sum.inr n : Key), V.int (sl n))).map (·.1) := fun hm => by
        rw [List.map_map] at hm
        obtain ⟨z, hz, e⟩ := List.mem_map.mp hm
        obtain rfl : z = y := Sum.inr.inj e
        obtain ⟨i, hi, ei⟩ := List.mem_iff_getElem.mp hz
        rw [List.length_take] at hi
        rw [List.getElem_take] at ei
        obtain ⟨_, e2⟩ := List.getElem?_eq_some_iff.mp hy
        have := (List.getElem_inj g.nd).mp (ei.trans e2.symm)
        omega
      rw [upd_same, putK_new _ (valV_none hnew), take_snoc hy, List.map_append]
      rfl
    · obtain ⟨sm5, hD⟩ := hP
      rw [List.length_map, List.take_length] at hD
      refine ⟨_, rfl, p, T.a_Ring, dx, _, rfl, sm5 _ _ hp4, T.cl_Ring, T.n_Ring__slips, (by show 1 < 1000; decide), ?_⟩
      have Dp : D ≠ p := fun e => by rw [e, hp4] at nD; cases nD
      have hkeys : (ns.map fun n => ((Sum.inr n : Key), V.int (sl n))).map (·.1) = ns.map Sum.inr := by rw [List.map_map]; rfl
      refine q _ (fun b o e hb => by rw [upd_ne hb]; exact sm5 _ _ (keep4 _ _ e hb)) ⟨⟨dx, nl, D, upd_same, by rw [upd_ne nlp]; exact sm5 _ _ hn4, ⟨_, by rw [upd_ne Dp]; exact hD, by rw [List.length_map], by rw [hkeys]; exact nodup_map (fun a b e => Sum.inr.inj e) g.nd, fun n hn => ?_⟩⟩, g⟩
      have hin : (Sum.inr n : Key) ∈ (ns.map fun n => ((Sum.inr n : Key), V.int (sl n))).map (·.1) := by rw [hkeys]; exact List.mem_map.mpr ⟨n, hn, rfl⟩
      obtain ⟨v, h1, h2⟩ := valV_mem hin
      rw [h1]
      obtain ⟨m, _, e⟩ := List.mem_map.mp h2
      have e1 : m = n := Sum.inr.inj (congrArg Prod.fst e)
      have e2 : V.int (sl m) = v := congrArg Prod.snd e
      rw [← e2, e1]
theorem ok_Ring_counted_on (T : Tx K mg) : FnOk P w K mg base CX0 1 T.a_Ring_counted_on T.fd_Ring_counted_on P_Ring_counted_on (spCounted T.a_Ring) := by
  refine T.F_Ring_counted_on.ok sc_Ring_counted_on (fun vs H Q E h => ?_) (fun cdv A outer s H vs Q E hr h => ?_)
  · obtain ⟨p, r, ns, row, sl, g, rfl, _⟩ := h
    rfl
  · obtain ⟨p, r, ns, row, sl, g, rfl, R, hg, hrow, hne, hl, q⟩ := h
    have hu := hu_of hr
    obtain ⟨⟨dx, nl, sd, h1, h2, kvs, k1, k2, k3, k4⟩, gd⟩ := R
    refine ⟨_, (pss_one (ps_ret (pe_ix ix_list (pv 2) (pe_op op_mod (pe_dget hu (pe_fld (pv 0) rfl) (pv 1) (fun _ _ => rfl)) (pe_callB call_len_seq (by rfl) T.m_len (by decide +kernel) (pa_cons (pv 2) pa_nil))) (fun _ _ => rfl)))), ?_⟩
    obtain ⟨j, ej, hj, hjn, hget⟩ := spot (sl g) hne
    have hpos := List.length_pos_iff.mpr hne
    refine ⟨_, rfl, _, rfl, p, T.a_Ring, dx, _, _, rfl, h1, T.cl_Ring, T.n_Ring__slips, rflds_slips nl sd, _, rfl, sd, .int (sl g), rfl, by rw [← k4 g hg]; exact DGet.k (k := Sum.inr g) k1, _, rfl, r, _, rfl, .inl (SqL.of hrow), _, _, rfl, rfl, by rw [List.length_map]; omega, ?_⟩
    rw [hjn] at q
    exact ⟨r, _, _, _, rfl, rfl, SqL.of hrow, atI_at (by rw [List.length_map]; exact ej) (strs_at hget), q⟩
def WRing (H : Hp) (p : Addr) (b : Str) (ns : List Str) (sl : Str → Int) (f : Addr) (m : Nat) (σ : L2.St) (H1 : Hp) : Prop := ∃ (found : List Str) (g : Str), m = ns.length - found.length ∧ σ = [some (.ref p), some (.str b), some (.ref f)] ∧ Same H H1 ∧
  H1 f = some (.lst ((found ++ [g]).map V.str)) ∧ g ∈ ns ∧ found.length + 1 + (sitting ns (found ++ [g]) g).length = ns.length ∧ found ++ [g] ++ nexts sl (sitting ns (found ++ [g]) g).length g (sitting ns (found ++ [g]) g) = orderOf ns sl b
theorem ok_Ring_order (T : Tx K mg) : FnOk P w K mg base CX0 3 T.a_Ring_order T.fd_Ring_order P_Ring_order (spROrder T.a_Ring) := by
  refine T.F_Ring_order.ok sc_Ring_order (fun vs H Q E h => ?_) (fun cdv A outer s H vs Q E hr h => ?_)
  · obtain ⟨p, ns, sl, b, rfl, _⟩ := h
    rfl
  · obtain ⟨p, ns, sl, b, rfl, R, hb, q⟩ := h
    refine ⟨_, (pss_cons (ps_expr (pe_call (ok_check_name T) (hr.mono (by decide)) (by rfl) T.g_check_name T.F_check_name.kp T.b_check_name .nil pass0 (pa_cons (pe_fld (pv 0) rfl) (pa_cons (pv 1) pa_nil))))
      (pss_cons (ps_set (i := 2) sc_Ring_order.nd rfl (.inl rfl) (pe_lst (pa_cons (pv 1) pa_nil)))
      (pss_cons (ps_while PassesOwn.never (pt_cmpR op_lt (pe_callB call_len_seq (by rfl) T.m_len (by decide +kernel) (pa_cons (pv 2) pa_nil)) (pe_callB call_len_seq (by rfl) T.m_len (by decide +kernel) (pa_cons (pe_fld (pv 0) rfl) pa_nil)) (nomark _))
       (pss_one (ps_expr (pe_bm PySem.F.plainAttrs_list PySem.F.slot_list_append PySem.F.type_list_append mt_append (pv 2) (pa_cons (pe_meth (pv 0) T.cl_Ring T.mt_Ring_counted_on (ok_Ring_counted_on T) (hr.mono (by decide)) T.b_Ring_counted_on .nil pass0 (pa_cons (pe_ix ix_list (pv 2) (pe_un un_neg pe_int) (fun _ _ => rfl)) (pa_cons (pe_call (ok_who_sit T) (hr.mono (by decide)) (by rfl) T.g_who_sit T.F_who_sit.kp T.b_who_sit .nil pass0 (pa_cons (pe_fld (pv 0) rfl) (pa_cons (pv 2) pa_nil))) pa_nil))) pa_nil)))))
      (pss_one (ps_ret (pe_callTy call_tuple_of (by rfl) T.m_tuple (by decide +kernel) (pa_cons (pv 2) pa_nil))))))), ?_⟩
    have R0 := R
    obtain ⟨⟨dx, nl, sd, h1, h2, h3⟩, g⟩ := R
    have l12 := g.twelve
    have l2 := g.two
    have noM : ∀ {m : Str}, ¬ m = "_names" → ¬ m = "_slips" → (rflds nl sd).lookup m = none := fun a b => rflds_no nl sd a b
    refine ⟨_, rfl, p, T.a_Ring, dx, _, _, rfl, h1, T.cl_Ring, T.n_Ring__names, rflds_names nl sd, _, rfl, false, nl, ns, b, rfl, h2, hb, ?_⟩
    refine ⟨_, rfl, (by show 1 ≤ sizeLine; decide), fun f nf => ?_⟩
    refine ⟨WRing H p b ns sl f, ⟨ns.length - 0, [], b, rfl, rfl, same_new nf, upd_same, hb, ?_, ?_⟩, fun m σ H1 hW => ?_⟩
    · rw [List.nil_append, sitting_first g.nd hb, behind_len hb]
      show 0 + 1 + (ns.length - 1) = ns.length
      omega
    · rw [List.nil_append, sitting_first g.nd hb, behind_len hb]
      rfl
    obtain ⟨found, x, rfl, rfl, sm, hf, hx, hlen, heq⟩ := hW
    have h1' := sm _ _ h1
    have h2' := sm _ _ h2
    refine ⟨_, rfl, f, _, rfl, .inl (SqL.of hf), _, rfl, p, T.a_Ring, dx, _, _, rfl, h1', T.cl_Ring, T.n_Ring__names, rflds_names nl sd, nl, _, rfl, .inl (SqL.of h2'), _, _, rfl, rfl, _, rfl, ?_⟩
    have e1 : ((found ++ [x]).map V.str).length = found.length + 1 := by rw [List.length_map, List.length_append]; rfl
    rw [e1, List.length_map]
    by_cases hlt : found.length + 1 < ns.length
    · rw [decide_eq_true (show ((found.length + 1 : Nat) : Int) < (ns.length : Int) by omega)]
      refine iteT ⟨fun σ' H' => ∃ m', m' < ns.length - found.length ∧ WRing H p b ns sl f m' σ' H', fun _ _ h => h, ?_⟩
      have hne : sitting ns (found ++ [x]) x ≠ [] := fun e => by rw [e] at hlen; simp at hlen; omega
      refine ⟨_, rfl, .inl ⟨rfl, _, SqL.of hf⟩, _, rfl, p, dx, _, rfl, h1', noM (by decide +kernel) (by decide +kernel), _, rfl, 1, rfl, f, _, -1, .str x, rfl, rfl, SqL.of hf, last_s found x, ?_⟩
      refine ⟨_, rfl, p, T.a_Ring, dx, _, _, rfl, h1', T.cl_Ring, T.n_Ring__names, rflds_names nl sd, _, rfl, false, nl, f, ns, found, x, rfl, h2', .inl hf, by omega, hx, fun H2 r sm2 nr hr2 => ?_⟩
      have hsl : (sitting ns (found ++ [x]) x).length ≤ 100 := by omega
      refine ⟨p, r, ns, _, sl, x, rfl, R0.same (sm.trans sm2), hx, hr2, hne, hsl, ?_⟩
      obtain ⟨j, ej, hj, hjn, hget⟩ := spot (sl x) hne
      rw [hjn]
      obtain ⟨hnx, hmem⟩ := sitting_next (goers := found ++ [x]) g.nd hx hj
      refine ⟨f, _, _, rfl, rfl, sm2 _ _ hf, by rw [e1]; exact small_lt (by omega), ?_⟩
      have hcl := cut_len hj
      refine ⟨ns.length - (found.length + 1), by omega, found ++ [x], _, ?_, rfl, (sm.trans sm2).own nf, ?_, hmem, ?_, ?_⟩
      · rw [List.length_append]
        rfl
      · rw [upd_same, List.map_append (l₁ := found ++ [x])]
        rfl
      · rw [hnx, hcl, List.length_append]
        simp only [List.length_singleton]
        omega
      · rw [hnx, ← heq, hcl]
        have e1 : (sitting ns (found ++ [x]) x).length = ((sitting ns (found ++ [x]) x).length - 1) + 1 := by omega
        rw [show nexts sl (sitting ns (found ++ [x]) x).length x (sitting ns (found ++ [x]) x) = nexts sl (((sitting ns (found ++ [x]) x).length - 1) + 1) x (sitting ns (found ++ [x]) x) by rw [← e1], nexts_step hjn, List.append_assoc (found ++ [x])]
        rfl
    · rw [decide_eq_false (show ¬ ((found.length + 1 : Nat) : Int) < (ns.length : Int) by omega)]
      have h0 : sitting ns (found ++ [x]) x = [] := List.eq_nil_of_length_eq_zero (by omega)
      rw [h0] at heq
      rw [show nexts sl ([] : List Str).length x [] = [] from rfl, List.append_nil] at heq
      refine iteF ⟨_, rfl, f, _, rfl, .inl ⟨SqL.of hf, fun t nt => ?_⟩⟩
      refine q _ t (sm.trans (same_new nt)) (sm.free nt) ?_
      rw [upd_same, heq]
end
end K09
namespace K09
open PySem PySem.Spec PyProof.Rows L2 GL
section
variable {P : Program} {w : World} {K : PySem.W.Frag} {mg : Str → Option Value} {base : Heap}
theorem ok_Ring_next_of (T : Tx K mg) : FnOk P w K mg base CX0 4 T.a_Ring_next_of T.fd_Ring_next_of P_Ring_next_of (spNext T.a_Ring) := by
  refine T.F_Ring_next_of.ok sc_Ring_next_of (fun vs H Q E h => ?_) (fun cdv A outer s H vs Q E hr h => ?_)
  · obtain ⟨p, ns, sl, b, rfl, _⟩ := h
    rfl
  · obtain ⟨p, ns, sl, b, rfl, R, hb, q⟩ := h
    refine ⟨_, (pss_cons (ps_set (i := 2) sc_Ring_next_of.nd rfl (.inl rfl) (pe_ix ix_tup (pe_meth (pv 0) T.cl_Ring T.mt_Ring_order (ok_Ring_order T) (hr.mono (by decide)) T.b_Ring_order .nil pass0 (pa_cons (pv 1) pa_nil)) (pe_un un_neg pe_int) (fun _ _ => rfl)))
      (pss_one (ps_ret (pe_meth (pv 0) T.cl_Ring T.mt_Ring_counted_on (ok_Ring_counted_on T) (hr.mono (by decide)) T.b_Ring_counted_on .nil pass0 (pa_cons (pv 2) (pa_cons (pe_call (ok_listed_behind T) (hr.mono (by decide)) (by rfl) T.g_listed_behind T.F_listed_behind.kp T.b_listed_behind .nil pass0 (pa_cons (pe_fld (pv 0) rfl) (pa_cons (pv 2) pa_nil))) pa_nil)))))), ?_⟩
    obtain ⟨dx, fs, hx, hf⟩ := R.noM (m := "order") (by decide +kernel) (by decide +kernel)
    refine ⟨_, rfl, p, dx, fs, rfl, hx, hf, _, rfl, p, ns, sl, b, rfl, R, hb, fun H1 t sm1 nt ht => ?_⟩
    refine ⟨1, rfl, t, _, -1, _, rfl, rfl, SqT.of ht, order_last ns sl b, ?_⟩
    have R1 := R.same sm1
    have hlm := last_mem (sl := sl) hb
    have R2 := R1
    obtain ⟨⟨dy, nl, sd, h1, h2, h3⟩, g⟩ := R2
    have l12 := g.twelve
    have l2 := g.two
    refine ⟨_, rfl, p, dy, _, rfl, h1, rflds_no nl sd (by decide +kernel) (by decide +kernel), _, rfl, ?_⟩
    refine ⟨_, rfl, p, T.a_Ring, dy, _, _, rfl, h1, T.cl_Ring, T.n_Ring__names, rflds_names nl sd, _, rfl, false, nl, ns, _, rfl, h2, by omega, hlm, fun H2 r sm2 hr2 => ?_⟩
    have hrl : (rot ns (lastOf ns sl b)).length = ns.length := rot_len
    refine ⟨p, r, ns, _, sl, _, rfl, R1.same sm2, hlm, hr2, fun e => by rw [e] at hrl; simp at hrl; omega, by omega, ?_⟩
    rw [hrl]
    exact q _ (sm1.trans sm2)
theorem ok_Ring_names (T : Tx K mg) : FnOk P w K mg base CX0 1 T.a_Ring_names T.fd_Ring_names P_Ring_names (spNamesOf T.a_Ring) := by
  refine T.F_Ring_names.ok sc_Ring_names (fun vs H Q E h => ?_) (fun cdv A outer s H vs Q E hr h => ?_)
  · obtain ⟨p, ns, sl, rfl, _⟩ := h
    rfl
  · obtain ⟨p, ns, sl, rfl, R, q⟩ := h
    refine ⟨_, (pss_one (ps_ret (pe_callTy call_list_of (by rfl) T.m_list (by decide +kernel) (pa_cons (pe_fld (pv 0) rfl) pa_nil)))), ?_⟩
    obtain ⟨⟨dx, nl, sd, h1, h2, h3⟩, g⟩ := R
    refine ⟨_, rfl, p, T.a_Ring, dx, _, _, rfl, h1, T.cl_Ring, T.n_Ring__names, rflds_names nl sd, nl, _, rfl, .inl (SqL.of h2), fun l nl2 => ?_⟩
    exact q _ l (same_new nl2) nl2 upd_same
end
end K09
namespace K09
open PySem PySem.Spec PyProof.Rows L2 GL
section
variable {P : Program} {w : World} {K : PySem.W.Frag} {mg : Str → Option Value} {base : Heap}
theorem ones_map (ns : List Str) : (ns.map fun n => ((Sum.inr n : Key), V.int 1)).map (·.1) = ns.map Sum.inr := by
  rw [List.map_map]
  rfl
theorem ones_val {ns : List Str} (hn : ns.Nodup) {n : Str} (h : n ∈ ns) : valV (ns.map fun n => ((Sum.inr n : Key), V.int 1)) (Sum.inr n : Key) = some (.int 1) := by
  have : (Sum.inr n : Key) ∈ (ns.map fun n => ((Sum.inr n : Key), V.int 1)).map (·.1) := by
    rw [ones_map]
    exact List.mem_map.mpr ⟨n, h, rfl⟩
  obtain ⟨v, h1, h2⟩ := valV_mem this
  obtain ⟨m, _, e⟩ := List.mem_map.mp h2
  rw [h1]
  exact congrArg some (congrArg Prod.snd e).symm
def WAdv (a d : Addr) (ns fd : List Str) (g : Str) (p : Nat) (x : Str) (H0 : Hp) (m : Nat) (σ : L2.St) (H1 : Hp) : Prop := ∃ k lf : Nat, k ≤ ns.length ∧ m = ns.length - k ∧
  σ = [some (.ref a), some (.ref d), some (.int (((ns.idxOf g + k) % ns.length : Nat))), some (.int (p : Nat)), some (.int (lf : Nat))] ∧ H1 = H0 ∧ lf + cnt ns fd g k = p + 1 ∧ (lf = 0 → 0 < k ∧ (rot ns g)[k - 1]? = some x)
theorem ok_l_advanced (T : Tx K mg) : FnOk P w K mg base CX0 1 T.a_l_advanced T.fd_l_advanced P_l_advanced spAdvanced := by
  refine T.F_l_advanced.ok sc_l_advanced (fun vs H Q E h => ?_) (fun cdv A outer s H vs Q E hr h => ?_)
  · obtain ⟨a, d, ns, fd, g, p, rfl, _⟩ := h
    rfl
  · obtain ⟨a, d, ns, fd, g, p, rfl, ha, gd, hgn, hS6, hlt, q⟩ := h
    have hu := hu_of hr
    refine ⟨_, (pss_cons (ps_set (i := 4) sc_l_advanced.nd rfl (.inl rfl) (pe_op op_add (pv 3) pe_int))
      (pss_cons (ps_while PassesOwn.never (pt_cmpR op_gt (pv 4) pe_int (nomark _))
       (pss_cons (ps_set (i := 2) sc_l_advanced.nd rfl (.inl rfl) (pe_op op_mod (pe_op op_add (pv 2) pe_int) (pe_callB call_len_seq (by rfl) T.m_len (by decide +kernel) (pa_cons (pv 0) pa_nil))))
        (pss_one (ps_set (i := 4) sc_l_advanced.nd rfl (.inl rfl) (pe_op op_sub (pv 4) (pe_dget hu (pv 1) (pe_ix ix_list (pv 0) (pv 2) (fun _ _ => rfl)) (fun _ _ => rfl)))))))
      (pss_one (ps_ret (pv 2))))), ?_⟩
    have l12 := gd.twelve
    have l2 := gd.two
    generalize hy : (sitting ns fd g).getD p Str.empty = x at q
    refine ⟨_, rfl, _, _, rfl, rfl, ?_⟩
    refine ⟨WAdv a d ns fd g p x H, ⟨ns.length - 0, 0, p + 1, Nat.zero_le _, rfl, ?_, rfl, rfl, fun h => absurd h (Nat.succ_ne_zero _)⟩, fun m σ H7 hW => ?_⟩
    · rw [Nat.add_zero, Nat.mod_eq_of_lt (idx_lt hgn)]
      rfl
    obtain ⟨k, lf, hk, rfl, rfl, rfl, hcl, hhit⟩ := hW
    refine ⟨_, rfl, _, _, rfl, rfl, _, rfl, ?_⟩
    by_cases h0 : lf = 0
    · obtain ⟨hk0, hkx⟩ := hhit h0
      rw [decide_eq_false (show ¬ ((lf : Nat) : Int) > 0 by omega)]
      have hat : ns[(ns.idxOf g + k) % ns.length]? = some x := by
        have := rotP_at hgn (k := k - 1) (by omega)
        rw [hkx, show ns.idxOf g + 1 + (k - 1) = ns.idxOf g + k by omega] at this
        exact this.symm
      rw [idx_of_at gd.nd hat] at q
      exact iteF ⟨_, rfl, q⟩
    · rw [decide_eq_true (show ((lf : Nat) : Int) > 0 by omega)]
      have hkn2 : k < ns.length := cnt_more (p := p) (by omega) hlt
      refine iteT ⟨fun σ' H' => ∃ m', m' < ns.length - k ∧ WAdv a d ns fd g p x H7 m' σ' H', fun _ _ h => h, ?_⟩
      obtain ⟨y, hy2⟩ : ∃ y, (rot ns g)[k]? = some y := ⟨_, List.getElem?_eq_getElem (by rw [rot_len]; exact hkn2)⟩
      have hat : ns[(ns.idxOf g + (k + 1)) % ns.length]? = some y := by
        have := rotP_at hgn hkn2
        rw [hy2, show ns.idxOf g + 1 + k = ns.idxOf g + (k + 1) by omega] at this
        exact this.symm
      have hyn : y ∈ ns := List.mem_of_getElem? hat
      refine ⟨_, rfl, _, _, rfl, rfl, _, rfl, a, _, rfl, .inl (SqL.of ha), _, _, rfl, rfl, by rw [List.length_map]; omega, ?_⟩
      dsimp only
      rw [List.length_map, seat_next]
      obtain ⟨kv6, q1, q2, q3, q4⟩ := hS6
      refine ⟨_, rfl, _, rfl, _, rfl, _, rfl, a, _, _, .str y, rfl, rfl, SqL.of ha, atI_at rfl (strs_at hat), d, .int (sd01 fd y), rfl, by rw [← q4 y hyn]; exact DGet.k (k := Sum.inr y) q1, _, _, rfl, rfl, ?_⟩
      have hstep := cnt_step (fd := fd) hy2
      by_cases hyf : y ∈ fd
      · rw [if_pos hyf] at hstep
        refine ⟨ns.length - (k + 1), by omega, k + 1, lf, by omega, rfl, ?_, rfl, by omega, fun h => absurd h h0⟩
        rw [show sd01 fd y = 0 from if_pos hyf]
        rfl
      · rw [if_neg hyf] at hstep
        refine ⟨ns.length - (k + 1), by omega, k + 1, lf - 1, by omega, rfl, ?_, rfl, by omega, fun h => ⟨Nat.succ_pos _, ?_⟩⟩
        · rw [show sd01 fd y = 1 from if_neg hyf, show ((lf - 1 : Nat) : Int) = (lf : Int) - 1 by omega]
          rfl
        · rw [Nat.add_sub_cancel, hy2, ← cnt_hit hy2 hyf (p := p) (by omega), hy]
def WPl (a d sd f : Addr) (b : Str) (ns : List Str) (sl : Str → Int) (H : Hp) (m : Nat) (σ : L2.St) (H1 : Hp) : Prop := ∃ (fnd : List Str) (g : Str), m = ns.length - fnd.length ∧ σ = [some (.ref a), some (.ref d), some (.str b), some (.ref sd), some (.int (ns.idxOf g : Nat)), some (.ref f), none] ∧ Same H H1 ∧
  H1 f = some (.lst ((fnd ++ [g]).map V.str)) ∧ SlipsAt H1 sd ns (sd01 (fnd ++ [g])) ∧ g ∈ ns ∧ fnd.length + 1 + (sitting ns (fnd ++ [g]) g).length = ns.length ∧ fnd ++ [g] ++ nexts sl (sitting ns (fnd ++ [g]) g).length g (sitting ns (fnd ++ [g]) g) = orderOf ns sl b
theorem ok_l_played_round (T : Tx K mg) : FnOk P w K mg base CX0 2 T.a_l_played_round T.fd_l_played_round P_l_played_round spPlayed := by
  refine T.F_l_played_round.ok sc_l_played_round (fun vs H Q E h => ?_) (fun cdv A outer s H vs Q E hr h => ?_)
  · obtain ⟨a, d, ns, sl, b, rfl, _⟩ := h
    rfl
  · obtain ⟨a, d, ns, sl, b, rfl, ha, hds, gd, hb, q⟩ := h
    have hu := hu_of hr
    refine ⟨_, (pss_cons (ps_par3 (i := 3) (j := 4) (l := 5) (by rfl) sc_l_played_round.nd rfl rfl rfl (by decide) (by decide) (by decide) rfl rfl rfl (pa_cons (pe_callTy (call_dictP rfl) (by rfl) T.m_dict (by decide +kernel) (pa_cons (pe_lc (own := [("_law_label", 6)]) (g := gName 6) (tt := tYes) rfl sc_l_played_round.nd (pi_list (pv 0)) (blkOk_by (N := N_l_played_round) (sc := defScope s_l_played_round) (by decide +kernel)) (fun _ _ _ _ _ => pg_name (i := 6) sc_l_played_round.nd rfl (Or.inl rfl)) (fun _ _ _ _ _ => pts_nil) (fun _ _ _ _ _ => (pe_tup (pa_cons (pv 6) (pa_cons pe_int pa_nil))))) pa_nil)) (pa_cons (pe_bm PySem.F.plainAttrs_list PySem.F.slot_list_index PySem.F.type_list_index mt_index (pv 0) (pa_cons (pv 2) pa_nil)) (pa_cons (pe_lst (pa_cons (pv 2) pa_nil)) pa_nil))) (by rfl))
      (pss_cons (ps_dput hu (pv 3) (pv 2) pe_int rfl)
      (pss_cons (ps_while PassesOwn.never (pt_cmpR op_lt (pe_callB call_len_seq (by rfl) T.m_len (by decide +kernel) (pa_cons (pv 5) pa_nil)) (pe_callB call_len_seq (by rfl) T.m_len (by decide +kernel) (pa_cons (pv 0) pa_nil)) (nomark _))
       (pss_cons (ps_set (i := 4) sc_l_played_round.nd rfl (.inl rfl) (pe_call (ok_l_advanced T) (hr.mono (by decide)) (by rfl) T.g_l_advanced T.F_l_advanced.kp T.b_l_advanced .nil pass0 (pa_cons (pv 0) (pa_cons (pv 3) (pa_cons (pv 4) (pa_cons (pe_op op_mod (pe_dget hu (pv 1) (pe_ix ix_list (pv 5) (pe_un un_neg pe_int) (fun _ _ => rfl)) (fun _ _ => rfl)) (pe_op op_sub (pe_callB call_len_seq (by rfl) T.m_len (by decide +kernel) (pa_cons (pv 0) pa_nil)) (pe_callB call_len_seq (by rfl) T.m_len (by decide +kernel) (pa_cons (pv 5) pa_nil)))) pa_nil))))))
        (pss_cons (ps_expr (pe_bm PySem.F.plainAttrs_list PySem.F.slot_list_append PySem.F.type_list_append mt_append (pv 5) (pa_cons (pe_ix ix_list (pv 0) (pv 4) (fun _ _ => rfl)) pa_nil)))
        (pss_one (ps_dput hu (pv 3) (pe_ix ix_list (pv 0) (pv 4) (fun _ _ => rfl)) pe_int rfl)))))
      (pss_cons (ps_set (i := 4) sc_l_played_round.nd rfl (.inl rfl) (pe_call (ok_l_advanced T) (hr.mono (by decide)) (by rfl) T.g_l_advanced T.F_l_advanced.kp T.b_l_advanced .nil pass0 (pa_cons (pv 0) (pa_cons (pe_callTy (call_dictP rfl) (by rfl) T.m_dict (by decide +kernel) (pa_cons (pe_lc (own := [("_law_label", 6)]) (g := gName 6) (tt := tYes) rfl sc_l_played_round.nd (pi_list (pv 0)) (blkOk_by (N := N_l_played_round) (sc := defScope s_l_played_round) (by decide +kernel)) (fun _ _ _ _ _ => pg_name (i := 6) sc_l_played_round.nd rfl (Or.inl rfl)) (fun _ _ _ _ _ => pts_nil) (fun _ _ _ _ _ => (pe_tup (pa_cons (pv 6) (pa_cons pe_int pa_nil))))) pa_nil)) (pa_cons (pv 4) (pa_cons (pe_op op_mod (pe_dget hu (pv 1) (pe_ix ix_list (pv 5) (pe_un un_neg pe_int) (fun _ _ => rfl)) (fun _ _ => rfl)) (pe_callB call_len_seq (by rfl) T.m_len (by decide +kernel) (pa_cons (pv 0) pa_nil))) pa_nil))))))
      (pss_one (ps_ret (pe_tup (pa_cons (pe_callTy call_tuple_of (by rfl) T.m_tuple (by decide +kernel) (pa_cons (pv 5) pa_nil)) (pa_cons (pe_ix ix_list (pv 0) (pv 4) (fun _ _ => rfl)) pa_nil))))))))), ?_⟩
    have l12 := gd.twelve
    have l2 := gd.two
    have hkn : ((ns.map fun n => ((Sum.inr n : Key), V.int 1)).map (·.1)).Nodup := by
      rw [ones_map]
      exact nodup_map (fun a b e => Sum.inr.inj e) gd.nd
    refine ⟨_, rfl, a, rfl, ⟨_, SqL.of ha⟩, fun D nD => ?_⟩
    refine lc_list (K := K) (a := a) (xs := ns.map V.str) (fun j H2 => Same H H2 ∧ ∃ (rs : List Addr), H2 D = some (.lst (rs.map V.ref)) ∧ Paired (fun p (kv : Key × V) => H2 p = some (.tup [kV kv.1, kv.2])) rs ((ns.take j).map fun n => ((Sum.inr n : Key), V.int 1)) ∧ rs.length = j)
      ⟨same_new nD, [], upd_same, .nil, rfl⟩ (fun j H2 _ hP => SqL.of (hP.1 _ _ ha)) (fun j x H2 hx hP => ?_) (fun H2 hP => ?_)
    · obtain ⟨sm, rs, hD, hps, hpl⟩ := hP
      obtain ⟨y, hy, rfl⟩ := of_strs_at hx
      have hjl := (List.getElem?_eq_some_iff.mp hy).1
      refine ⟨rfl, _, rfl, (by show 2 ≤ sizeLine; decide), fun r nr => ?_⟩
      have ntD : D ≠ r := ne_of_none hD nr
      refine ⟨_, by rw [upd_ne ntD]; exact hD, by rw [List.length_map]; exact small_lt (by omega), (sm.trans (same_new nr)).own nD, rs ++ [r], ?_, ?_, ?_⟩
      · rw [upd_same, List.map_append]
        rfl
      · rw [take_snoc hy, List.map_append]
        refine Paired.snoc (Paired.mapF (fun p kv e => ?_) hps) ?_
        · rw [upd_ne (ne_of e hD (fun z => nomatch z)), upd_ne (ne_of_none e nr)]
          exact e
        · rw [upd_ne ntD.symm, upd_same]
          rfl
      · rw [List.length_append, hpl]
        rfl
    obtain ⟨sm, rs, hD, hps, hpl⟩ := hP
    rw [List.length_map, List.take_length] at hps
    refine ⟨D, rs, _, rfl, SqL.of hD, Paired.mapF (fun p kv e => SqT.of e) hps, fun sd nsd => ?_⟩
    rw [merge_new _ [] hkn, List.nil_append]
    have nsd0 : H sd = none := sm.free nsd
    have sm2 := sm.trans (same_new (o := .dK (ns.map fun n => ((Sum.inr n : Key), V.int 1))) nsd)
    have hS : SlipsAt (upd H2 sd (.dK (ns.map fun n => ((Sum.inr n : Key), V.int 1)))) sd ns (fun _ => 1) := ⟨_, upd_same, by rw [List.length_map], hkn, fun n hn => ones_val gd.nd hn⟩
    generalize upd H2 sd (.dK (ns.map fun n => ((Sum.inr n : Key), V.int 1))) = H3 at sm2 hS ⊢
    have ha3 := sm2 _ _ ha
    refine ⟨_, rfl, .inl ⟨rfl, _, SqL.of ha3⟩, _, rfl, a, _, _, ns.idxOf b, .str b, rfl, rfl, SqL.of ha3, rfl, flat_strs ns, strs_at (idx_at hb), beq_self_eq_true _, fun m z hm hz => ?_, ?_⟩
    · obtain ⟨y, hy, rfl⟩ := of_strs_at hz
      exact beq_eq_false_iff_ne.mpr fun e => idx_first hm (e ▸ hy)
    refine ⟨_, rfl, (by show 1 ≤ sizeLine; decide), fun f nf => ?_⟩
    have nf0 : H f = none := sm2.free nf
    have sm4 := sm2.trans (same_new (o := .lst [.str b]) nf)
    have hS4 := hS.same (same_new (o := .lst [.str b]) nf)
    have hf4 : (upd H3 f (.lst [.str b])) f = some (.lst [.str b]) := upd_same
    have hsf : sd ≠ f := by
      obtain ⟨kvs, k1, _⟩ := hS
      exact ne_of_none k1 nf
    generalize upd H3 f (.lst [.str b]) = H4 at sm4 hS4 hf4 ⊢
    obtain ⟨kvs, k1, k2, k3, k4⟩ := hS4
    refine ⟨_, _, _, rfl, _, rfl, _, rfl, sd, _, rfl, DPut.k (k := Sum.inr b) k1 (small_lt (by omega)), ?_⟩
    have S1 : SlipsAt (upd H4 sd (.dK (putK kvs (Sum.inr b : Key) (.int 0)))) sd ns (sd01 [b]) := (SlipsAt.put (sl := fun _ => 1) k2 k3 k4 hb).congr fun n hn => by
      unfold setSl sd01
      by_cases e : n = b
      · rw [if_pos e, if_pos (List.mem_singleton.mpr e)]
      · rw [if_neg e, if_neg (fun h => e (List.mem_singleton.mp h))]
    have sm5 : Same H (upd H4 sd (.dK (putK kvs (Sum.inr b : Key) (.int 0)))) := sm4.own nsd0
    have hf5 : (upd H4 sd (.dK (putK kvs (Sum.inr b : Key) (.int 0)))) f = some (.lst [.str b]) := by rw [upd_ne hsf.symm]; exact hf4
    generalize upd H4 sd (.dK (putK kvs (Sum.inr b : Key) (.int 0))) = H5 at S1 sm5 hf5 ⊢
    refine ⟨WPl a d sd f b ns sl H, ⟨ns.length - 0, [], b, rfl, rfl, sm5, hf5, S1, hb, ?_, ?_⟩, fun m σ H6 hW => ?_⟩
    · rw [List.nil_append, sitting_first gd.nd hb, behind_len hb]
      show 0 + 1 + (ns.length - 1) = ns.length
      omega
    · rw [List.nil_append, sitting_first gd.nd hb, behind_len hb]
      rfl
    obtain ⟨fnd, g, rfl, rfl, sm6, hf, hS6, hg, hlen, heq⟩ := hW
    have ha6 := sm6 _ _ ha
    obtain ⟨kvd, z1, z2, z3, z4⟩ := hds.same sm6
    have e1 : ((fnd ++ [g]).map V.str).length = fnd.length + 1 := by rw [List.length_map, List.length_append]; rfl
    refine ⟨_, rfl, f, _, rfl, .inl (SqL.of hf), _, rfl, a, _, rfl, .inl (SqL.of ha6), _, _, rfl, rfl, _, rfl, ?_⟩
    rw [e1, List.length_map]
    by_cases hlt : fnd.length + 1 < ns.length
    · rw [decide_eq_true (show ((fnd.length + 1 : Nat) : Int) < (ns.length : Int) by omega)]
      refine iteT ⟨fun σ' H' => ∃ m', m' < ns.length - fnd.length ∧ WPl a d sd f b ns sl H m' σ' H', fun _ _ h => h, ?_⟩
      have hne : sitting ns (fnd ++ [g]) g ≠ [] := fun e => by rw [e] at hlen; simp at hlen; omega
      obtain ⟨j, ej, hj, hjn, hget⟩ := spot (sl g) hne
      refine ⟨_, rfl, _, rfl, _, rfl, _, rfl, _, rfl, 1, rfl, f, _, -1, .str g, rfl, rfl, SqL.of hf, last_s fnd g, d, .int (sl g), rfl, by rw [← z4 g hg]; exact DGet.k (k := Sum.inr g) z1, _, rfl, a, _, rfl, .inl (SqL.of ha6), _, rfl, f, _, rfl, .inl (SqL.of hf), _, _, rfl, rfl, _, _, rfl, rfl, by rw [List.length_map, e1]; omega, ?_⟩
      dsimp only
      rw [List.length_map, e1, show (ns.length : Int) - ((fnd.length + 1 : Nat) : Int) = (((sitting ns (fnd ++ [g]) g).length : Nat) : Int) by omega, ej]
      refine ⟨a, sd, ns, fnd ++ [g], g, j, rfl, ha6, gd, hg, hS6, hj, ?_⟩
      obtain ⟨hnx, hmem⟩ := sitting_next (goers := fnd ++ [g]) gd.nd hg hj
      have hstep : nexts sl (sitting ns (fnd ++ [g]) g).length g (sitting ns (fnd ++ [g]) g) = (sitting ns (fnd ++ [g]) g).getD j Str.empty :: nexts sl ((sitting ns (fnd ++ [g]) g).length - 1) ((sitting ns (fnd ++ [g]) g).getD j Str.empty) ((sitting ns (fnd ++ [g]) g).drop (j + 1) ++ (sitting ns (fnd ++ [g]) g).take j) := by
        have e1 : (sitting ns (fnd ++ [g]) g).length = ((sitting ns (fnd ++ [g]) g).length - 1) + 1 := by omega
        rw [show nexts sl (sitting ns (fnd ++ [g]) g).length g (sitting ns (fnd ++ [g]) g) = nexts sl (((sitting ns (fnd ++ [g]) g).length - 1) + 1) g (sitting ns (fnd ++ [g]) g) by rw [← e1], nexts_step hjn]
      have hcl := cut_len hj
      generalize (sitting ns (fnd ++ [g]) g).getD j Str.empty = x at hnx hmem hstep ⊢
      have hat := idx_at hmem
      obtain ⟨kv6, q1, q2, q3, q4⟩ := hS6
      refine ⟨_, rfl, .inl ⟨rfl, _, SqL.of hf⟩, _, rfl, _, rfl, a, _, _, .str x, rfl, rfl, SqL.of ha6, atI_at rfl (strs_at hat), f, _, _, rfl, rfl, hf, by rw [e1]; exact small_lt (by omega), ?_⟩
      have smf : Same H (upd H6 f (.lst ((fnd ++ [g]).map V.str ++ [.str x]))) := sm6.own nf0
      have q1' : (upd H6 f (.lst ((fnd ++ [g]).map V.str ++ [.str x]))) sd = some (.dK kv6) := by rw [upd_ne hsf]; exact q1
      have hff : (upd H6 f (.lst ((fnd ++ [g]).map V.str ++ [.str x]))) f = some (.lst ((fnd ++ [g] ++ [x]).map V.str)) := by rw [upd_same, List.map_append (l₁ := fnd ++ [g])]; rfl
      generalize upd H6 f (.lst ((fnd ++ [g]).map V.str ++ [.str x])) = H7 at smf q1' hff ⊢
      refine ⟨_, rfl, _, rfl, _, rfl, a, _, _, .str x, rfl, rfl, SqL.of (smf _ _ ha), atI_at rfl (strs_at hat), sd, _, rfl, DPut.k (k := Sum.inr x) q1' (small_lt (by omega)), ?_⟩
      have S7 : SlipsAt (upd H7 sd (.dK (putK kv6 (Sum.inr x : Key) (.int 0)))) sd ns (sd01 (fnd ++ [g] ++ [x])) := (SlipsAt.put q2 q3 q4 hmem).congr fun n hn => sd01_put n
      refine ⟨ns.length - (fnd.length + 1), by omega, fnd ++ [g], x, by rw [List.length_append]; rfl, rfl, smf.own nsd0, by rw [upd_ne hsf.symm]; exact hff, S7, hmem, ?_, ?_⟩
      · rw [hnx, hcl, List.length_append]
        simp only [List.length_singleton]
        omega
      · rw [hnx, hcl, ← heq, hstep, List.append_assoc (fnd ++ [g])]
        rfl
    · rw [decide_eq_false (show ¬ ((fnd.length + 1 : Nat) : Int) < (ns.length : Int) by omega)]
      have h0 : sitting ns (fnd ++ [g]) g = [] := List.eq_nil_of_length_eq_zero (by omega)
      rw [h0] at heq
      rw [show nexts sl ([] : List Str).length g [] = [] from rfl, List.append_nil] at heq
      have hgl : lastOf ns sl b = g := by
        have h1 := order_last ns sl b
        rw [← heq, last_s] at h1
        injection h1 with h1
        injection h1 with h1
        exact h1.symm
      have hrot : sitting ns [] g = rot ns g := by
        unfold sitting
        exact List.filter_eq_self.mpr fun x _ => by simp
      have hrl : (rot ns g).length = ns.length := rot_len
      obtain ⟨j, ej, hj, hjn, hget⟩ := spot (row := rot ns g) (sl g) (fun e => by rw [e] at hrl; simp at hrl; omega)
      rw [hrl] at ej hjn
      refine iteF ⟨_, rfl, _, rfl, a, rfl, ⟨_, SqL.of ha6⟩, fun D nD => ?_⟩
      refine lc_list (K := K) (a := a) (xs := ns.map V.str) (fun j H2 => Same H6 H2 ∧ ∃ (rs : List Addr), H2 D = some (.lst (rs.map V.ref)) ∧ Paired (fun p (kv : Key × V) => H2 p = some (.tup [kV kv.1, kv.2])) rs ((ns.take j).map fun n => ((Sum.inr n : Key), V.int 1)) ∧ rs.length = j)
        ⟨same_new nD, [], upd_same, .nil, rfl⟩ (fun j H2 _ hP => SqL.of (hP.1 _ _ ha6)) (fun j x H2 hx hP => ?_) (fun H2 hP => ?_)
      · obtain ⟨sm, rs, hD, hps, hpl⟩ := hP
        obtain ⟨y, hy, rfl⟩ := of_strs_at hx
        have hjl := (List.getElem?_eq_some_iff.mp hy).1
        refine ⟨rfl, _, rfl, (by show 2 ≤ sizeLine; decide), fun r nr => ?_⟩
        have ntD : D ≠ r := ne_of_none hD nr
        refine ⟨_, by rw [upd_ne ntD]; exact hD, by rw [List.length_map]; exact small_lt (by omega), (sm.trans (same_new nr)).own nD, rs ++ [r], ?_, ?_, ?_⟩
        · rw [upd_same, List.map_append]
          rfl
        · rw [take_snoc hy, List.map_append]
          refine Paired.snoc (Paired.mapF (fun p kv e => ?_) hps) ?_
          · rw [upd_ne (ne_of e hD (fun z => nomatch z)), upd_ne (ne_of_none e nr)]
            exact e
          · rw [upd_ne ntD.symm, upd_same]
            rfl
        · rw [List.length_append, hpl]
          rfl
      obtain ⟨sm, rs, hD, hps, hpl⟩ := hP
      rw [List.length_map, List.take_length] at hps
      refine ⟨D, rs, _, rfl, SqL.of hD, Paired.mapF (fun p kv e => SqT.of e) hps, fun s2 ns2 => ?_⟩
      rw [merge_new _ [] hkn, List.nil_append]
      have sm7 := sm.trans (same_new (o := .dK (ns.map fun n => ((Sum.inr n : Key), V.int 1))) ns2)
      have hS7 : SlipsAt (upd H2 s2 (.dK (ns.map fun n => ((Sum.inr n : Key), V.int 1)))) s2 ns (sd01 []) := ⟨_, upd_same, by rw [List.length_map], hkn, fun n hn => ones_val gd.nd hn⟩
      generalize upd H2 s2 (.dK (ns.map fun n => ((Sum.inr n : Key), V.int 1))) = H7 at sm7 hS7 ⊢
      have ha7 := sm7 _ _ ha6
      have hf7 := sm7 _ _ hf
      refine ⟨_, rfl, _, rfl, _, rfl, 1, rfl, f, _, -1, .str g, rfl, rfl, SqL.of hf7, last_s fnd g, d, .int (sl g), rfl, by rw [← z4 g hg]; exact DGet.k (k := Sum.inr g) (sm7 _ _ z1), _, rfl, a, _, rfl, .inl (SqL.of ha7), _, _, rfl, rfl, by rw [List.length_map]; omega, ?_⟩
      dsimp only
      rw [List.length_map, ej]
      refine ⟨a, s2, ns, [], g, j, rfl, ha7, gd, hg, hS7, by rw [hrot]; exact hj, ?_⟩
      rw [hrot]
      have hnext : nextOf ns sl b = (rot ns g).getD j Str.empty := by
        unfold nextOf ledOf
        rw [hgl, hjn]
      have hxm : (rot ns g).getD j Str.empty ∈ ns := (rotP_perm ns g).mem_iff.mp (getD_mem hj)
      rw [← hnext] at hxm ⊢
      have hat := idx_at hxm
      refine ⟨_, rfl, f, _, rfl, .inl ⟨SqL.of hf7, fun r nr => ?_⟩⟩
      have smr := same_new (o := .tup ((fnd ++ [g]).map V.str)) nr
      refine ⟨_, rfl, _, rfl, a, _, _, .str (nextOf ns sl b), rfl, rfl, SqL.of (smr _ _ ha7), atI_at rfl (strs_at hat), (by show 2 ≤ sizeLine; decide), fun t nt => ?_⟩
      have nr0 : H r = none := (sm6.trans sm7).free nr
      have nt0 : H t = none := ((sm6.trans sm7).trans smr).free nt
      have rt : r ≠ t := fun e => by rw [← e, upd_same] at nt; cases nt
      refine q _ t r (((sm6.trans sm7).trans smr).trans (same_new nt)) nt0 nr0 upd_same ?_
      rw [upd_ne rt, upd_same, heq]
end
end K09
namespace K09
open PySem PySem.Spec PyProof.Rows L2 GL
section
variable {P : Program} {w : World} {K : PySem.W.Frag} {mg : Str → Option Value} {base : Heap}
theorem take_new {ns : List Str} {kvs : List (Key × V)} {j : Nat} {y : Str} (hn : ns.Nodup) (hk : kvs.map (·.1) = (ns.take j).map Sum.inr) (hy : ns[j]? = some y) : valV kvs (Sum.inr y : Key) = none := valV_none fun hm => by
  rw [hk] at hm
  obtain ⟨w2, hw2, e⟩ := List.mem_map.mp hm
  obtain rfl : w2 = y := Sum.inr.inj e
  obtain ⟨i, hi, ei⟩ := List.mem_iff_getElem.mp hw2
  rw [List.length_take] at hi
  rw [List.getElem_take] at ei
  obtain ⟨_, e2⟩ := List.getElem?_eq_some_iff.mp hy
  have := (List.getElem_inj hn).mp (ei.trans e2.symm)
  omega
/-- a table as far as it is filled -/
def PartAt (H : Hp) (d : Addr) (ns : List Str) (j : Nat) (nx : Str → Str) (c : Str → Str → Nat) : Prop := ∃ kvs : List (Key × V), H d = some (.dK kvs) ∧ kvs.map (·.1) = (ns.take j).map Sum.inr ∧
  ∀ n ∈ ns.take j, ∃ t q, valV kvs (Sum.inr n : Key) = some (.ref t) ∧ H t = some (.tup [.str (nx n), .ref q]) ∧ CntAt H q ns (c n)
theorem PartAt.same {H H' : Hp} {d : Addr} {ns : List Str} {j : Nat} {nx : Str → Str} {c : Str → Str → Nat} (h : PartAt H d ns j nx c) (s : Same H H') : PartAt H' d ns j nx c := by
  obtain ⟨kvs, a, b, f⟩ := h
  exact ⟨kvs, s _ _ a, b, fun n hn => let ⟨t, q, e1, e2, e3⟩ := f n hn; ⟨t, q, e1, s _ _ e2, e3.same s⟩⟩
theorem PartAt.len {H : Hp} {d : Addr} {ns : List Str} {j : Nat} {nx : Str → Str} {c : Str → Str → Nat} (h : PartAt H d ns j nx c) : ∃ kvs : List (Key × V), H d = some (.dK kvs) ∧ kvs.length ≤ ns.length := by
  obtain ⟨kvs, a, b, _⟩ := h
  have := congrArg List.length b
  rw [List.length_map, List.length_map, List.length_take] at this
  exact ⟨kvs, a, by omega⟩
theorem PartAt.put {H : Hp} {d t q : Addr} {ns : List Str} {j : Nat} {y : Str} {nx : Str → Str} {c : Str → Str → Nat} {kvs : List (Key × V)} (hn : ns.Nodup) (hy : ns[j]? = some y) (hd : H d = some (.dK kvs)) (h : PartAt H d ns j nx c) (ht : H t = some (.tup [.str (nx y), .ref q])) (hq : CntAt H q ns (c y)) (hqd : q ≠ d) :
    PartAt (upd H d (.dK (putK kvs (Sum.inr y : Key) (.ref t)))) d ns (j + 1) nx c := by
  obtain ⟨kv2, a, b, f⟩ := h
  obtain rfl : kv2 = kvs := by rw [hd] at a; injection a with a; injection a with a; exact a.symm
  have hnew := take_new hn b hy
  refine ⟨putK kv2 (Sum.inr y : Key) (.ref t), upd_same, ?_, fun n hn2 => ?_⟩
  · rw [putK_new _ hnew, List.map_append, b, take_snoc hy, List.map_append]
    rfl
  · rw [valV_put]
    rw [take_snoc hy, List.mem_append, List.mem_singleton] at hn2
    by_cases e : n = y
    · subst e
      exact ⟨t, q, if_pos rfl, by rw [upd_ne (ne_of ht hd (fun z => nomatch z))]; exact ht, by unfold CntAt; rw [upd_ne hqd]; exact hq⟩
    · obtain ⟨t2, q2, e1, e2, e3⟩ := f n (hn2.resolve_right e)
      refine ⟨t2, q2, by rw [if_neg (fun h => e (Sum.inr.inj h))]; exact e1, by rw [upd_ne (ne_of e2 hd (fun z => nomatch z))]; exact e2, ?_⟩
      by_cases hq2 : q2 = d
      · subst hq2
        have e4 : kv2 = cntK ns (c n) := by
          have e5 : H q2 = some (.dK (cntK ns (c n))) := e3
          rw [hd] at e5
          injection e5 with e5
          injection e5
        rw [e4, cntK_val (List.mem_of_mem_take (hn2.resolve_right e))] at e1
        injection e1 with e1
        cases e1
      · unfold CntAt
        rw [upd_ne hq2]
        exact e3
theorem ok_l_once (T : Tx K mg) : FnOk P w K mg base CX0 3 T.a_l_once T.fd_l_once P_l_once spOnce := by
  refine T.F_l_once.ok sc_l_once (fun vs H Q E h => ?_) (fun cdv A outer s H vs Q E hr h => ?_)
  · obtain ⟨a, d, ns, sl, rfl, _⟩ := h
    rfl
  · obtain ⟨a, d, ns, sl, rfl, ha, hd, g, q⟩ := h
    have hu := hu_of hr
    refine ⟨_, (pss_cons (ps_set (i := 2) sc_l_once.nd rfl (.inl rfl) pe_dnewK)
      (pss_cons (ps_for PassesOwn.never rfl (pi_list (pv 0)) (pg_name (i := 3) sc_l_once.nd rfl (.inl rfl))
       (pss_cons (ps_asg (pe_call (ok_l_played_round T) (hr.mono (by decide)) (by rfl) T.g_l_played_round T.F_l_played_round.kp T.b_l_played_round .nil pass0 (pa_cons (pv 0) (pa_cons (pv 1) (pa_cons (pv 3) pa_nil)))) (pg_tup (by rfl) (pgs_cons (pg_name (i := 4) sc_l_once.nd rfl (.inr rfl)) (pgs_cons (pg_name (i := 5) sc_l_once.nd rfl (.inl rfl)) pgs_nil))))
        (pss_one (ps_dput hu (pv 2) (pv 3) (pe_tup (pa_cons (pv 5) (pa_cons (pe_callTy (call_dictP rfl) (by rfl) T.m_dict (by decide +kernel) (pa_cons (pe_lc (own := [("_law_one", 6)]) (g := gName 6) (tt := tYes) rfl sc_l_once.nd (pi_list (pv 0)) (blkOk_by (N := N_l_once) (sc := defScope s_l_once) (by decide +kernel)) (fun _ _ _ _ _ => pg_name (i := 6) sc_l_once.nd rfl (Or.inl rfl)) (fun _ _ _ _ _ => pts_nil) (fun _ _ _ _ _ => (pe_tup (pa_cons (pv 6) (pa_cons (pe_callTy call_int1 (by rfl) T.m_int (by decide +kernel) (pa_cons (pe_cmpR op_eq (pv 6) (pe_ix (show IxR _ (rIxT K) from ix_tup) (pv 4) (pe_un un_neg pe_int) (fun _ _ => rfl)) (nomark _)) pa_nil)) pa_nil))))) pa_nil)) pa_nil))) rfl))))
      (pss_one (ps_ret (pv 2))))), ?_⟩
    have l12 := g.twelve
    refine fun r nr => ?_
    have ha1 := same_new (o := .dK []) nr _ _ ha
    refine ⟨_, rfl, a, rfl, ⟨_, SqL.of ha1⟩, for_list (K := K) (a := a) (xs := ns.map V.str) (fun j σ H1 => (∃ u3 u4 u5, σ = [some (.ref a), some (.ref d), some (.ref r), u3, u4, u5, none]) ∧ Same H H1 ∧ PartAt H1 r ns j (itn (nextOf ns sl) 1) (lcn (nextOf ns sl) (lastOf ns sl) 1))
      ⟨⟨none, none, none, rfl⟩, same_new nr, [], upd_same, rfl, fun _ h => nomatch h⟩ (fun j σ H1 _ hP => SqL.of (hP.2.1 _ _ ha)) (fun j v σ H1 hv hP => ?_) (fun σ H1 hP => ?_)⟩
    · obtain ⟨⟨u3, u4, u5, rfl⟩, sm, hT⟩ := hP
      obtain ⟨y, hy, rfl⟩ := of_strs_at hv
      have hyn := List.mem_of_getElem? hy
      refine ⟨_, rfl, _, rfl, _, rfl, a, d, ns, sl, y, rfl, sm _ _ ha, hd.same sm, g, hyn, fun H2 t0 r0 sm2 nt0 nr0 ht0 hr0 => ?_⟩
      refine ⟨t0, _, rfl, SqT.of ht0, rfl, _, _, rfl, _, _, rfl, rfl, ?_⟩
      have ha2 := sm2 _ _ (sm _ _ ha)
      refine ⟨_, rfl, _, rfl, a, rfl, ⟨_, SqL.of ha2⟩, fun D nD => ?_⟩
      refine lc_list (K := K) (a := a) (xs := ns.map V.str) (fun i H3 => Same H2 H3 ∧ ∃ (rs : List Addr), H3 D = some (.lst (rs.map V.ref)) ∧ Paired (fun p (kv : Key × V) => H3 p = some (.tup [kV kv.1, kv.2])) rs ((cntK ns (lcn (nextOf ns sl) (lastOf ns sl) 1 y)).take i) ∧ rs.length = i)
        ⟨same_new nD, [], upd_same, .nil, rfl⟩ (fun i H3 _ hP => SqL.of (hP.1 _ _ ha2)) (fun i x H3 hx hP => ?_) (fun H3 hP => ?_)
      · obtain ⟨sm3, rs, hD, hps, hpl⟩ := hP
        obtain ⟨z, hz, rfl⟩ := of_strs_at hx
        have hil := (List.getElem?_eq_some_iff.mp hz).1
        refine ⟨rfl, _, rfl, _, rfl, _, rfl, 1, rfl, r0, _, -1, .str (lastOf ns sl y), rfl, rfl, SqT.of (sm3 _ _ hr0), order_last ns sl y, rfl, .inr ⟨_, rfl, (by show 2 ≤ sizeLine; decide), fun t nt => ?_⟩⟩
        have hcv : V.int (if decide (V.str z = V.str (lastOf ns sl y)) = true then 1 else 0) = V.int (lcn (nextOf ns sl) (lastOf ns sl) 1 y z : Nat) := by
          show _ = V.int (((if lastOf ns sl y = z then 1 else 0) + 0 : Nat) : Int)
          by_cases e : lastOf ns sl y = z
          · rw [if_pos e, if_pos (decide_eq_true (by rw [e]))]
            rfl
          · rw [if_neg e, if_neg (by rw [decide_eq_false (fun h => e (by injection h with h; exact h.symm))]; exact Bool.false_ne_true)]
            rfl
        dsimp only
        rw [hcv]
        have ntD : D ≠ t := ne_of_none hD nt
        have hat : (cntK ns (lcn (nextOf ns sl) (lastOf ns sl) 1 y))[i]? = some (Sum.inr z, V.int (lcn (nextOf ns sl) (lastOf ns sl) 1 y z : Nat)) := by
          unfold cntK
          rw [List.getElem?_map, hz]
          rfl
        refine ⟨_, by rw [upd_ne ntD]; exact hD, by rw [List.length_map]; exact small_lt (by omega), (sm3.trans (same_new nt)).own nD, rs ++ [t], ?_, ?_, ?_⟩
        · rw [upd_same, List.map_append]
          rfl
        · rw [take_snoc hat]
          refine Paired.snoc (Paired.mapF (fun p kv e => ?_) hps) ?_
          · rw [upd_ne (ne_of e hD (fun z => nomatch z)), upd_ne (ne_of_none e nt)]
            exact e
          · rw [upd_ne ntD.symm, upd_same]
            rfl
        · rw [List.length_append, hpl]
          rfl
      · obtain ⟨sm3, rs, hD, hps, hpl⟩ := hP
        rw [List.length_map] at hps
        rw [List.take_of_length_le (by rw [cntK, List.length_map]; exact Nat.le_refl _)] at hps
        refine ⟨D, rs, _, rfl, SqL.of hD, Paired.mapF (fun p kv e => SqT.of e) hps, fun sd nsd => ?_⟩
        rw [merge_new (cntK ns (lcn (nextOf ns sl) (lastOf ns sl) 1 y)) [] (cntK_nd _ g.nd), List.nil_append]
        have sm4 := sm3.trans (same_new (o := .dK (cntK ns (lcn (nextOf ns sl) (lastOf ns sl) 1 y))) nsd)
        have hc4 : CntAt (upd H3 sd (.dK (cntK ns (lcn (nextOf ns sl) (lastOf ns sl) 1 y)))) sd ns (lcn (nextOf ns sl) (lastOf ns sl) 1 y) := upd_same
        refine ⟨(by show 2 ≤ sizeLine; decide), fun t nt => ?_⟩
        have smt := same_new (o := .tup [.str (nextOf ns sl y), .ref sd]) nt
        have hT2 := ((hT.same sm2).same sm4).same smt
        obtain ⟨kvs, hkr, hkl⟩ := hT2.len
        have hsr : sd ≠ r := by
          obtain ⟨kv0, h0, _⟩ := (hT.same sm2).same sm3
          exact fun e => by rw [e, h0] at nsd; cases nsd
        refine ⟨_, rfl, _, rfl, r, _, rfl, DPut.k (k := Sum.inr y) hkr (small_lt (by omega)), ?_⟩
        exact ⟨⟨_, _, _, rfl⟩, (((sm.trans sm2).trans sm4).trans smt).own nr, PartAt.put g.nd hy hkr hT2 upd_same (hc4.same smt) hsr⟩
    · obtain ⟨⟨u3, u4, u5, rfl⟩, sm, kvs, h1, h2, h3⟩ := hP
      rw [List.length_map, List.take_length] at h2 h3
      exact ⟨_, rfl, q _ r sm nr ⟨kvs, h1, h2, h3⟩⟩
/-- what goes through a locked dict of counts: the row of pairs, key and f key -/
theorem ok_l_twice (T : Tx K mg) : FnOk P w K mg base CX0 1 T.a_l_twice T.fd_l_twice P_l_twice spTwice := by
  refine T.F_l_twice.ok sc_l_twice (fun vs H Q E h => ?_) (fun cdv A outer s H vs Q E hr h => ?_)
  · obtain ⟨t, ns, f, l, M, rfl, _⟩ := h
    rfl
  · obtain ⟨t, ns, f, l, M, rfl, hT, g, hf, q⟩ := h
    have hu := hu_of hr
    refine ⟨_, (pss_cons (ps_set (i := 1) sc_l_twice.nd rfl (.inl rfl) pe_dnewK)
      (pss_cons (ps_lock (ps_for PassesOwn.never rfl (pi_keys (pv 0)) (pg_name (i := 2) sc_l_twice.nd rfl (.inl rfl))
       (pss_cons (ps_asg (pe_dget hu (pv 0) (pv 2) (fun _ _ => rfl)) (pg_tup (by rfl) (pgs_cons (pg_name (i := 3) sc_l_twice.nd rfl (.inl rfl)) (pgs_cons (pg_name (i := 4) sc_l_twice.nd rfl (.inr rfl)) pgs_nil))))
        (pss_cons (ps_asg (pe_dget hu (pv 0) (pv 3) (fun _ _ => rfl)) (pg_tup (by rfl) (pgs_cons (pg_name (i := 5) sc_l_twice.nd rfl (.inl rfl)) (pgs_cons (pg_name (i := 6) sc_l_twice.nd rfl (.inr rfl)) pgs_nil))))
        (pss_one (ps_dput hu (pv 1) (pv 2) (pe_tup (pa_cons (pv 5) (pa_cons (pe_callTy (call_dictP rfl) (by rfl) T.m_dict (by decide +kernel) (pa_cons (pe_lock (pe_lc (own := [("_law_one", 7)]) (g := gName 7) (tt := tYes) rfl sc_l_twice.nd (pi_keys (pv 4)) (blkOk_by (N := N_l_twice) (sc := defScope s_l_twice) (by decide +kernel)) (fun _ _ _ _ _ => pg_name (i := 7) sc_l_twice.nd rfl (Or.inl rfl)) (fun _ _ _ _ _ => pts_nil) (fun _ _ _ _ _ => (pe_tup (pa_cons (pv 7) (pa_cons (pe_op op_add (pe_dget hu (pv 4) (pv 7) (fun _ _ => rfl)) (pe_dget hu (pv 6) (pv 7) (fun _ _ => rfl))) pa_nil)))))) pa_nil)) pa_nil))) rfl))))))
      (pss_one (ps_ret (pv 1))))), ?_⟩
    have l12 := g.twelve
    refine fun r nr => ?_
    obtain ⟨kvs, ht, hk, hv⟩ := hT
    have ht1 := same_new (o := .dK []) nr _ _ ht
    have hkl : kvs.length = ns.length := by
      have := congrArg List.length hk
      rw [List.length_map, List.length_map] at this
      exact this
    refine ⟨t, _, ht1, trivial, fun od => ?_⟩
    generalize hHf : upd (upd H r (.dK [])) t (.frz od (.dK kvs)) = Hf
    have htf : Hf t = some (.frz od (.dK kvs)) := by rw [← hHf, upd_same]
    have hrt : r ≠ t := fun e => by rw [e, ht] at nr; cases nr
    have hrf : Hf r = some (.dK []) := by rw [← hHf, upd_ne hrt, upd_same]
    have hvf : ∀ n ∈ ns, ∃ u c, valV kvs (Sum.inr n : Key) = some (.ref u) ∧ Hf u = some (.tup [.str (itn f M n), .ref c]) ∧ CntAt Hf c ns (lcn f l M n) := fun n hn => by
      obtain ⟨u, c, e1, e2, e3⟩ := hv n hn
      refine ⟨u, c, e1, ?_, ?_⟩
      · rw [← hHf, upd_ne (ne_of e2 ht (fun z => nomatch z))]
        exact same_new nr _ _ e2
      · have hct : c ≠ t := by
          intro e
          subst e
          have e4 : kvs = cntK ns (lcn f l M n) := by
            have e5 : H c = some (.dK (cntK ns (lcn f l M n))) := e3
            rw [ht] at e5
            injection e5 with e5
            injection e5
          rw [e4, cntK_val hn] at e1
          injection e1 with e1
          cases e1
        unfold CntAt
        rw [← hHf, upd_ne hct]
        exact same_new nr _ _ e3
    refine ⟨_, rfl, t, od, rfl, .inl ⟨_, htf, ?_⟩⟩
    refine for_it walk_keys (fun i σ H1 => (∃ u2 u3 u4 u5 u6, σ = [some (.ref t), some (.ref r), u2, u3, u4, u5, u6, none]) ∧ (∀ b o, Hf b = some o → b ≠ r → H1 b = some o) ∧ PartAt H1 r ns i (itn f (M + M)) (lcn f l (M + M))) ⟨⟨none, none, none, none, none, rfl⟩, fun b o e _ => e, [], hrf, rfl, fun _ h => nomatch h⟩ (fun i σ H1 _ hP => ?_) (fun i x σ H1 H2 hi hP hY => ?_) (fun σ H1 hP => ?_)
    · exact hP.2.1 _ _ htf hrt.symm
    · obtain ⟨⟨u2, u3, u4, u5, u6, rfl⟩, kp, hPt⟩ := hP
      obtain ⟨rfl, k, v, hkv, rfl⟩ := hY
      obtain ⟨n, hn, rfl⟩ : ∃ n, ns[i]? = some n ∧ k = Sum.inr n := by
        have e := congrArg (fun l => l[i]?) hk
        simp only [List.getElem?_map, hkv, Option.map_some] at e
        obtain ⟨n, h1, h2⟩ := Option.map_eq_some_iff.mp e.symm
        exact ⟨n, h1, h2.symm⟩
      have hnn := List.mem_of_getElem? hn
      obtain ⟨ta, ca, a1, a2, a3⟩ := hvf n hnn
      have hthere : itn f M n ∈ ns := itn_mem hf M hnn
      obtain ⟨tb, cb, b1, b2, b3⟩ := hvf _ hthere
      have htH := kp _ _ htf hrt.symm
      have hra : ∀ {p : Addr} {xs : List V}, Hf p = some (.tup xs) → p ≠ r := fun {p xs} e => ne_of e hrf (fun z => nomatch z)
      have hrc : ∀ {p : Addr} {c : Str → Nat}, CntAt Hf p ns c → p ≠ r := fun {p c} e z => by
        have e2 : Hf p = some (.dK (cntK ns c)) := e
        rw [z, hrf] at e2
        injection e2 with e2
        injection e2 with e2
        have := congrArg List.length e2
        rw [cntK, List.length_map, List.length_nil] at this
        have := g.two
        omega
      have a2' := kp _ _ a2 (hra a2)
      have b2' := kp _ _ b2 (hra b2)
      have a3' : CntAt H2 ca ns (lcn f l M n) := kp _ _ a3 (hrc a3)
      have b3' : CntAt H2 cb ns (lcn f l M (itn f M n)) := kp _ _ b3 (hrc b3)
      refine ⟨_, rfl, _, rfl, t, .ref ta, rfl, .inl ⟨kvs, Sum.inr n, .inr ⟨od, htH⟩, rfl, a1.symm⟩, ta, _, rfl, SqT.of a2', rfl, _, _, rfl, _, _, rfl, rfl, ?_⟩
      refine ⟨_, rfl, _, rfl, t, .ref tb, rfl, .inl ⟨kvs, Sum.inr (itn f M n), .inr ⟨od, htH⟩, rfl, b1.symm⟩, tb, _, rfl, SqT.of b2', rfl, _, _, rfl, _, _, rfl, rfl, ?_⟩
      refine ⟨_, rfl, ca, _, a3', trivial, fun oc => ⟨_, rfl, ca, oc, rfl, .inl ⟨_, upd_same, fun D nD => ?_⟩⟩⟩
      generalize hHc : upd H2 ca (.frz oc (.dK (cntK ns (lcn f l M n)))) = Hc at nD
      have hcf : Hc ca = some (.frz oc (.dK (cntK ns (lcn f l M n)))) := by rw [← hHc, upd_same]
      have hbR : Rd Hc cb (.dK (cntK ns (lcn f l M (itn f M n)))) := by
        by_cases e : cb = ca
        · subst e
          have e2 : H2 cb = some (.dK (cntK ns (lcn f l M n))) := a3'
          have e3 : H2 cb = some (.dK (cntK ns (lcn f l M (itn f M n)))) := b3'
          rw [e2] at e3
          injection e3 with e3
          rw [← e3]
          exact .inr ⟨oc, hcf⟩
        · refine .inl ?_
          rw [← hHc, upd_ne e]
          exact b3'
      have rdS : ∀ {H3 : Hp} {p : Addr} {u : HO}, Same Hc H3 → Rd Hc p u → Rd H3 p u := fun {H3 p u} sm h => h.imp (sm _ _ ·) (fun ⟨o, e⟩ => ⟨o, sm _ _ e⟩)
      have hDc : D ≠ ca := fun e => by rw [e, hcf] at nD; cases nD
      refine lc_it walk_keys (fun j H3 => Same Hc H3 ∧ ∃ (rs : List Addr), H3 D = some (.lst (rs.map V.ref)) ∧ Paired (fun p (kv : Key × V) => H3 p = some (.tup [kV kv.1, kv.2])) rs ((cntK ns (lcn f l (M + M) n)).take j) ∧ rs.length = j)
        ⟨same_new nD, [], upd_same, .nil, rfl⟩ (fun j H3 _ hP => hP.1 _ _ hcf) (fun j x H3 H4 hj hP hY => ?_) (fun H3 hP => ?_)
      · obtain ⟨sm3, rs, hD, hps, hpl⟩ := hP
        obtain ⟨rfl, k2, v2, hkv2, rfl⟩ := hY
        obtain ⟨y, hy, rfl, rfl⟩ := cntK_get hkv2
        have hyn := List.mem_of_getElem? hy
        have hjl : j < ns.length := (List.getElem?_eq_some_iff.mp hy).1
        refine ⟨rfl, _, rfl, _, rfl, _, rfl, ca, .int (lcn f l M n y : Nat), rfl, .inl ⟨_, Sum.inr y, .inr ⟨oc, sm3 _ _ hcf⟩, rfl, (cntK_val hyn).symm⟩, _, rfl, _, rfl, cb, .int (lcn f l M (itn f M n) y : Nat), rfl, .inl ⟨_, Sum.inr y, rdS sm3 hbR, rfl, (cntK_val hyn).symm⟩, _, _, rfl, rfl, (by show 2 ≤ sizeLine; decide), fun t3 nt3 => ?_⟩
        have hcv : V.int ((lcn f l M n y : Nat) + (lcn f l M (itn f M n) y : Nat) : Int) = V.int (lcn f l (M + M) n y : Nat) := by
          rw [lcn_add]
          rfl
        dsimp only
        rw [hcv]
        have ntD : D ≠ t3 := ne_of_none hD nt3
        have hat : (cntK ns (lcn f l (M + M) n))[j]? = some (Sum.inr y, V.int (lcn f l (M + M) n y : Nat)) := by
          unfold cntK
          rw [List.getElem?_map, hy]
          rfl
        refine ⟨_, by rw [upd_ne ntD]; exact hD, by rw [List.length_map]; exact small_lt (by omega), (sm3.trans (same_new nt3)).own nD, rs ++ [t3], ?_, ?_, ?_⟩
        · rw [upd_same, List.map_append]
          rfl
        · rw [take_snoc hat]
          refine Paired.snoc (Paired.mapF (fun p kv e => ?_) hps) ?_
          · rw [upd_ne (ne_of e hD (fun z => nomatch z)), upd_ne (ne_of_none e nt3)]
            exact e
          · rw [upd_ne ntD.symm, upd_same]
        · rw [List.length_append, hpl]
          rfl
      · obtain ⟨sm3, rs, hD, hps, hpl⟩ := hP
        rw [show (cntK ns (lcn f l M n)).length = (cntK ns (lcn f l (M + M) n)).length by rw [cntK, cntK, List.length_map, List.length_map], List.take_length] at hps
        have hc3 := sm3 _ _ hcf
        refine ⟨hc3, ?_⟩
        have smU : Same H2 (upd H3 ca (.dK (cntK ns (lcn f l M n)))) := same_unlock (od := oc) a3' (hHc ▸ sm3)
        have hDU : (upd H3 ca (.dK (cntK ns (lcn f l M n)))) D = some (.lst (rs.map V.ref)) := by rw [upd_ne hDc]; exact hD
        have hpU : Paired (fun p (kv : Key × V) => (upd H3 ca (.dK (cntK ns (lcn f l M n)))) p = some (.tup [kV kv.1, kv.2])) rs (cntK ns (lcn f l (M + M) n)) := Paired.mapF (fun p kv e => by rw [upd_ne (ne_of e hc3 (fun z => nomatch z))]; exact e) hps
        generalize upd H3 ca (.dK (cntK ns (lcn f l M n))) = H5 at smU hDU hpU ⊢
        refine ⟨D, rs, _, rfl, SqL.of hDU, Paired.mapF (fun p kv e => SqT.of e) hpU, fun sd nsd => ?_⟩
        rw [merge_new (cntK ns (lcn f l (M + M) n)) [] (cntK_nd _ g.nd), List.nil_append]
        have sm6 := smU.trans (same_new (o := .dK (cntK ns (lcn f l (M + M) n))) nsd)
        have hc6 : CntAt (upd H5 sd (.dK (cntK ns (lcn f l (M + M) n)))) sd ns (lcn f l (M + M) n) := upd_same
        refine ⟨(by show 2 ≤ sizeLine; decide), fun t4 nt4 => ?_⟩
        have smt := same_new (o := .tup [.str (itn f M (itn f M n)), .ref sd]) nt4
        have sm7 := sm6.trans smt
        have hT2 := hPt.same sm7
        obtain ⟨kv7, hkr, hkl7⟩ := hT2.len
        have hsr : sd ≠ r := by
          obtain ⟨kv0, h0, _⟩ := hPt.same smU
          exact fun e => by rw [e, h0] at nsd; cases nsd
        refine ⟨_, rfl, _, rfl, r, _, rfl, DPut.k (k := Sum.inr n) hkr (small_lt (by omega)), ?_⟩
        refine ⟨⟨_, _, _, _, _, rfl⟩, fun b o e hb => ?_, PartAt.put g.nd hn hkr hT2 ?_ (hc6.same smt) hsr⟩
        · rw [upd_ne hb]
          exact sm7 _ _ (kp _ _ e hb)
        · rw [upd_same, itn_add]
    · obtain ⟨⟨u2, u3, u4, u5, u6, rfl⟩, kp, kv2, h1, h2, h3⟩ := hP
      have ht3 := kp _ _ htf hrt.symm
      rw [hkl, List.take_length] at h2 h3
      refine ⟨ht3, _, rfl, q _ r (fun b o e => ?_) nr ⟨kv2, by rw [upd_ne hrt]; exact h1, h2, fun n hn => ?_⟩⟩
      · by_cases hb : b = t
        · subst hb
          rw [upd_same, ← ht]
          exact e
        · rw [upd_ne hb]
          have hbr : b ≠ r := fun z => by rw [z, nr] at e; cases e
          refine kp _ _ ?_ hbr
          rw [← hHf, upd_ne hb, upd_ne hbr]
          exact e
      · obtain ⟨u, c, e1, e2, e3⟩ := h3 n hn
        refine ⟨u, c, e1, by rw [upd_ne (ne_of e2 ht3 (fun z => nomatch z))]; exact e2, ?_⟩
        unfold CntAt
        rw [upd_ne (ne_of (show H1 c = some (.dK _) from e3) ht3 (fun z => nomatch z))]
        exact e3
end
end K09
namespace K09
open PySem PySem.Spec PyProof.Rows L2 GL
section
variable {P : Program} {w : World} {K : PySem.W.Frag} {mg : Str → Option Value} {base : Heap}
def WAft (ns : List Str) (f l : Str → Str) (b : Str) (k : Nat) (H : Hp) (m : Nat) (σ : L2.St) (H1 : Hp) : Prop := ∃ (t q : Addr) (done left M : Nat) (u6 : Option V), m = left ∧ σ = [some (.ref t), some (.str b), some (.int (k : Nat)), some (.str (itn f done b)), some (.ref q), some (.int (left : Nat)), u6, none] ∧ Same H H1 ∧
  TabAt H1 t ns (itn f M) (lcn f l M) ∧ CntAt H1 q ns (lcn f l done b) ∧ done + left * M = k
theorem ok_l_after (T : Tx K mg) : FnOk P w K mg base CX0 2 T.a_l_after T.fd_l_after P_l_after spAfter := by
  refine T.F_l_after.ok sc_l_after (fun vs H Q E h => ?_) (fun cdv A outer s H vs Q E hr h => ?_)
  · obtain ⟨t, ns, f, l, b, k, rfl, _⟩ := h
    rfl
  · obtain ⟨t, ns, f, l, b, k, rfl, hT, g, hf, hb, q⟩ := h
    have hu := hu_of hr
    refine ⟨_, (pss_cons (ps_asg (pe_tup (pa_cons (pv 1) (pa_cons (pe_callTy (call_dictP rfl) (by rfl) T.m_dict (by decide +kernel) (pa_cons (pe_lock (pe_lc (own := [("_law_one", 7)]) (g := gName 7) (tt := tYes) rfl sc_l_after.nd (pi_keys (pv 0)) (blkOk_by (N := N_l_after) (sc := defScope s_l_after) (by decide +kernel)) (fun _ _ _ _ _ => pg_name (i := 7) sc_l_after.nd rfl (Or.inl rfl)) (fun _ _ _ _ _ => pts_nil) (fun _ _ _ _ _ => (pe_tup (pa_cons (pv 7) (pa_cons pe_int pa_nil)))))) pa_nil)) (pa_cons (pv 2) pa_nil)))) (pg_tup (by rfl) (pgs_cons (pg_name (i := 3) sc_l_after.nd rfl (.inl rfl)) (pgs_cons (pg_name (i := 4) sc_l_after.nd rfl (.inr rfl)) (pgs_cons (pg_name (i := 5) sc_l_after.nd rfl (.inl rfl)) pgs_nil)))))
      (pss_cons (ps_while PassesOwn.never (pt_cmpR op_gt (pv 5) pe_int (nomark _))
       (pss_cons (ps_if (pt_cmpR op_eq (pe_op op_mod (pv 5) pe_int) pe_int (nomark _))
         (pss_cons (ps_asg (pe_dget hu (pv 0) (pv 3) (fun _ _ => rfl)) (pg_tup (by rfl) (pgs_cons (pg_name (i := 3) sc_l_after.nd rfl (.inl rfl)) (pgs_cons (pg_name (i := 6) sc_l_after.nd rfl (.inr rfl)) pgs_nil))))
          (pss_one (ps_set (i := 4) sc_l_after.nd rfl (.inr rfl) (pe_callTy (call_dictP rfl) (by rfl) T.m_dict (by decide +kernel) (pa_cons (pe_lock (pe_lc (own := [("_law_one", 7)]) (g := gName 7) (tt := tYes) rfl sc_l_after.nd (pi_keys (pv 4)) (blkOk_by (N := N_l_after) (sc := defScope s_l_after) (by decide +kernel)) (fun _ _ _ _ _ => pg_name (i := 7) sc_l_after.nd rfl (Or.inl rfl)) (fun _ _ _ _ _ => pts_nil) (fun _ _ _ _ _ => (pe_tup (pa_cons (pv 7) (pa_cons (pe_op op_add (pe_dget hu (pv 4) (pv 7) (fun _ _ => rfl)) (pe_dget hu (pv 6) (pv 7) (fun _ _ => rfl))) pa_nil)))))) pa_nil)))))
         pss_nil)
        (pss_one (ps_par (i := 5) (j := 0) (by rfl) sc_l_after.nd rfl rfl (by decide) rfl rfl (pa_cons (pe_op op_fdivW (pv 5) pe_int) (pa_cons (pe_call (ok_l_twice T) (hr.mono (by decide)) (by rfl) T.g_l_twice T.F_l_twice.kp T.b_l_twice .nil pass0 (pa_cons (pv 0) pa_nil)) pa_nil)) (by rfl)))))
      (pss_one (ps_ret (pe_tup (pa_cons (pv 3) (pa_cons (pv 4) pa_nil))))))), ?_⟩
    have l12 := g.twelve
    have hT0 := hT
    obtain ⟨kvs, ht, hk, hv⟩ := hT
    have hkl : kvs.length = ns.length := by
      have := congrArg List.length hk
      rw [List.length_map, List.length_map] at this
      exact this
    refine ⟨_, rfl, t, _, ht, trivial, fun od => ⟨_, rfl, t, od, rfl, .inl ⟨_, upd_same, fun D nD => ?_⟩⟩⟩
    generalize hHc : upd H t (.frz od (.dK kvs)) = Hc at nD
    have hcf : Hc t = some (.frz od (.dK kvs)) := by rw [← hHc, upd_same]
    have hDc : D ≠ t := fun e => by rw [e, hcf] at nD; cases nD
    refine lc_it walk_keys (fun j H3 => Same Hc H3 ∧ ∃ (rs : List Addr), H3 D = some (.lst (rs.map V.ref)) ∧ Paired (fun p (kv : Key × V) => H3 p = some (.tup [kV kv.1, kv.2])) rs ((cntK ns (lcn f l 0 b)).take j) ∧ rs.length = j)
      ⟨same_new nD, [], upd_same, .nil, rfl⟩ (fun j H3 _ hP => hP.1 _ _ hcf) (fun j x H3 H4 hj hP hY => ?_) (fun H3 hP => ?_)
    · obtain ⟨sm3, rs, hD, hps, hpl⟩ := hP
      obtain ⟨rfl, k2, v2, hkv2, rfl⟩ := hY
      obtain ⟨y, hy, rfl⟩ : ∃ n, ns[j]? = some n ∧ k2 = Sum.inr n := by
        have e := congrArg (fun l => l[j]?) hk
        simp only [List.getElem?_map, hkv2, Option.map_some] at e
        obtain ⟨n, h1, h2⟩ := Option.map_eq_some_iff.mp e.symm
        exact ⟨n, h1, h2.symm⟩
      have hjl : j < ns.length := (List.getElem?_eq_some_iff.mp hy).1
      refine ⟨rfl, _, rfl, (by show 2 ≤ sizeLine; decide), fun t3 nt3 => ?_⟩
      have ntD : D ≠ t3 := ne_of_none hD nt3
      have hat : (cntK ns (lcn f l 0 b))[j]? = some (Sum.inr y, V.int 0) := by
        unfold cntK
        rw [List.getElem?_map, hy]
        rfl
      refine ⟨_, by rw [upd_ne ntD]; exact hD, by rw [List.length_map]; exact small_lt (by omega), (sm3.trans (same_new nt3)).own nD, rs ++ [t3], ?_, ?_, ?_⟩
      · rw [upd_same, List.map_append]
        rfl
      · rw [take_snoc hat]
        refine Paired.snoc (Paired.mapF (fun p kv e => ?_) hps) ?_
        · rw [upd_ne (ne_of e hD (fun z => nomatch z)), upd_ne (ne_of_none e nt3)]
          exact e
        · rw [upd_ne ntD.symm, upd_same]
      · rw [List.length_append, hpl]
        rfl
    obtain ⟨sm3, rs, hD, hps, hpl⟩ := hP
    rw [show kvs.length = (cntK ns (lcn f l 0 b)).length by rw [cntK, List.length_map, hkl], List.take_length] at hps
    have hc3 := sm3 _ _ hcf
    refine ⟨hc3, ?_⟩
    have smU : Same H (upd H3 t (.dK kvs)) := same_unlock (od := od) ht (hHc ▸ sm3)
    have hDU : (upd H3 t (.dK kvs)) D = some (.lst (rs.map V.ref)) := by rw [upd_ne hDc]; exact hD
    have hpU : Paired (fun p (kv : Key × V) => (upd H3 t (.dK kvs)) p = some (.tup [kV kv.1, kv.2])) rs (cntK ns (lcn f l 0 b)) := Paired.mapF (fun p kv e => by rw [upd_ne (ne_of e hc3 (fun z => nomatch z))]; exact e) hps
    generalize upd H3 t (.dK kvs) = H5 at smU hDU hpU ⊢
    refine ⟨D, rs, _, rfl, SqL.of hDU, Paired.mapF (fun p kv e => SqT.of e) hpU, fun sd nsd => ?_⟩
    rw [merge_new (cntK ns (lcn f l 0 b)) [] (cntK_nd _ g.nd), List.nil_append]
    have sm6 := smU.trans (same_new (o := .dK (cntK ns (lcn f l 0 b))) nsd)
    have hc6 : CntAt (upd H5 sd (.dK (cntK ns (lcn f l 0 b)))) sd ns (lcn f l 0 b) := upd_same
    refine ⟨_, rfl, (by show 3 ≤ sizeLine; decide), fun T3 nT3 => ?_⟩
    have smT := same_new (o := .tup [.str b, .ref sd, .int (k : Nat)]) nT3
    refine ⟨T3, _, rfl, SqT.of upd_same, rfl, _, _, rfl, _, _, rfl, _, _, rfl, rfl, ?_⟩
    have sm7 := sm6.trans smT
    have hT7 := hT0.same sm7
    have hc7 := hc6.same smT
    generalize upd (upd H5 sd (.dK (cntK ns (lcn f l 0 b)))) T3 (.tup [.str b, .ref sd, .int (k : Nat)]) = H7 at sm7 hT7 hc7 ⊢
    refine ⟨WAft ns f l b k H, ⟨k, t, sd, 0, k, 1, none, rfl, rfl, sm7, hT7, hc7, by rw [Nat.zero_add, Nat.mul_one]⟩, fun m σ H8 hW => ?_⟩
    obtain ⟨t', q', done, left, M, u6, rfl, rfl, sm8, hT8, hc8, hsum⟩ := hW
    refine ⟨_, rfl, _, _, rfl, rfl, _, rfl, ?_⟩
    by_cases h0 : m = 0
    · subst h0
      rw [Nat.zero_mul, Nat.add_zero] at hsum
      subst hsum
      rw [decide_eq_false (show ¬ ((0 : Nat) : Int) > 0 by omega)]
      refine iteF ⟨_, rfl, _, rfl, (by show 2 ≤ sizeLine; decide), fun r nr => ?_⟩
      exact q _ r q' (sm8.trans (same_new nr)) upd_same (hc8.same (same_new nr))
    · rw [decide_eq_true (show ((m : Nat) : Int) > 0 by omega)]
      refine iteT ⟨fun σ' H' => ∃ m', m' < m ∧ WAft ns f l b k H m' σ' H', fun _ _ h => h, ?_⟩
      refine ⟨_, rfl, _, _, rfl, rfl, (by show (0 : Int) < 2; decide), rfl, _, rfl, ?_⟩
      dsimp only
      refine ite2R (R := fun H4 (x : Nat × Addr × Option V) => tNext _ [some (.ref t'), some (.str b), some (.int (k : Nat)), some (.str (itn f x.1 b)), some (.ref x.2.1), some (.int (m : Nat)), x.2.2, none] H4) (fun H4 x => Same H8 H4 ∧ CntAt H4 x.2.1 ns (lcn f l x.1 b) ∧ x.1 + m / 2 * (M + M) = k) H8 (done, q', u6) (fun hc => ⟨Same.refl _, hc8, ?_⟩) (fun hc key => ?_) (fun H4 x hx => ?_)
      · have : m % 2 = 0 := by
          have h1 : ¬ (V.int ((m : Int) % 2) = V.int 1) := fun e => hc (decide_eq_true e)
          have h2 : ¬ ((m : Int) % 2 = 1) := fun e => h1 (by rw [e])
          omega
        show done + m / 2 * (M + M) = k
        rw [← hsum]
        congr 1
        rw [← Nat.two_mul, ← Nat.mul_assoc]
        congr 1
        omega
      · have hodd : m % 2 = 1 := by
          have h1 := of_decide_eq_true hc
          injection h1 with h1
          omega
        obtain ⟨kv8, t1, t2, t3⟩ := hT8
        obtain ⟨ta, ca, a1, a2, a3⟩ := t3 _ (itn_mem hf done hb)
        refine ⟨_, rfl, _, rfl, t', .ref ta, rfl, by rw [← a1]; exact DGet.k (k := Sum.inr (itn f done b)) t1, ta, _, rfl, SqT.of a2, rfl, _, _, rfl, _, _, rfl, rfl, ?_⟩
        refine ⟨q', _, hc8, trivial, fun oc => ⟨_, rfl, q', oc, rfl, .inl ⟨_, upd_same, fun D nD => ?_⟩⟩⟩
        generalize hHd : upd H8 q' (.frz oc (.dK (cntK ns (lcn f l done b)))) = Hd at nD
        have hcf : Hd q' = some (.frz oc (.dK (cntK ns (lcn f l done b)))) := by rw [← hHd, upd_same]
        have hbR : Rd Hd ca (.dK (cntK ns (lcn f l M (itn f done b)))) := by
          by_cases e : ca = q'
          · subst e
            have e2 : H8 ca = some (.dK (cntK ns (lcn f l done b))) := hc8
            have e3 : H8 ca = some (.dK (cntK ns (lcn f l M (itn f done b)))) := a3
            rw [e2] at e3
            injection e3 with e3
            rw [← e3]
            exact .inr ⟨oc, hcf⟩
          · refine .inl ?_
            rw [← hHd, upd_ne e]
            exact a3
        have rdS : ∀ {H3 : Hp} {p : Addr} {u : HO}, Same Hd H3 → Rd Hd p u → Rd H3 p u := fun {H3 p u} sm h => h.imp (sm _ _ ·) (fun ⟨o, e⟩ => ⟨o, sm _ _ e⟩)
        have hDc : D ≠ q' := fun e => by rw [e, hcf] at nD; cases nD
        refine lc_it walk_keys (fun j H3 => Same Hd H3 ∧ ∃ (rs : List Addr), H3 D = some (.lst (rs.map V.ref)) ∧ Paired (fun p (kv : Key × V) => H3 p = some (.tup [kV kv.1, kv.2])) rs ((cntK ns (lcn f l (done + M) b)).take j) ∧ rs.length = j)
          ⟨same_new nD, [], upd_same, .nil, rfl⟩ (fun j H3 _ hP => hP.1 _ _ hcf) (fun j x H3 H4 hj hP hY => ?_) (fun H3 hP => ?_)
        · obtain ⟨sm3, rs, hD, hps, hpl⟩ := hP
          obtain ⟨rfl, k2, v2, hkv2, rfl⟩ := hY
          obtain ⟨y, hy, rfl, rfl⟩ := cntK_get hkv2
          have hyn := List.mem_of_getElem? hy
          have hjl : j < ns.length := (List.getElem?_eq_some_iff.mp hy).1
          refine ⟨rfl, _, rfl, _, rfl, _, rfl, q', .int (lcn f l done b y : Nat), rfl, .inl ⟨_, Sum.inr y, .inr ⟨oc, sm3 _ _ hcf⟩, rfl, (cntK_val hyn).symm⟩, _, rfl, _, rfl, ca, .int (lcn f l M (itn f done b) y : Nat), rfl, .inl ⟨_, Sum.inr y, rdS sm3 hbR, rfl, (cntK_val hyn).symm⟩, _, _, rfl, rfl, (by show 2 ≤ sizeLine; decide), fun t3 nt3 => ?_⟩
          have hcv : V.int ((lcn f l done b y : Nat) + (lcn f l M (itn f done b) y : Nat) : Int) = V.int (lcn f l (done + M) b y : Nat) := by
            rw [lcn_add]
            rfl
          dsimp only
          rw [hcv]
          have ntD : D ≠ t3 := ne_of_none hD nt3
          have hat : (cntK ns (lcn f l (done + M) b))[j]? = some (Sum.inr y, V.int (lcn f l (done + M) b y : Nat)) := by
            unfold cntK
            rw [List.getElem?_map, hy]
            rfl
          refine ⟨_, by rw [upd_ne ntD]; exact hD, by rw [List.length_map]; exact small_lt (by omega), (sm3.trans (same_new nt3)).own nD, rs ++ [t3], ?_, ?_, ?_⟩
          · rw [upd_same, List.map_append]
            rfl
          · rw [take_snoc hat]
            refine Paired.snoc (Paired.mapF (fun p kv e => ?_) hps) ?_
            · rw [upd_ne (ne_of e hD (fun z => nomatch z)), upd_ne (ne_of_none e nt3)]
              exact e
            · rw [upd_ne ntD.symm, upd_same]
          · rw [List.length_append, hpl]
            rfl
        obtain ⟨sm3, rs, hD, hps, hpl⟩ := hP
        rw [show (cntK ns (lcn f l done b)).length = (cntK ns (lcn f l (done + M) b)).length by rw [cntK, cntK, List.length_map, List.length_map], List.take_length] at hps
        have hc3 := sm3 _ _ hcf
        refine ⟨hc3, ?_⟩
        have smU : Same H8 (upd H3 q' (.dK (cntK ns (lcn f l done b)))) := same_unlock (od := oc) hc8 (hHd ▸ sm3)
        have hDU : (upd H3 q' (.dK (cntK ns (lcn f l done b)))) D = some (.lst (rs.map V.ref)) := by rw [upd_ne hDc]; exact hD
        have hpU : Paired (fun p (kv : Key × V) => (upd H3 q' (.dK (cntK ns (lcn f l done b)))) p = some (.tup [kV kv.1, kv.2])) rs (cntK ns (lcn f l (done + M) b)) := Paired.mapF (fun p kv e => by rw [upd_ne (ne_of e hc3 (fun z => nomatch z))]; exact e) hps
        generalize upd H3 q' (.dK (cntK ns (lcn f l done b))) = H5 at smU hDU hpU ⊢
        refine ⟨D, rs, _, rfl, SqL.of hDU, Paired.mapF (fun p kv e => SqT.of e) hpU, fun sd nsd => ?_⟩
        rw [merge_new (cntK ns (lcn f l (done + M) b)) [] (cntK_nd _ g.nd), List.nil_append]
        have hx := key (upd H5 sd (.dK (cntK ns (lcn f l (done + M) b)))) (done + M, sd, some (.ref ca)) ⟨smU.trans (same_new nsd), upd_same, ?_⟩
        · rw [itn_add] at hx
          exact hx
        · show done + M + m / 2 * (M + M) = k
          rw [← hsum, Nat.add_assoc]
          congr 1
          rw [← Nat.two_mul, ← Nat.mul_assoc]
          have e : m = m / 2 * 2 + 1 := by omega
          conv => rhs; rw [e]
          rw [Nat.succ_mul, Nat.add_comm]
      · obtain ⟨done', q2, u6'⟩ := x
        obtain ⟨sm9, hc9, hs9⟩ := hx
        refine ⟨_, rfl, _, _, rfl, rfl, wide_div (b := 2) (by decide) (by decide) (by decide) (by decide), _, rfl, t', ns, f, l, M, rfl, hT8.same sm9, g, hf, fun HA r smA nr hTA => ⟨_, _, rfl, ?_⟩⟩
        exact ⟨m / 2, by omega, r, q2, done', m / 2, M + M, u6', rfl, rfl, (sm8.trans sm9).trans smA, hTA, hc9.same smA, hs9⟩
end
end K09
namespace K09
open PySem PySem.Spec PyProof.Rows L2 GL
section
variable {P : Program} {w : World} {K : PySem.W.Frag} {mg : Str → Option Value} {base : Heap}
theorem ok_check_count (T : Tx K mg) : FnOk P w K mg base CX0 2 T.a_check_count T.fd_check_count P_check_count spCheckCount := by
  refine T.F_check_count.ok sc_check_count (fun vs H Q E h => ?_) (fun cdv A outer s H vs Q E hr h => ?_)
  · obtain ⟨k, rfl, _⟩ := h
    rfl
  · obtain ⟨k, rfl, q⟩ := h
    refine ⟨_, (pss_one (ps_if (PW.pt (pw_or (pt_not (pt_val (pe_call (ok_is_number T) (hr.mono (by decide)) (by rfl) T.g_is_number T.F_is_number.kp T.b_is_number .nil pass0 (pa_cons (pv 0) pa_nil)))) (pw_or1 (pt_cmpR op_lt (pv 0) pe_int (nomark _)))))
       (pss_one ps_never)
       pss_nil)), ?_⟩
    refine ⟨_, rfl, _, rfl, true, rfl, ?_⟩
    exact ⟨_, rfl, _, _, rfl, rfl, false, congrArg V.bl (decide_eq_false (by omega)), q⟩
def WBeg (p r : Addr) (ns : List Str) (sl : Str → Int) (b : Str) (H : Hp) (m : Nat) (σ : L2.St) (H1 : Hp) : Prop := ∃ j : Nat, m = ns.length - j ∧ σ = [some (.ref p), some (.str b), some (.ref r), some (.str (itn (nextOf ns sl) (j + 1) b)), none] ∧ Same H H1 ∧
  H1 r = some (.lst ((rowOf (nextOf ns sl) b (j + 1)).map V.str)) ∧ (rowOf (nextOf ns sl) b (j + 1)).Nodup
theorem ok_begins (T : Tx K mg) : FnOk P w K mg base CX0 5 T.a_begins T.fd_begins P_begins (spBegins T.a_Ring) := by
  refine T.F_begins.ok sc_begins (fun vs H Q E h => ?_) (fun cdv A outer s H vs Q E hr h => ?_)
  · obtain ⟨p, ns, sl, b, rfl, _⟩ := h
    rfl
  · obtain ⟨p, ns, sl, b, rfl, R, hb, q⟩ := h
    refine ⟨_, (pss_cons (ps_set (i := 2) sc_begins.nd rfl (.inl rfl) (pe_lst (pa_cons (pv 1) pa_nil)))
      (pss_cons (ps_set (i := 3) sc_begins.nd rfl (.inl rfl) (pe_meth (pv 0) T.cl_Ring T.mt_Ring_next_of (ok_Ring_next_of T) (hr.mono (by decide)) T.b_Ring_next_of .nil pass0 (pa_cons (pv 1) pa_nil)))
      (pss_cons (ps_while PassesOwn.never (pt_cmpR op_notIn_seq (pv 3) (pv 2) (by rfl))
       (pss_cons (ps_expr (pe_bm PySem.F.plainAttrs_list PySem.F.slot_list_append PySem.F.type_list_append mt_append (pv 2) (pa_cons (pv 3) pa_nil)))
        (pss_one (ps_set (i := 3) sc_begins.nd rfl (.inl rfl) (pe_meth (pv 0) T.cl_Ring T.mt_Ring_next_of (ok_Ring_next_of T) (hr.mono (by decide)) T.b_Ring_next_of .nil pass0 (pa_cons (pv 3) pa_nil))))))
      (pss_cons (ps_set (i := 4) sc_begins.nd rfl (.inl rfl) (pe_bm PySem.F.plainAttrs_list PySem.F.slot_list_index PySem.F.type_list_index mt_index (pv 2) (pa_cons (pv 3) pa_nil)))
      (pss_one (ps_ret (pe_tup (pa_cons (pe_slice sl_list (pv 2) po_none (po_some (pv 4))) (pa_cons (pe_slice sl_list (pv 2) (po_some (pv 4)) po_none) pa_nil))))))))), ?_⟩
    have g := R.good
    have l12 := g.twelve
    have hfn : ∀ x ∈ ns, nextOf ns sl x ∈ ns := fun x hx => next_mem hx
    refine ⟨_, rfl, (by show 1 ≤ sizeLine; decide), fun r nr => ?_⟩
    have R1 := R.same (same_new (o := .lst [.str b]) nr)
    obtain ⟨dx, fs, hx, hfx⟩ := R1.noM (m := "next_of") (by decide +kernel) (by decide +kernel)
    refine ⟨_, rfl, p, dx, fs, rfl, hx, hfx, _, rfl, p, ns, sl, b, rfl, R1, hb, fun H2 sm2 => ?_⟩
    have hr2 : H2 r = some (.lst [.str b]) := sm2 _ _ upd_same
    have sm02 := (same_new (o := .lst [.str b]) nr).trans sm2
    refine ⟨WBeg p r ns sl b H, ⟨ns.length - 0, 0, rfl, rfl, sm02, hr2, List.nodup_cons.mpr ⟨List.not_mem_nil, List.nodup_nil⟩⟩, fun m σ H3 hW => ?_⟩
    obtain ⟨j, rfl, rfl, sm3, hr3, hnd⟩ := hW
    have hjn : j + 1 ≤ ns.length := by
      have := List.Nodup.length_le_of_subset hnd (fun x hx => by
        obtain ⟨i, _, rfl⟩ := row_mem hx
        exact itn_mem hfn i hb : ∀ x ∈ rowOf (nextOf ns sl) b (j + 1), x ∈ ns)
      rw [row_len] at this
      exact this
    refine ⟨_, rfl, _, rfl, r, _, rfl, .inl (SqL.of hr3), rfl, flat_strs _, _, rfl, ?_⟩
    show if (!inV (.str (itn (nextOf ns sl) (j + 1) b)) ((rowOf (nextOf ns sl) b (j + 1)).map V.str)) = true then _ else _
    rw [inV_strs]
    by_cases hin : itn (nextOf ns sl) (j + 1) b ∈ rowOf (nextOf ns sl) b (j + 1)
    · rw [decide_eq_true hin]
      generalize htn : (rowOf (nextOf ns sl) b (j + 1)).idxOf (itn (nextOf ns sl) (j + 1) b) = tn
      have hidx := idx_at hin
      have hil := idx_lt hin
      rw [htn] at hidx hil
      rw [row_len] at hil
      have hrow := row_at (f := nextOf ns sl) (b := b) hil
      have heq : itn (nextOf ns sl) (j + 1) b = itn (nextOf ns sl) tn b := Option.some.inj (hidx.symm.trans hrow)
      refine iteF ⟨_, rfl, .inl ⟨rfl, _, SqL.of hr3⟩, _, rfl, r, _, _, tn, .str (itn (nextOf ns sl) (j + 1) b), rfl, rfl, SqL.of hr3, rfl, flat_strs _, strs_at hidx, beq_self_eq_true _, fun m z hm hz => ?_, ?_⟩
      · obtain ⟨y, hy, rfl⟩ := of_strs_at hz
        refine beq_eq_false_iff_ne.mpr fun e => ?_
        rw [← htn] at hm
        exact idx_first hm (e ▸ hy)
      refine ⟨_, rfl, _, rfl, _, rfl, r, _, rfl, SqL.of hr3, fun l1 nl1 => ?_⟩
      rw [cut_take, ← List.map_take, row_take (by omega)]
      have sl1 := same_new (o := .lst ((rowOf (nextOf ns sl) b tn).map V.str)) nl1
      refine ⟨_, rfl, _, rfl, _, rfl, r, _, rfl, SqL.of (sl1 _ _ hr3), fun l2 nl2 => ?_⟩
      obtain ⟨c, hc⟩ : ∃ c, j + 1 = tn + c := ⟨j + 1 - tn, by omega⟩
      rw [cut_drop, ← List.map_drop, hc, row_drop]
      have sl2 := same_new (o := .lst ((rowOf (nextOf ns sl) (itn (nextOf ns sl) tn b) c).map V.str)) nl2
      refine ⟨(by show 2 ≤ sizeLine; decide), fun t nt => ?_⟩
      have slt := same_new (o := .tup [.ref l1, .ref l2]) nt
      refine q _ t l1 l2 tn c (((sm3.trans sl1).trans sl2).trans slt) upd_same (slt _ _ (sl2 _ _ upd_same)) (slt _ _ upd_same) (by omega) (by omega) ?_
      rw [← hc]
      exact heq
    · rw [decide_eq_false hin]
      refine iteT ⟨fun σ' H' => ∃ m', m' < ns.length - j ∧ WBeg p r ns sl b H m' σ' H', fun _ _ h => h, ?_⟩
      have nr0 : H r = none := nr
      refine ⟨_, rfl, .inl ⟨rfl, _, SqL.of hr3⟩, _, rfl, r, _, _, rfl, rfl, hr3, by rw [List.length_map, row_len]; exact small_lt (by omega), ?_⟩
      have smr : Same H (upd H3 r (.lst ((rowOf (nextOf ns sl) b (j + 1)).map V.str ++ [.str (itn (nextOf ns sl) (j + 1) b)]))) := sm3.own nr0
      have hrr : (upd H3 r (.lst ((rowOf (nextOf ns sl) b (j + 1)).map V.str ++ [.str (itn (nextOf ns sl) (j + 1) b)]))) r = some (.lst ((rowOf (nextOf ns sl) b (j + 1 + 1)).map V.str)) := by rw [upd_same, row_snoc (n := j + 1), List.map_append]; rfl
      generalize upd H3 r (.lst ((rowOf (nextOf ns sl) b (j + 1)).map V.str ++ [.str (itn (nextOf ns sl) (j + 1) b)])) = H4 at smr hrr ⊢
      have R4 := R.same smr
      obtain ⟨dx, fs, hx, hfx⟩ := R4.noM (m := "next_of") (by decide +kernel) (by decide +kernel)
      refine ⟨_, rfl, p, dx, fs, rfl, hx, hfx, _, rfl, p, ns, sl, _, rfl, R4, itn_mem hfn _ hb, fun H5 sm5 => ?_⟩
      refine ⟨ns.length - (j + 1), by omega, j + 1, rfl, ?_, smr.trans sm5, sm5 _ _ hrr, ?_⟩
      · rw [itn_succ (j + 1)]
        rfl
      · rw [row_snoc]
        exact snoc_nd hnd hin
theorem ok_begin_at (T : Tx K mg) : FnOk P w K mg base CX0 6 T.a_begin_at T.fd_begin_at P_begin_at (spBeginAt T.a_Ring) := by
  refine T.F_begin_at.ok sc_begin_at (fun vs H Q E h => ?_) (fun cdv A outer s H vs Q E hr h => ?_)
  · obtain ⟨p, ns, sl, b, k, rfl, _⟩ := h
    rfl
  · obtain ⟨p, ns, sl, b, k, rfl, R, hb, q⟩ := h
    refine ⟨_, (pss_cons (ps_asg (pe_call (ok_begins T) (hr.mono (by decide)) (by rfl) T.g_begins T.F_begins.kp T.b_begins .nil pass0 (pa_cons (pv 0) (pa_cons (pv 1) pa_nil))) (pg_tup (by rfl) (pgs_cons (pg_name (i := 3) sc_begin_at.nd rfl (.inl rfl)) (pgs_cons (pg_name (i := 4) sc_begin_at.nd rfl (.inl rfl)) pgs_nil))))
      (pss_cons (ps_expr (pe_call (ok_check_count T) (hr.mono (by decide)) (by rfl) T.g_check_count T.F_check_count.kp T.b_check_count .nil pass0 (pa_cons (pv 2) pa_nil)))
      (pss_cons (ps_if (pt_cmpR op_lt (pv 2) (pe_callB call_len_seq (by rfl) T.m_len (by decide +kernel) (pa_cons (pv 3) pa_nil)) (nomark _))
       (pss_one (ps_ret (pe_ix ix_list (pv 3) (pv 2) (fun _ _ => rfl))))
       pss_nil)
      (pss_one (ps_ret (pe_ix ix_list (pv 4) (pe_op op_mod (pe_op op_sub (pv 2) (pe_callB call_len_seq (by rfl) T.m_len (by decide +kernel) (pa_cons (pv 3) pa_nil))) (pe_callB call_len_seq (by rfl) T.m_len (by decide +kernel) (pa_cons (pv 4) pa_nil))) (fun _ _ => rfl))))))), ?_⟩
    refine ⟨_, rfl, _, rfl, p, ns, sl, b, rfl, R, hb, fun H1 t l1 l2 tn c sm1 ht hl1 hl2 hc0 htc hper => ?_⟩
    refine ⟨t, _, rfl, SqT.of ht, rfl, _, _, rfl, _, _, rfl, rfl, ?_⟩
    refine ⟨_, rfl, k, rfl, ?_⟩
    refine ⟨_, rfl, _, rfl, l1, _, rfl, .inl (SqL.of hl1), _, _, rfl, rfl, _, rfl, ?_⟩
    rw [List.length_map, row_len]
    refine ite2 (fun hlt => ?_) (fun hge => ?_)
    · have hlt : k < tn := by have := of_decide_eq_true hlt; omega
      exact ⟨_, rfl, _, rfl, l1, _, _, .str (itn (nextOf ns sl) k b), rfl, rfl, SqL.of hl1, atI_at rfl (strs_at (row_at hlt)), q _ sm1⟩
    · have hge : tn ≤ k := by have : ¬ ((k : Int) < (tn : Int)) := fun e => hge (decide_eq_true e); omega
      have hmod : (k - tn) % c < c := Nat.mod_lt _ hc0
      refine ⟨_, rfl, _, rfl, _, rfl, l1, _, rfl, .inl (SqL.of hl1), _, _, rfl, rfl, _, rfl, l2, _, rfl, .inl (SqL.of hl2), _, _, rfl, rfl, (by show (0 : Int) < (((rowOf (nextOf ns sl) (itn (nextOf ns sl) tn b) c).map V.str).length : Nat); rw [List.length_map, row_len]; omega), ?_⟩
      dsimp only
      rw [List.length_map, row_len, List.length_map, row_len]
      have e1 : ((k : Int) - (tn : Int)) % (c : Int) = (((k - tn) % c : Nat) : Int) := by
        rw [show (k : Int) - (tn : Int) = ((k - tn : Nat) : Int) by omega]
        rfl
      rw [e1]
      refine ⟨l2, _, _, .str (itn (nextOf ns sl) ((k - tn) % c) (itn (nextOf ns sl) tn b)), rfl, rfl, SqL.of hl2, atI_at rfl (strs_at (row_at hmod)), ?_⟩
      have := q _ sm1
      rw [itn_far hper hge hc0, itn_add] at this
      exact this
theorem ok_round_at (T : Tx K mg) : FnOk P w K mg base CX0 7 T.a_round_at T.fd_round_at P_round_at (spRoundAt T.a_Ring) := by
  refine T.F_round_at.ok sc_round_at (fun vs H Q E h => ?_) (fun cdv A outer s H vs Q E hr h => ?_)
  · obtain ⟨p, ns, sl, b, k, rfl, _⟩ := h
    rfl
  · obtain ⟨p, ns, sl, b, k, rfl, R, hb, q⟩ := h
    refine ⟨_, (pss_one (ps_ret (pe_meth (pv 0) T.cl_Ring T.mt_Ring_order (ok_Ring_order T) (hr.mono (by decide)) T.b_Ring_order .nil pass0 (pa_cons (pe_call (ok_begin_at T) (hr.mono (by decide)) (by rfl) T.g_begin_at T.F_begin_at.kp T.b_begin_at .nil pass0 (pa_cons (pv 0) (pa_cons (pv 1) (pa_cons (pv 2) pa_nil)))) pa_nil)))), ?_⟩
    obtain ⟨dx, fs, hx, hfx⟩ := R.noM (m := "order") (by decide +kernel) (by decide +kernel)
    refine ⟨_, rfl, p, dx, fs, rfl, hx, hfx, _, rfl, _, rfl, _, rfl, p, ns, sl, b, k, rfl, R, hb, fun H1 sm1 => ?_⟩
    exact ⟨p, ns, sl, _, rfl, R.same sm1, itn_mem (fun x hx => next_mem hx) k hb, fun H2 t sm2 nt ht => q _ t (sm1.trans sm2) ht⟩
theorem ok_lasts (T : Tx K mg) : FnOk P w K mg base CX0 6 T.a_lasts T.fd_lasts P_lasts (spLasts T.a_Ring) := by
  refine T.F_lasts.ok sc_lasts (fun vs H Q E h => ?_) (fun cdv A outer s H vs Q E hr h => ?_)
  · obtain ⟨p, ns, sl, b, k, rfl, _⟩ := h
    rfl
  · obtain ⟨p, ns, sl, b, k, rfl, R, hb, q⟩ := h
    have hu := hu_of hr
    refine ⟨_, (pss_cons (ps_asg (pe_call (ok_begins T) (hr.mono (by decide)) (by rfl) T.g_begins T.F_begins.kp T.b_begins .nil pass0 (pa_cons (pv 0) (pa_cons (pv 1) pa_nil))) (pg_tup (by rfl) (pgs_cons (pg_name (i := 3) sc_lasts.nd rfl (.inl rfl)) (pgs_cons (pg_name (i := 4) sc_lasts.nd rfl (.inl rfl)) pgs_nil))))
      (pss_cons (ps_expr (pe_call (ok_check_count T) (hr.mono (by decide)) (by rfl) T.g_check_count T.F_check_count.kp T.b_check_count .nil pass0 (pa_cons (pv 2) pa_nil)))
      (pss_cons (ps_setDc (i := 5) (own := [("name", 7)]) (g := gName 7) (tt := tYes) rfl sc_lasts.nd rfl rfl (swd_true rfl rfl rfl (by decide +kernel)) (pi_list (pe_meth0 (pv 0) T.cl_Ring T.mt_Ring_names (ok_Ring_names T) (hr.mono (by decide)) T.b_Ring_names .nil pass0)) (blkOk_by (N := N_lasts) (sc := defScope s_lasts) (by decide +kernel)) (fun _ _ _ _ _ => pg_name (i := 7) sc_lasts.nd rfl (Or.inl rfl)) (fun _ _ _ _ _ => pts_nil) (fun _ _ _ _ _ => (pv 7)) (fun _ _ _ _ _ => pe_int))
      (pss_cons (ps_for PassesOwn.never rfl (pi_enum (by rfl) T.m_enumerate (pa_cons (pv 3) pa_nil)) (pg_tup (by rfl) (pgs_cons (pg_name (i := 6) sc_lasts.nd rfl (.inl rfl)) (pgs_cons (pg_name (i := 7) sc_lasts.nd rfl (.inl rfl)) pgs_nil)))
       (pss_one (ps_if (pt_cmpR op_lt (pv 6) (pv 2) (nomark _))
         (pss_one (ps_daug hu (pv 5) (pe_ix ix_tup (pe_meth (pv 0) T.cl_Ring T.mt_Ring_order (ok_Ring_order T) (hr.mono (by decide)) T.b_Ring_order .nil pass0 (pa_cons (pv 7) pa_nil)) (pe_un un_neg pe_int) (fun _ _ => rfl)) pe_int in_add (fun _ _ _ => rfl)))
         pss_nil)))
      (pss_cons (ps_set (i := 8) sc_lasts.nd rfl (.inl rfl) (pe_callB (call_max2 rfl) (by rfl) T.m_max (by decide +kernel) (pa_cons pe_int (pa_cons (pe_op op_sub (pv 2) (pe_callB call_len_seq (by rfl) T.m_len (by decide +kernel) (pa_cons (pv 3) pa_nil))) pa_nil))))
      (pss_cons (ps_for PassesOwn.never rfl (pi_enum (by rfl) T.m_enumerate (pa_cons (pv 4) pa_nil)) (pg_tup (by rfl) (pgs_cons (pg_name (i := 6) sc_lasts.nd rfl (.inl rfl)) (pgs_cons (pg_name (i := 7) sc_lasts.nd rfl (.inl rfl)) pgs_nil)))
       (pss_one (ps_daug hu (pv 5) (pe_ix ix_tup (pe_meth (pv 0) T.cl_Ring T.mt_Ring_order (ok_Ring_order T) (hr.mono (by decide)) T.b_Ring_order .nil pass0 (pa_cons (pv 7) pa_nil)) (pe_un un_neg pe_int) (fun _ _ => rfl)) (pe_op op_add (pe_op op_fdivW (pv 8) (pe_callB call_len_seq (by rfl) T.m_len (by decide +kernel) (pa_cons (pv 4) pa_nil))) (pe_callTy call_int1 (by rfl) T.m_int (by decide +kernel) (pa_cons (pe_cmpR op_lt (pv 6) (pe_op op_mod (pv 8) (pe_callB call_len_seq (by rfl) T.m_len (by decide +kernel) (pa_cons (pv 4) pa_nil))) (nomark _)) pa_nil))) in_add (fun _ _ _ => rfl))))
      (pss_one (ps_ret (pv 5))))))))), ?_⟩
    have g := R.good
    have l12 := g.twelve
    have hfn : ∀ x ∈ ns, nextOf ns sl x ∈ ns := fun x hx => next_mem hx
    refine ⟨_, rfl, _, rfl, p, ns, sl, b, rfl, R, hb, fun H1 t l1 l2 tn c sm1 ht hl1 hl2 hc0 htc hper => ?_⟩
    refine ⟨t, _, rfl, SqT.of ht, rfl, _, _, rfl, _, _, rfl, rfl, ?_⟩
    refine ⟨_, rfl, k, rfl, ?_⟩
    have R1 := R.same sm1
    obtain ⟨dx, fs, hx, hfx⟩ := R1.noM (m := "names") (by decide +kernel) (by decide +kernel)
    refine ⟨_, rfl, p, dx, fs, rfl, hx, hfx, p, ns, sl, rfl, R1, fun H2 l sm2 nl hl => ?_⟩
    refine ⟨l, rfl, ⟨_, SqL.of hl⟩, fun d nd => ?_⟩
    refine dc_list (K := K) (a := l) (xs := ns.map V.str) (fun j H3 => Same H2 H3 ∧ H3 d = some (.dK (cntK (ns.take j) (fun _ => 0)))) ⟨same_new nd, upd_same⟩ (fun j H3 _ hP => SqL.of (hP.1 _ _ hl)) (fun j x H3 hxx hP => ?_) (fun H3 hP => ?_)
    · obtain ⟨sm3, hd⟩ := hP
      obtain ⟨y, hy, rfl⟩ := of_strs_at hxx
      have hj := (List.getElem?_eq_some_iff.mp hy).1
      refine ⟨rfl, _, rfl, _, Sum.inr y, rfl, hd, by rw [cntK, List.length_map, List.length_take]; exact small_lt (by omega), sm3.own nd, ?_⟩
      have hnew : (Sum.inr y : Key) ∉ (cntK (ns.take j) (fun _ => 0)).map (·.1) := fun hm => by
        rw [cntK_keys] at hm
        obtain ⟨z, hz, e⟩ := List.mem_map.mp hm
        obtain rfl : z = y := Sum.inr.inj e
        obtain ⟨i, hi, ei⟩ := List.mem_iff_getElem.mp hz
        rw [List.length_take] at hi
        rw [List.getElem_take] at ei
        obtain ⟨_, e2⟩ := List.getElem?_eq_some_iff.mp hy
        have := (List.getElem_inj g.nd).mp (ei.trans e2.symm)
        omega
      rw [upd_same, putK_new _ (valV_none hnew), take_snoc hy]
      unfold cntK
      rw [List.map_append]
      rfl
    obtain ⟨sm3, hd⟩ := hP
    rw [List.length_map, List.take_length] at hd
    have nd0 : H d = none := sm1.free (sm2.free nd)
    have hl12 := sm2 _ _ hl1
    have hl22 := sm2 _ _ hl2
    have R2 := R1.same sm2
    have hlm : ∀ x ∈ ns, lastOf ns sl x ∈ ns := fun x hx => last_mem hx
    refine ⟨_, rfl, l1, _, rfl, SqL.of (sm3 _ _ hl12), ?_⟩
    refine for_it (walk_enum (K := K) (a := l1) (xs := (rowOf (nextOf ns sl) b tn).map V.str)) (fun i σ H4 => (∃ u6 u7, σ = [some (.ref p), some (.str b), some (.int (k : Nat)), some (.ref l1), some (.ref l2), some (.ref d), u6, u7, none]) ∧ Same H2 H4 ∧ CntAt H4 d ns (lcn (nextOf ns sl) (lastOf ns sl) (min i k) b)) ⟨⟨none, none, rfl⟩, sm3, ?_⟩ (fun i σ H4 _ hP => SqL.of (hP.2.1 _ _ hl12)) (fun i x σ H4 H5 hi hP hY => ?_) (fun σ H4 hP => ?_)
    · rw [Nat.zero_min]
      exact hd
    · obtain ⟨⟨u6, u7, rfl⟩, sm4, hC⟩ := hP
      obtain ⟨T2, x1, x2, rfl, nT, rfl, h1, h2⟩ := hY
      obtain rfl : V.int (i : Nat) = x1 := Option.some.inj h1
      have hi2 : i < tn := by rw [List.length_map, row_len] at hi; exact hi
      obtain rfl : V.str (itn (nextOf ns sl) i b) = x2 := by
        have h3 : ((rowOf (nextOf ns sl) b tn).map V.str)[i]? = some x2 := h2
        rw [strs_at (row_at hi2)] at h3
        exact Option.some.inj h3
      have smT := same_new (o := .tup [.int (i : Nat), .str (itn (nextOf ns sl) i b)]) nT
      have sm5 := sm4.trans smT
      have hC5 := hC.same smT
      have hmem : itn (nextOf ns sl) i b ∈ ns := itn_mem hfn i hb
      refine ⟨T2, _, rfl, SqT.of upd_same, rfl, _, _, rfl, _, _, rfl, rfl, ?_⟩
      generalize upd H4 T2 (.tup [.int (i : Nat), .str (itn (nextOf ns sl) i b)]) = H5 at sm5 hC5 ⊢
      refine ⟨_, rfl, _, rfl, _, _, rfl, rfl, _, rfl, ite2 (fun hc => ?_) (fun hc => ?_)⟩
      · have hik : i < k := by have := of_decide_eq_true hc; omega
        have R5 := R2.same sm5
        obtain ⟨dx, fs, hx, hfx⟩ := R5.noM (m := "order") (by decide +kernel) (by decide +kernel)
        refine ⟨_, rfl, _, rfl, p, dx, fs, rfl, hx, hfx, _, rfl, p, ns, sl, _, rfl, R5, hmem, fun H6 t6 sm6 nt6 ht6 => ?_⟩
        have hC6 := hC5.same sm6
        have hd6 : H6 d = some (.dK (cntK ns (lcn (nextOf ns sl) (lastOf ns sl) (min i k) b))) := hC6
        refine ⟨1, rfl, t6, _, -1, .str (lastOf ns sl (itn (nextOf ns sl) i b)), rfl, rfl, SqT.of ht6, order_last ns sl _, d, .int (lcn (nextOf ns sl) (lastOf ns sl) (min i k) b (lastOf ns sl (itn (nextOf ns sl) i b)) : Nat), rfl, by rw [← cntK_val (c := lcn (nextOf ns sl) (lastOf ns sl) (min i k) b) (hlm _ hmem)]; exact DGet.k (k := Sum.inr _) hd6, _, _, rfl, rfl, _, DPut.k (k := Sum.inr (lastOf ns sl (itn (nextOf ns sl) i b))) hd6 (by rw [cntK, List.length_map]; exact small_lt (by omega)), ?_⟩
        refine ⟨⟨_, _, rfl⟩, (sm5.trans sm6).own nd, ?_⟩
        unfold CntAt
        rw [upd_same, show ((lcn (nextOf ns sl) (lastOf ns sl) (min i k) b (lastOf ns sl (itn (nextOf ns sl) i b)) : Nat) : Int) + 1 = ((lcn (nextOf ns sl) (lastOf ns sl) (min i k) b (lastOf ns sl (itn (nextOf ns sl) i b)) + 1 : Nat) : Int) from rfl, putK_cnt (hlm _ hmem)]
        congr 3
        funext y
        rw [Nat.min_eq_left (show i ≤ k by omega), Nat.min_eq_left (show i + 1 ≤ k by omega), lcn_succ]
        by_cases e : y = lastOf ns sl (itn (nextOf ns sl) i b)
        · rw [if_pos e, if_pos e.symm, e]
        · rw [if_neg e, if_neg (fun h => e h.symm), Nat.add_zero]
      · have hik : k ≤ i := by have : ¬ ((i : Int) < (k : Int)) := fun e => hc (decide_eq_true e); omega
        refine ⟨⟨_, _, rfl⟩, sm5, ?_⟩
        rw [Nat.min_eq_right (show k ≤ i + 1 by omega)]
        rw [Nat.min_eq_right hik] at hC5
        exact hC5
    · obtain ⟨⟨u6, u7, rfl⟩, sm4, hC⟩ := hP
      rw [List.length_map, row_len] at hC
      refine ⟨_, rfl, _, rfl, l1, _, rfl, .inl (SqL.of (sm4 _ _ hl12)), _, _, rfl, rfl, _, _, rfl, ?_⟩
      rw [List.length_map, row_len]
      have eL : (if (k : Int) - (tn : Int) > 0 then (k : Int) - (tn : Int) else 0) = ((k - tn : Nat) : Int) := by split <;> omega
      dsimp only
      rw [eL]
      generalize hle : k - tn = left
      have sm4' := sm4
      refine ⟨_, rfl, l2, _, rfl, SqL.of (sm4 _ _ hl22), ?_⟩
      refine for_it (walk_enum (K := K) (a := l2) (xs := (rowOf (nextOf ns sl) (itn (nextOf ns sl) tn b) c).map V.str)) (fun i σ H5 => (∃ u6 u7, σ = [some (.ref p), some (.str b), some (.int (k : Nat)), some (.ref l1), some (.ref l2), some (.ref d), u6, u7, some (.int (left : Nat))]) ∧ Same H2 H5 ∧ CntAt H5 d ns (fun y => lcn (nextOf ns sl) (lastOf ns sl) (min tn k) b y + part (nextOf ns sl) (lastOf ns sl) (left / c) (left % c) i (itn (nextOf ns sl) tn b) y)) ⟨⟨_, _, rfl⟩, sm4, ?_⟩ (fun i σ H5 _ hP => SqL.of (hP.2.1 _ _ hl22)) (fun i x σ H5 H6 hi hP hY => ?_) (fun σ H5 hP => ?_)
      · refine hC.congr fun y _ => ?_
        unfold GL.part
        rw [Nat.zero_min]
        show _ = _ + (left / c * 0 + 0)
        rw [Nat.mul_zero]
        rfl
      · obtain ⟨⟨u6, u7, rfl⟩, sm5, hC⟩ := hP
        obtain ⟨T2, x1, x2, rfl, nT, rfl, h1, h2⟩ := hY
        obtain rfl : V.int (i : Nat) = x1 := Option.some.inj h1
        have hi2 : i < c := by rw [List.length_map, row_len] at hi; exact hi
        obtain rfl : V.str (itn (nextOf ns sl) i (itn (nextOf ns sl) tn b)) = x2 := by
          have h3 : ((rowOf (nextOf ns sl) (itn (nextOf ns sl) tn b) c).map V.str)[i]? = some x2 := h2
          rw [strs_at (row_at hi2)] at h3
          exact Option.some.inj h3
        have smT := same_new (o := .tup [.int (i : Nat), .str (itn (nextOf ns sl) i (itn (nextOf ns sl) tn b))]) nT
        have sm6 := sm5.trans smT
        have hC6 := hC.same smT
        have hmem : itn (nextOf ns sl) i (itn (nextOf ns sl) tn b) ∈ ns := itn_mem hfn i (itn_mem hfn tn hb)
        refine ⟨T2, _, rfl, SqT.of upd_same, rfl, _, _, rfl, _, _, rfl, rfl, ?_⟩
        generalize upd H5 T2 (.tup [.int (i : Nat), .str (itn (nextOf ns sl) i (itn (nextOf ns sl) tn b))]) = H6 at sm6 hC6 ⊢
        have R6 := R2.same sm6
        obtain ⟨dx, fs, hx, hfx⟩ := R6.noM (m := "order") (by decide +kernel) (by decide +kernel)
        refine ⟨_, rfl, _, rfl, p, dx, fs, rfl, hx, hfx, _, rfl, p, ns, sl, _, rfl, R6, hmem, fun H7 t7 sm7 nt7 ht7 => ?_⟩
        generalize hcf : (fun y => lcn (nextOf ns sl) (lastOf ns sl) (min tn k) b y + part (nextOf ns sl) (lastOf ns sl) (left / c) (left % c) i (itn (nextOf ns sl) tn b) y) = cf at hC6
        have hd7 : H7 d = some (.dK (cntK ns cf)) := hC6.same sm7
        have hl27 := sm7 _ _ (sm6 _ _ hl22)
        have hcl : (0 : Int) < (((rowOf (nextOf ns sl) (itn (nextOf ns sl) tn b) c).map V.str).length : Nat) := by rw [List.length_map, row_len]; omega
        refine ⟨1, rfl, t7, _, -1, .str (lastOf ns sl (itn (nextOf ns sl) i (itn (nextOf ns sl) tn b))), rfl, rfl, SqT.of ht7, order_last ns sl _, d, .int (cf (lastOf ns sl (itn (nextOf ns sl) i (itn (nextOf ns sl) tn b))) : Nat), rfl, by rw [← cntK_val (c := cf) (hlm _ hmem)]; exact DGet.k (k := Sum.inr _) hd7, _, rfl, _, rfl, l2, _, rfl, .inl (SqL.of hl27), _, _, rfl, rfl, wide_div (b := 4) hcl (by rw [List.length_map, row_len]; show (c : Int).natAbs < 2 ^ 4; omega) (by decide) (by decide), ?_⟩
        refine ⟨_, rfl, _, rfl, _, rfl, l2, _, rfl, .inl (SqL.of hl27), _, _, rfl, rfl, hcl, _, _, rfl, rfl, .inr ⟨_, rfl, _, _, rfl, rfl, _, _, rfl, rfl, ?_⟩⟩
        rw [List.length_map, row_len]
        have ev : (cf (lastOf ns sl (itn (nextOf ns sl) i (itn (nextOf ns sl) tn b))) : Int) + ((left : Int) / (c : Int) + (if decide ((i : Int) < (left : Int) % (c : Int)) = true then 1 else 0)) = ((cf (lastOf ns sl (itn (nextOf ns sl) i (itn (nextOf ns sl) tn b))) + (left / c + (if i < left % c then 1 else 0)) : Nat) : Int) := by
          have e1 : ((i : Int) < (left : Int) % (c : Int)) ↔ i < left % c := by
            rw [show (left : Int) % (c : Int) = ((left % c : Nat) : Int) from rfl]
            omega
          by_cases h : i < left % c
          · rw [if_pos h, if_pos (decide_eq_true (e1.mpr h))]
            rfl
          · rw [if_neg h, if_neg (by rw [decide_eq_false (fun q => h (e1.mp q))]; exact Bool.false_ne_true)]
            rfl
        dsimp only
        rw [ev]
        refine ⟨_, DPut.k (k := Sum.inr (lastOf ns sl (itn (nextOf ns sl) i (itn (nextOf ns sl) tn b)))) hd7 (by rw [cntK, List.length_map]; exact small_lt (by omega)), ?_⟩
        refine ⟨⟨_, _, rfl⟩, (sm6.trans sm7).own nd, ?_⟩
        unfold CntAt
        rw [upd_same, putK_cnt (hlm _ hmem)]
        congr 3
        funext y
        rw [part_step, ← hcf]
        by_cases e : y = lastOf ns sl (itn (nextOf ns sl) i (itn (nextOf ns sl) tn b))
        · rw [if_pos e, if_pos e.symm, e, Nat.add_assoc]
        · rw [if_neg e, if_neg (fun h => e h.symm), Nat.add_zero]
      · obtain ⟨⟨u6, u7, rfl⟩, sm5, hC⟩ := hP
        rw [List.length_map, row_len] at hC
        refine ⟨_, rfl, q _ d (sm1.trans (sm2.trans sm5)) nd0 (hC.congr fun y _ => ?_)⟩
        by_cases hk : tn ≤ k
        · rw [Nat.min_eq_left hk, lcn_far hper hk hc0, hle]
        · have h0 : left = 0 := by omega
          rw [Nat.min_eq_right (by omega), h0]
          unfold GL.part
          rw [Nat.zero_div, Nat.zero_mul, Nat.zero_mod, Nat.min_zero, Nat.zero_add]
          rfl
end
end K09
namespace K09
open PySem PySem.Spec PyProof.Rows L2 GL
section
variable {P : Program} {w : World} {K : PySem.W.Frag} {mg : Str → Option Value} {base : Heap}
theorem ok_l_told_right (T : Tx K mg) : FnOk P w K mg base CX0 8 T.a_l_told_right T.fd_l_told_right P_l_told_right (spToldR T.a_Ring) := by
  refine T.F_l_told_right.ok sc_l_told_right (fun vs H Q E h => ?_) (fun cdv A outer s H vs Q E hr h => ?_)
  · obtain ⟨p, a, d, t, ns, sl, b, k, rfl, _⟩ := h
    rfl
  · obtain ⟨p, a, d, t, ns, sl, b, k, rfl, R, ha, hds, hT, hb, q⟩ := h
    have hu := hu_of hr
    refine ⟨_, (pss_cons (ps_asg (pe_call (ok_l_after T) (hr.mono (by decide)) (by rfl) T.g_l_after T.F_l_after.kp T.b_l_after .nil pass0 (pa_cons (pv 3) (pa_cons (pv 4) (pa_cons (pv 5) pa_nil)))) (pg_tup (by rfl) (pgs_cons (pg_name (i := 6) sc_l_told_right.nd rfl (.inl rfl)) (pgs_cons (pg_name (i := 7) sc_l_told_right.nd rfl (.inl rfl)) pgs_nil))))
      (pss_cons (ps_asg (pe_call (ok_l_played_round T) (hr.mono (by decide)) (by rfl) T.g_l_played_round T.F_l_played_round.kp T.b_l_played_round .nil pass0 (pa_cons (pv 1) (pa_cons (pv 2) (pa_cons (pv 6) pa_nil)))) (pg_tup (by rfl) (pgs_cons (pg_name (i := 8) sc_l_told_right.nd rfl (.inl rfl)) (pgs_cons (pg_name (i := 9) sc_l_told_right.nd rfl (.inl rfl)) pgs_nil))))
      (pss_cons (ps_if (PW.pt (pw_or (pt_cmpR op_ne (pe_call (ok_begin_at T) (hr.mono (by decide)) (by rfl) T.g_begin_at T.F_begin_at.kp T.b_begin_at .nil pass0 (pa_cons (pv 0) (pa_cons (pv 4) (pa_cons (pv 5) pa_nil)))) (pv 6) (nomark _)) (pw_or1 (pt_cmpR (op_neD hr.units) (pe_call (ok_round_at T) (hr.mono (by decide)) (by rfl) T.g_round_at T.F_round_at.kp T.b_round_at .nil pass0 (pa_cons (pv 0) (pa_cons (pv 4) (pa_cons (pv 5) pa_nil)))) (pv 8) (nomark _)))))
       (pss_one (ps_ret pe_bl))
       pss_nil)
      (pss_cons (ps_set (i := 10) sc_l_told_right.nd rfl (.inl rfl) (pe_call (ok_lasts T) (hr.mono (by decide)) (by rfl) T.g_lasts T.F_lasts.kp T.b_lasts .nil pass0 (pa_cons (pv 0) (pa_cons (pv 4) (pa_cons (pv 5) pa_nil)))))
      (pss_one (ps_ret (pe_and (pe_cmpR (op_eqD hr.units) (pe_listItems rfl T.m_list (pv 10)) (pe_listItems rfl T.m_list (pv 7)) (nomark _)) (pe_one (pe_cmpR op_eq (pe_callB (cr_sum rfl) (by rfl) T.m_sum (by decide +kernel) (pa_cons (pe_listVals rfl T.m_list (pv 10)) pa_nil)) (pv 5) (nomark _)))))))))), ?_⟩
    have g := R.good
    have l12 := g.twelve
    have hfn : ∀ x ∈ ns, nextOf ns sl x ∈ ns := fun x hx => next_mem hx
    have hln : ∀ x ∈ ns, lastOf ns sl x ∈ ns := fun x hx => last_mem hx
    refine ⟨_, rfl, _, rfl, _, rfl, t, ns, nextOf ns sl, lastOf ns sl, b, k, rfl, hT, g, hfn, hb, fun H1 r q0 sm1 hr1 hq1 => ?_⟩
    refine ⟨r, _, rfl, SqT.of hr1, rfl, _, _, rfl, _, _, rfl, rfl, ?_⟩
    refine ⟨_, rfl, _, rfl, _, rfl, a, d, ns, sl, _, rfl, sm1 _ _ ha, hds.same sm1, g, itn_mem hfn k hb, fun H2 t2 r2 sm2 nt2 nr2 ht2 hr2 => ?_⟩
    refine ⟨t2, _, rfl, SqT.of ht2, rfl, _, _, rfl, _, _, rfl, rfl, ?_⟩
    have sm12 := sm1.trans sm2
    refine ⟨_, rfl, _, rfl, _, rfl, p, ns, sl, b, k, rfl, R.same sm12, hb, fun H3 sm3 => ?_⟩
    refine ⟨_, rfl, rfl, _, rfl, ?_⟩
    rw [decide_eq_true rfl]
    refine iteF ?_
    have sm13 := sm12.trans sm3
    refine ⟨_, rfl, _, rfl, _, rfl, p, ns, sl, b, k, rfl, R.same sm13, hb, fun H4 t4 sm4 ht4 => ?_⟩
    have hstr := g.ostr (sl := sl) (itn_mem hfn k hb)
    refine ⟨_, rfl, _, _, dp_tup ht4, dp_tup (sm4 _ _ (sm3 _ _ hr2)), shaped_tup hstr, shaped_tup hstr, _, rfl, ?_⟩
    refine iteQ ((eqv_tups _ _).trans (decide_eq_true rfl)) ?_
    have sm14 := sm13.trans sm4
    refine ⟨_, rfl, _, rfl, _, rfl, p, ns, sl, b, k, rfl, R.same sm14, hb, fun H5 dd sm5 nd hc5 => ?_⟩
    have hq5 : CntAt H5 q0 ns (lcn (nextOf ns sl) (lastOf ns sl) k b) := (((hq1.same sm2).same sm3).same sm4).same sm5
    refine ⟨_, rfl, dd, _, rfl, .inl hc5, fun H6 la ta sm6 nla hla hpa => ?_⟩
    refine ⟨_, rfl, q0, _, rfl, .inl (hq5.same sm6), fun H7 lb tb sm7 nlb hlb hpb => ?_⟩
    refine ⟨_, _, .lst (SqL.of (sm7 _ _ hla)) (dp_cnt (Paired.mapF (fun t kv e => sm7 _ _ e) hpa)), .lst (SqL.of hlb) (dp_cnt hpb), cntD_shaped g.str, cntD_shaped g.str, _, rfl, ?_⟩
    rw [cntD_eqv]
    have hc7 := (hc5.same sm6).same sm7
    refine iteT ⟨_, rfl, dd, _, rfl, .inl hc7, fun lv nlv => ?_⟩
    have hvals : (cntK ns (lcn (nextOf ns sl) (lastOf ns sl) k b)).map (·.2) = (nz (ns.map fun y => lcn (nextOf ns sl) (lastOf ns sl) k b y)).map V.int := by
      unfold cntK nz
      rw [List.map_map, List.map_map, List.map_map]
      rfl
    rw [hvals]
    have hs : (nz (ns.map fun y => lcn (nextOf ns sl) (lastOf ns sl) k b y)).sum = (k : Int) := by rw [nz_sum, lcn_sum g.nd hfn hln k hb]
    refine ⟨lv, _, rfl, SqL.of upd_same, _, rfl, rfl, ?_⟩
    rw [hs, decide_eq_true rfl]
    exact q _ ((((sm14.trans sm5).trans sm6).trans sm7).trans (same_new nlv))
end
end K09
namespace K09
open PySem PySem.Spec PyProof.Rows L2 GL
section
variable {P : Program} {w : World} {K : PySem.W.Frag} {mg : Str → Option Value} {base : Heap}
theorem ok_law (T : Tx K mg) : FnOk P w K mg base CX0 9 T.a_law T.fd_law P_law (spLaw K) := by
  refine T.F_law.ok sc_law (fun vs H Q E h => ?_) (fun cdv A outer s H vs Q E hr h => ?_)
  · obtain ⟨a, ns, rfl, _⟩ := h
    rfl
  · obtain ⟨a, ns, rfl, ha, hl, q⟩ := h
    have hu := hu_of hr
    refine ⟨_, (pss_cons (ps_set (i := 1) sc_law.nd rfl (.inl rfl) (pe_call (ok_l_state T) (hr.mono (by decide)) (by rfl) T.g_l_state T.F_l_state.kp T.b_l_state .nil pass0 (pa_cons (pv 0) pa_nil)))
      (pss_cons (ps_for PassesOwn.never rfl (pi_range1 (by rfl) T.m_range (pa_cons pe_int pa_nil)) (pg_name (i := 2) sc_law.nd rfl (.inl rfl))
       (pss_cons (ps_set (i := 3) sc_law.nd rfl (.inl rfl) (pe_call (ok_l_labels T) (hr.mono (by decide)) (by rfl) T.g_l_labels T.F_l_labels.kp T.b_l_labels .nil pass0 (pa_cons (pv 1) (pa_cons (pe_ix ix_list (pe_lst (pa_cons pe_int (pa_cons pe_int (pa_cons (pe_op op_add pe_int (pe_call (ok_l_draw T) (hr.mono (by decide)) (by rfl) T.g_l_draw T.F_l_draw.kp T.b_l_draw .nil pass0 (pa_cons (pv 1) (pa_cons pe_int pa_nil)))) pa_nil)))) (pe_call (ok_l_draw T) (hr.mono (by decide)) (by rfl) T.g_l_draw T.F_l_draw.kp T.b_l_draw .nil pass0 (pa_cons (pv 1) (pa_cons pe_int pa_nil))) (fun _ _ => rfl)) pa_nil))))
        (pss_cons (ps_set (i := 4) sc_law.nd rfl (.inl rfl) (pe_call (ok_l_values T) (hr.mono (by decide)) (by rfl) T.g_l_values T.F_l_values.kp T.b_l_values .nil pass0 (pa_cons (pv 1) (pa_cons (pv 3) pa_nil))))
        (pss_cons (ps_par (i := 5) (j := 6) (by rfl) sc_law.nd rfl rfl (by decide) rfl rfl (pa_cons (pe_make T.M_Ring (ok_Ring_init T) (hr.mono (by decide)) rfl T.g_Ring T.b_Ring_init .nil pass0 (pa_cons (pv 3) (pa_cons (pv 4) pa_nil))) (pa_cons (pe_call (ok_l_once T) (hr.mono (by decide)) (by rfl) T.g_l_once T.F_l_once.kp T.b_l_once .nil pass0 (pa_cons (pv 3) (pa_cons (pv 4) pa_nil))) pa_nil)) (by rfl))
        (pss_cons (ps_par (i := 7) (j := 8) (by rfl) sc_law.nd rfl rfl (by decide) rfl rfl (pa_cons (pe_call (ok_l_pick T) (hr.mono (by decide)) (by rfl) T.g_l_pick T.F_l_pick.kp T.b_l_pick .nil pass0 (pa_cons (pv 1) (pa_cons (pv 3) pa_nil))) (pa_cons (pe_call (ok_l_great T) (hr.mono (by decide)) (by rfl) T.g_l_great T.F_l_great.kp T.b_l_great .nil pass0 (pa_cons (pv 1) (pa_cons (pe_op op_add pe_int (pe_call (ok_l_draw T) (hr.mono (by decide)) (by rfl) T.g_l_draw T.F_l_draw.kp T.b_l_draw .nil pass0 (pa_cons (pv 1) (pa_cons pe_int pa_nil)))) pa_nil))) pa_nil)) (by rfl))
        (pss_cons (ps_set (i := 9) sc_law.nd rfl (.inl rfl) (pe_call (ok_l_draw T) (hr.mono (by decide)) (by rfl) T.g_l_draw T.F_l_draw.kp T.b_l_draw .nil pass0 (pa_cons (pv 1) (pa_cons pe_int pa_nil))))
        (pss_cons (ps_for PassesOwn.never rfl (pi_list (pe_lst (pa_cons (pv 8) (pa_cons (pe_op op_add (pv 8) (pv 9)) (pa_cons (pv 9) pa_nil))))) (pg_name (i := 10) sc_law.nd rfl (.inl rfl))
         (pss_one (ps_if (pt_not (pt_val (pe_call (ok_l_told_right T) (hr.mono (by decide)) (by rfl) T.g_l_told_right T.F_l_told_right.kp T.b_l_told_right .nil pass0 (pa_cons (pv 5) (pa_cons (pv 3) (pa_cons (pv 4) (pa_cons (pv 6) (pa_cons (pv 7) (pa_cons (pv 10) pa_nil)))))))))
           (pss_one (ps_ret pe_bl))
           pss_nil)))
        (pss_cons (ps_asg (pe_tup (pa_cons (pe_call (ok_lasts T) (hr.mono (by decide)) (by rfl) T.g_lasts T.F_lasts.kp T.b_lasts .nil pass0 (pa_cons (pv 5) (pa_cons (pv 7) (pa_cons (pv 8) pa_nil)))) (pa_cons (pe_call (ok_lasts T) (hr.mono (by decide)) (by rfl) T.g_lasts T.F_lasts.kp T.b_lasts .nil pass0 (pa_cons (pv 5) (pa_cons (pe_call (ok_begin_at T) (hr.mono (by decide)) (by rfl) T.g_begin_at T.F_begin_at.kp T.b_begin_at .nil pass0 (pa_cons (pv 5) (pa_cons (pv 7) (pa_cons (pv 8) pa_nil)))) (pa_cons (pv 9) pa_nil)))) pa_nil))) (pg_tup (by rfl) (pgs_cons (pg_name (i := 11) sc_law.nd rfl (.inr rfl)) (pgs_cons (pg_name (i := 12) sc_law.nd rfl (.inr rfl)) pgs_nil))))
        (pss_one (ps_if (pt_cmpR (op_ne_dictA (Nat.lt_of_succ_lt hu)) (pe_call (ok_lasts T) (hr.mono (by decide)) (by rfl) T.g_lasts T.F_lasts.kp T.b_lasts .nil pass0 (pa_cons (pv 5) (pa_cons (pv 7) (pa_cons (pe_op op_add (pv 8) (pv 9)) pa_nil)))) (pe_callTy (call_dictP rfl) (by rfl) T.m_dict (by decide +kernel) (pa_cons (pe_lc (own := [("_law_label", 13)]) (g := gName 13) (tt := tYes) rfl sc_law.nd (pi_list (pv 3)) (blkOk_by (N := N_law) (sc := defScope s_law) (by decide +kernel)) (fun _ _ _ _ _ => pg_name (i := 13) sc_law.nd rfl (Or.inl rfl)) (fun _ _ _ _ _ => pts_nil) (fun _ _ _ _ _ => (pe_tup (pa_cons (pv 13) (pa_cons (pe_op op_add (pe_dget hu (pv 11) (pv 13) (fun _ _ => rfl)) (pe_dget hu (pv 12) (pv 13) (fun _ _ => rfl))) pa_nil))))) pa_nil)) (nomark _))
         (pss_one (ps_ret pe_bl))
         pss_nil))))))))))
      (pss_one (ps_ret pe_bl)))), ?_⟩
    refine ⟨_, rfl, a, ns, rfl, ha, hl, fun H1 S C sm1 nS nC st1 => ?_⟩
    refine ⟨_, rfl, by decide, by decide, ?_⟩
    refine for_range (lo := 0) (n := 2) (fun i σ H2 => (∃ u2 u3 u4 u5 u6 u7 u8 u9 u10 u11 u12, σ = [some (.ref a), some (.ref S), u2, u3, u4, u5, u6, u7, u8, u9, u10, u11, u12, none]) ∧ StOk H2 S C)
      ⟨⟨none, none, none, none, none, none, none, none, none, none, none, rfl⟩, st1⟩ (fun i σ H2 hi hP => ?_) (fun σ H2 hP => q H2)
    obtain ⟨⟨u2, u3, u4, u5, u6, u7, u8, u9, u10, u11, u12, rfl⟩, st2⟩ := hP
    refine ⟨_, rfl, _, rfl, S, C, _, rfl, by decide, by decide, st2, fun H3 d m3 st3 d0 d1 => ?_⟩
    refine ⟨_, _, rfl, rfl, (by show 3 ≤ sizeLine; decide), fun p4 np4 => ?_⟩
    have st3' := st3.same (same_new (o := .lst [.int 2, .int 12, .int (2 + d)]) np4)
    refine ⟨_, rfl, S, C, _, rfl, by decide, by decide, st3', fun H4 e m4 st4 e0 e1 => ?_⟩
    have hp4 : H4 p4 = some (.lst [.int 2, .int 12, .int (2 + d)]) := m4 _ _ upd_same (st3.neS np4) (st3.neC np4)
    obtain ⟨m, hm2, hm12, hget⟩ : ∃ m : Int, 2 ≤ m ∧ m ≤ 12 ∧ atI [V.int 2, V.int 12, V.int (2 + d)] e = some (.int m) := by
      rcases (show e = 0 ∨ e = 1 ∨ e = 2 by omega) with rfl | rfl | rfl
      · exact ⟨2, by omega, by omega, rfl⟩
      · exact ⟨12, by omega, by omega, rfl⟩
      · exact ⟨2 + d, by omega, by omega, rfl⟩
    refine ⟨p4, _, _, _, rfl, rfl, SqL.of hp4, hget, S, C, m, rfl, by omega, by omega, st4, fun H5 p ys m5 st5 np hp hlen hnd hok => ?_⟩
    have g : GoodNs ys := ⟨by omega, by omega, hnd, hok⟩
    have l12 := g.twelve
    have l2 := g.two
    clear hget hp4 hlen hm2 hm12
    refine ⟨_, rfl, _, rfl, S, C, p, ys, rfl, st5, hp, by omega, hnd, fun H6 sd sl m6 st6 nsd hsl => ?_⟩
    have hp6 := m6.strs st5 hp
    refine ⟨_, rfl, _, rfl, fun x dx nx ndx nxd => ?_⟩
    have sm6 : Same H6 (upd (upd H6 dx (.own x)) x (.ins T.a_Ring dx [])) := fun b o e => by
      rw [upd_ne (ne_of_none e nx), upd_ne (ne_of_none e ndx)]
      exact e
    refine ⟨x, dx, p, sd, ys, sl, rfl, upd_same, sm6 _ _ hp6, hsl.same sm6, g, fun H7 kp R7 => ⟨rfl, ?_⟩⟩
    have sm67 : Same H6 H7 := fun b o e => kp b o (sm6 _ _ e) (ne_of_none e nx)
    have hp7 := sm67 _ _ hp6
    have hsl7 := hsl.same sm67
    have st7 := st6.same sm67
    clear kp sm6 hsl hp6 hp nx ndx
    refine ⟨_, rfl, _, rfl, p, sd, ys, sl, rfl, hp7, hsl7, g, fun H8 r sm8 nr hT8 => ⟨_, _, rfl, ?_⟩⟩
    have hp8 := sm8 _ _ hp7
    have hsl8 := hsl7.same sm8
    have st8 := st7.same sm8
    have R8 := R7.same sm8
    have off := st8.offS hp8
    refine ⟨_, rfl, _, rfl, S, C, _, rfl, st8, .inl ⟨p, _, rfl, off.1, off.2, hp8, by rw [List.length_map]; omega, by rw [List.length_map]; omega, fun H9 v m9 st9 hv => ?_⟩⟩
    obtain ⟨b, hb, rfl⟩ : ∃ n, n ∈ ys ∧ v = .str n := by
      obtain ⟨n, hn, e⟩ := List.mem_map.mp hv
      exact ⟨n, hn, e.symm⟩
    clear hv
    refine ⟨_, rfl, _, rfl, S, C, _, rfl, by decide, by decide, st9, fun HA e m10 st10 e0 e1 => ?_⟩
    refine ⟨_, _, rfl, rfl, S, C, _, rfl, by omega, by omega, st10, fun HB z m11 st11 z0 z1 => ⟨_, _, rfl, ?_⟩⟩
    obtain ⟨k, rfl⟩ := Int.eq_ofNat_of_zero_le z0
    refine ⟨_, rfl, S, C, _, rfl, by decide, by decide, st11, fun HC y m12 st12 y0 y1 => ?_⟩
    obtain ⟨mo, rfl⟩ := Int.eq_ofNat_of_zero_le y0
    have mm := ((m9.trans m10).trans m11).trans m12
    have hpC := mm.strs st8 hp8
    have hslC := hsl8.mod mm st8
    have RC := R8.mod mm st8
    have hTC := hT8.mod mm st8
    clear hp8 hsl8 R8 hT8 hp7 hsl7 R7 mm m9 m10 m11 m12 st9 st10 st11 off
    refine ⟨_, rfl, _, rfl, _, rfl, _, _, rfl, rfl, _, rfl, (by show 3 ≤ sizeLine; decide), fun pl npl => ?_⟩
    have spl := same_new (o := .lst [.int (k : Nat), .int ((k : Int) + (mo : Int)), .int (mo : Nat)]) npl
    refine ⟨pl, rfl, ⟨_, SqL.of upd_same⟩, for_list (K := K) (a := pl) (xs := [V.int (k : Nat), V.int ((k : Int) + (mo : Int)), V.int (mo : Nat)]) (fun j σ HD => (∃ u10, σ = [some (.ref a), some (.ref S), some (.int (0 + (i : Nat))), some (.ref p), some (.ref sd), some (.ref x), some (.ref r), some (.str b), some (.int (k : Nat)), some (.int (mo : Nat)), u10, u11, u12, none]) ∧ Same HC HD ∧ HD pl = some (.lst [.int (k : Nat), .int ((k : Int) + (mo : Int)), .int (mo : Nat)]))
      ⟨⟨u10, rfl⟩, spl, upd_same⟩ (fun j σ HD _ hP => SqL.of hP.2.2) (fun j v σ HD hv hP => ?_) (fun σ HD hP => ?_)⟩
    · obtain ⟨⟨w10, rfl⟩, smD, hpl⟩ := hP
      obtain ⟨n, rfl⟩ : ∃ n : Nat, v = V.int (n : Nat) := by
        rcases j with _ | _ | _ | j
        · exact ⟨k, (Option.some.inj hv).symm⟩
        · exact ⟨k + mo, (Option.some.inj hv).symm⟩
        · exact ⟨mo, (Option.some.inj hv).symm⟩
        · cases hv
      refine ⟨_, rfl, _, rfl, _, rfl, _, rfl, _, rfl, _, rfl, x, p, sd, r, ys, sl, b, n, rfl, RC.same smD, smD _ _ hpC, hslC.same smD, hTC.same smD, hb, fun HE smE => ⟨true, rfl, ?_⟩⟩
      exact ⟨⟨_, rfl⟩, smD.trans smE, smE _ _ hpl⟩
    · obtain ⟨⟨w10, rfl⟩, smD, hpl⟩ := hP
      have RD := RC.same smD
      have hpD := smD _ _ hpC
      have stD := st12.same smD
      have hkm : itn (nextOf ys sl) k b ∈ ys := itn_mem (fun x hx => next_mem hx) k hb
      refine ⟨_, rfl, _, rfl, _, rfl, x, ys, sl, b, k, rfl, RD, hb, fun HE d1 smE nd1 hc1 => ?_⟩
      refine ⟨_, rfl, _, rfl, _, rfl, _, rfl, x, ys, sl, b, k, rfl, RD.same smE, hb, fun HF smF => ?_⟩
      refine ⟨_, rfl, x, ys, sl, _, mo, rfl, (RD.same smE).same smF, hkm, fun HG d2 smG nd2 hc2 => ?_⟩
      refine ⟨(by show 2 ≤ sizeLine; decide), fun T2 nT2 => ?_⟩
      have smT := same_new (o := .tup [.ref d1, .ref d2]) nT2
      refine ⟨T2, _, rfl, SqT.of upd_same, rfl, _, _, rfl, _, _, rfl, rfl, ?_⟩
      have smDT := ((smE.trans smF).trans smG).trans smT
      have hc1T := ((hc1.same smF).same smG).same smT
      have hc2T := hc2.same smT
      generalize upd HG T2 (.tup [.ref d1, .ref d2]) = HH at smDT hc1T hc2T ⊢
      refine ⟨_, rfl, _, rfl, _, rfl, _, rfl, _, _, rfl, rfl, x, ys, sl, b, k + mo, rfl, RD.same smDT, hb, fun HI d3 smI nd3 hc3 => ?_⟩
      have hpI := smI _ _ (smDT _ _ hpD)
      have h1I : HI d1 = some (.dK (cntK ys (lcn (nextOf ys sl) (lastOf ys sl) k b))) := hc1T.same smI
      have h2I : HI d2 = some (.dK (cntK ys (lcn (nextOf ys sl) (lastOf ys sl) mo (itn (nextOf ys sl) k b)))) := hc2T.same smI
      refine ⟨_, rfl, p, rfl, ⟨_, SqL.of hpI⟩, fun D nD => ?_⟩
      refine lc_list (K := K) (a := p) (xs := ys.map V.str) (fun j HJ => Same HI HJ ∧ ∃ (rs : List Addr), HJ D = some (.lst (rs.map V.ref)) ∧ Paired (fun p (kv : Key × V) => HJ p = some (.tup [kV kv.1, kv.2])) rs ((cntK ys (lcn (nextOf ys sl) (lastOf ys sl) (k + mo) b)).take j) ∧ rs.length = j)
        ⟨same_new nD, [], upd_same, .nil, rfl⟩ (fun j HJ _ hP => SqL.of (hP.1 _ _ hpI)) (fun j v HJ hv hP => ?_) (fun HJ hP => ?_)
      · obtain ⟨smJ, rs, hD, hps, hpl⟩ := hP
        obtain ⟨z, hz, rfl⟩ := of_strs_at hv
        have hzn := List.mem_of_getElem? hz
        have hjl := (List.getElem?_eq_some_iff.mp hz).1
        refine ⟨rfl, _, rfl, _, rfl, _, rfl, d1, .int (lcn (nextOf ys sl) (lastOf ys sl) k b z : Nat), rfl, by rw [← cntK_val hzn]; exact DGet.k (k := Sum.inr z) (smJ _ _ h1I), _, rfl, _, rfl, d2, .int (lcn (nextOf ys sl) (lastOf ys sl) mo (itn (nextOf ys sl) k b) z : Nat), rfl, by rw [← cntK_val hzn]; exact DGet.k (k := Sum.inr z) (smJ _ _ h2I), _, _, rfl, rfl, (by show 2 ≤ sizeLine; decide), fun t3 nt3 => ?_⟩
        have hcv : V.int ((lcn (nextOf ys sl) (lastOf ys sl) k b z : Nat) + (lcn (nextOf ys sl) (lastOf ys sl) mo (itn (nextOf ys sl) k b) z : Nat) : Int) = V.int (lcn (nextOf ys sl) (lastOf ys sl) (k + mo) b z : Nat) := by
          rw [lcn_add]
          rfl
        dsimp only
        rw [hcv]
        have ntD : D ≠ t3 := ne_of_none hD nt3
        have hat : (cntK ys (lcn (nextOf ys sl) (lastOf ys sl) (k + mo) b))[j]? = some (Sum.inr z, V.int (lcn (nextOf ys sl) (lastOf ys sl) (k + mo) b z : Nat)) := by
          unfold cntK
          rw [List.getElem?_map, hz]
          rfl
        refine ⟨_, by rw [upd_ne ntD]; exact hD, by rw [List.length_map]; exact small_lt (by omega), (smJ.trans (same_new nt3)).own nD, rs ++ [t3], ?_, ?_, ?_⟩
        · rw [upd_same, List.map_append]
          rfl
        · rw [take_snoc hat]
          refine Paired.snoc (Paired.mapF (fun p kv e => ?_) hps) ?_
          · rw [upd_ne (ne_of e hD (fun z => nomatch z)), upd_ne (ne_of_none e nt3)]
            exact e
          · rw [upd_ne ntD.symm, upd_same]
            rfl
        · rw [List.length_append, hpl]
          rfl
      · obtain ⟨smJ, rs, hD, hps, hpl⟩ := hP
        rw [List.length_map, show ys.length = (cntK ys (lcn (nextOf ys sl) (lastOf ys sl) (k + mo) b)).length by rw [cntK, List.length_map], List.take_length] at hps
        refine ⟨D, rs, _, rfl, SqL.of hD, Paired.mapF (fun p kv e => SqT.of e) hps, fun d4 nd4 => ?_⟩
        rw [merge_new (cntK ys (lcn (nextOf ys sl) (lastOf ys sl) (k + mo) b)) [] (cntK_nd _ g.nd), List.nil_append]
        have smK := smJ.trans (same_new (o := .dK (cntK ys (lcn (nextOf ys sl) (lastOf ys sl) (k + mo) b))) nd4)
        refine ⟨d3, d4, _, _, rfl, rfl, hc3.same smK, upd_same, rfl, fun kv hkv => ?_, _, rfl, ?_⟩
        · obtain ⟨z, hz, rfl⟩ := List.mem_map.mp hkv
          exact ⟨cntK_val hz, rfl⟩
        · refine iteF ?_
          exact ⟨⟨_, _, _, _, _, _, _, _, _, _, _, rfl⟩, ((stD.same smDT).same smI).same smK⟩
end
end K09
namespace K09
open PySem PySem.Spec PyProof.Rows L2 GL
theorem all_mk {l : PySem.W.OpenLaw} {w : World} {K : PySem.W.Frag} {h : Heap} {mg : Str → Option Value} {fa : Addr}
    {c_Ring : Addr}
    {f_is_number : Addr} {od_is_number an_is_number : Option Addr} {sl_is_number : Array (Option Value)} {oc_is_number kV_is_number dc_is_number pm_is_number cd_is_number ct_is_number : Value}
    {f_is_name : Addr} {od_is_name an_is_name : Option Addr} {sl_is_name : Array (Option Value)} {oc_is_name kV_is_name dc_is_name pm_is_name cd_is_name ct_is_name : Value}
    {f_is_names : Addr} {od_is_names an_is_names : Option Addr} {sl_is_names : Array (Option Value)} {oc_is_names kV_is_names dc_is_names pm_is_names cd_is_names ct_is_names : Value}
    {f_check_names : Addr} {od_check_names an_check_names : Option Addr} {sl_check_names : Array (Option Value)} {oc_check_names kV_check_names dc_check_names pm_check_names cd_check_names ct_check_names : Value}
    {f_check_name : Addr} {od_check_name an_check_name : Option Addr} {sl_check_name : Array (Option Value)} {oc_check_name kV_check_name dc_check_name pm_check_name cd_check_name ct_check_name : Value}
    {f_is_slips : Addr} {od_is_slips an_is_slips : Option Addr} {sl_is_slips : Array (Option Value)} {oc_is_slips kV_is_slips dc_is_slips pm_is_slips cd_is_slips ct_is_slips : Value}
    {f_listed_behind : Addr} {od_listed_behind an_listed_behind : Option Addr} {sl_listed_behind : Array (Option Value)} {oc_listed_behind kV_listed_behind dc_listed_behind pm_listed_behind cd_listed_behind ct_listed_behind : Value}
    {f_who_sit : Addr} {od_who_sit an_who_sit : Option Addr} {sl_who_sit : Array (Option Value)} {oc_who_sit kV_who_sit dc_who_sit pm_who_sit cd_who_sit ct_who_sit : Value}
    {f_begins : Addr} {od_begins an_begins : Option Addr} {sl_begins : Array (Option Value)} {oc_begins kV_begins dc_begins pm_begins cd_begins ct_begins : Value}
    {f_begin_at : Addr} {od_begin_at an_begin_at : Option Addr} {sl_begin_at : Array (Option Value)} {oc_begin_at kV_begin_at dc_begin_at pm_begin_at cd_begin_at ct_begin_at : Value}
    {f_round_at : Addr} {od_round_at an_round_at : Option Addr} {sl_round_at : Array (Option Value)} {oc_round_at kV_round_at dc_round_at pm_round_at cd_round_at ct_round_at : Value}
    {f_lasts : Addr} {od_lasts an_lasts : Option Addr} {sl_lasts : Array (Option Value)} {oc_lasts kV_lasts dc_lasts pm_lasts cd_lasts ct_lasts : Value}
    {f_check_count : Addr} {od_check_count an_check_count : Option Addr} {sl_check_count : Array (Option Value)} {oc_check_count kV_check_count dc_check_count pm_check_count cd_check_count ct_check_count : Value}
    {f_l_state : Addr} {od_l_state an_l_state : Option Addr} {sl_l_state : Array (Option Value)} {oc_l_state kV_l_state dc_l_state pm_l_state cd_l_state ct_l_state : Value}
    {f_l_draw : Addr} {od_l_draw an_l_draw : Option Addr} {sl_l_draw : Array (Option Value)} {oc_l_draw kV_l_draw dc_l_draw pm_l_draw cd_l_draw ct_l_draw : Value}
    {f_l_pick : Addr} {od_l_pick an_l_pick : Option Addr} {sl_l_pick : Array (Option Value)} {oc_l_pick kV_l_pick dc_l_pick pm_l_pick cd_l_pick ct_l_pick : Value}
    {f_l_great : Addr} {od_l_great an_l_great : Option Addr} {sl_l_great : Array (Option Value)} {oc_l_great kV_l_great dc_l_great pm_l_great cd_l_great ct_l_great : Value}
    {f_l_labels : Addr} {od_l_labels an_l_labels : Option Addr} {sl_l_labels : Array (Option Value)} {oc_l_labels kV_l_labels dc_l_labels pm_l_labels cd_l_labels ct_l_labels : Value}
    {f_l_values : Addr} {od_l_values an_l_values : Option Addr} {sl_l_values : Array (Option Value)} {oc_l_values kV_l_values dc_l_values pm_l_values cd_l_values ct_l_values : Value}
    {f_l_advanced : Addr} {od_l_advanced an_l_advanced : Option Addr} {sl_l_advanced : Array (Option Value)} {oc_l_advanced kV_l_advanced dc_l_advanced pm_l_advanced cd_l_advanced ct_l_advanced : Value}
    {f_l_played_round : Addr} {od_l_played_round an_l_played_round : Option Addr} {sl_l_played_round : Array (Option Value)} {oc_l_played_round kV_l_played_round dc_l_played_round pm_l_played_round cd_l_played_round ct_l_played_round : Value}
    {f_l_once : Addr} {od_l_once an_l_once : Option Addr} {sl_l_once : Array (Option Value)} {oc_l_once kV_l_once dc_l_once pm_l_once cd_l_once ct_l_once : Value}
    {f_l_twice : Addr} {od_l_twice an_l_twice : Option Addr} {sl_l_twice : Array (Option Value)} {oc_l_twice kV_l_twice dc_l_twice pm_l_twice cd_l_twice ct_l_twice : Value}
    {f_l_after : Addr} {od_l_after an_l_after : Option Addr} {sl_l_after : Array (Option Value)} {oc_l_after kV_l_after dc_l_after pm_l_after cd_l_after ct_l_after : Value}
    {f_l_told_right : Addr} {od_l_told_right an_l_told_right : Option Addr} {sl_l_told_right : Array (Option Value)} {oc_l_told_right kV_l_told_right dc_l_told_right pm_l_told_right cd_l_told_right ct_l_told_right : Value}
    {f_law : Addr} {od_law an_law : Option Addr} {sl_law : Array (Option Value)} {oc_law kV_law dc_law pm_law cd_law ct_law : Value}
    {f_Ring_init : Addr} {od_Ring_init an_Ring_init : Option Addr} {sl_Ring_init : Array (Option Value)} {oc_Ring_init kV_Ring_init dc_Ring_init pm_Ring_init cd_Ring_init ct_Ring_init : Value}
    {f_Ring_names : Addr} {od_Ring_names an_Ring_names : Option Addr} {sl_Ring_names : Array (Option Value)} {oc_Ring_names kV_Ring_names dc_Ring_names pm_Ring_names cd_Ring_names ct_Ring_names : Value}
    {f_Ring_order : Addr} {od_Ring_order an_Ring_order : Option Addr} {sl_Ring_order : Array (Option Value)} {oc_Ring_order kV_Ring_order dc_Ring_order pm_Ring_order cd_Ring_order ct_Ring_order : Value}
    {f_Ring_next_of : Addr} {od_Ring_next_of an_Ring_next_of : Option Addr} {sl_Ring_next_of : Array (Option Value)} {oc_Ring_next_of kV_Ring_next_of dc_Ring_next_of pm_Ring_next_of cd_Ring_next_of ct_Ring_next_of : Value}
    {f_Ring_counted_on : Addr} {od_Ring_counted_on an_Ring_counted_on : Option Addr} {sl_Ring_counted_on : Array (Option Value)} {oc_Ring_counted_on kV_Ring_counted_on dc_Ring_counted_on pm_Ring_counted_on cd_Ring_counted_on ct_Ring_counted_on : Value}
    {tk_LETTERS : Tok}
    {tk_LONGEST_NAME : Tok}
    {tk_FEWEST : Tok}
    {tk_MOST : Tok}
    (X : K.In h) (G : h.Ns mainGlobals mg) (hfa : mg "law" = some (.ref fa))
    (aC_Ring : PySem.W.nsIn K mainGlobals "Ring" = some (some (.ref c_Ring)))
    (pg_Ring : PySem.W.plainGet K c_Ring Str.empty = true)
    (hd_Ring : PySem.W.hasDictIn K c_Ring = true)
    (po_Ring : PySem.W.plainOver K c_Ring = true)
    (sa_Ring : PySem.W.findIn K (.ref c_Ring) "__setattr__" = some (some (.builtin "object.__setattr__")))
    (mk_Ring : PySem.W.makesIn K c_Ring = true)
    (kc_Ring : PySem.W.keepIn K (.ref c_Ring) = true)
    (na_Ring__names : PySem.W.findIn K (.ref c_Ring) "_names" = some none)
    (na_Ring__slips : PySem.W.findIn K (.ref c_Ring) "_slips" = some none)
    (a_is_number : PySem.W.nsIn K mainGlobals "is_number" = some (some (.ref f_is_number)))
    (l_is_number : K.lookup f_is_number = some ⟨oc_is_number, od_is_number, .func (PySem.W.fnOf "is_number" "is_number" (defArgs s_is_number) (defBody s_is_number) (defScope s_is_number) .none kV_is_number dc_is_number pm_is_number an_is_number cd_is_number ct_is_number), sl_is_number⟩)
    (c_is_number_ : PySem.W.codeIn K cd_is_number "is_number" = true)
    (k_is_number : PySem.W.keepIn K (.ref f_is_number) = true)
    (a_is_name : PySem.W.nsIn K mainGlobals "is_name" = some (some (.ref f_is_name)))
    (l_is_name : K.lookup f_is_name = some ⟨oc_is_name, od_is_name, .func (PySem.W.fnOf "is_name" "is_name" (defArgs s_is_name) (defBody s_is_name) (defScope s_is_name) .none kV_is_name dc_is_name pm_is_name an_is_name cd_is_name ct_is_name), sl_is_name⟩)
    (c_is_name_ : PySem.W.codeIn K cd_is_name "is_name" = true)
    (k_is_name : PySem.W.keepIn K (.ref f_is_name) = true)
    (a_is_names : PySem.W.nsIn K mainGlobals "is_names" = some (some (.ref f_is_names)))
    (l_is_names : K.lookup f_is_names = some ⟨oc_is_names, od_is_names, .func (PySem.W.fnOf "is_names" "is_names" (defArgs s_is_names) (defBody s_is_names) (defScope s_is_names) .none kV_is_names dc_is_names pm_is_names an_is_names cd_is_names ct_is_names), sl_is_names⟩)
    (c_is_names_ : PySem.W.codeIn K cd_is_names "is_names" = true)
    (k_is_names : PySem.W.keepIn K (.ref f_is_names) = true)
    (a_check_names : PySem.W.nsIn K mainGlobals "check_names" = some (some (.ref f_check_names)))
    (l_check_names : K.lookup f_check_names = some ⟨oc_check_names, od_check_names, .func (PySem.W.fnOf "check_names" "check_names" (defArgs s_check_names) (defBody s_check_names) (defScope s_check_names) .none kV_check_names dc_check_names pm_check_names an_check_names cd_check_names ct_check_names), sl_check_names⟩)
    (c_check_names_ : PySem.W.codeIn K cd_check_names "check_names" = true)
    (k_check_names : PySem.W.keepIn K (.ref f_check_names) = true)
    (a_check_name : PySem.W.nsIn K mainGlobals "check_name" = some (some (.ref f_check_name)))
    (l_check_name : K.lookup f_check_name = some ⟨oc_check_name, od_check_name, .func (PySem.W.fnOf "check_name" "check_name" (defArgs s_check_name) (defBody s_check_name) (defScope s_check_name) .none kV_check_name dc_check_name pm_check_name an_check_name cd_check_name ct_check_name), sl_check_name⟩)
    (c_check_name_ : PySem.W.codeIn K cd_check_name "check_name" = true)
    (k_check_name : PySem.W.keepIn K (.ref f_check_name) = true)
    (a_is_slips : PySem.W.nsIn K mainGlobals "is_slips" = some (some (.ref f_is_slips)))
    (l_is_slips : K.lookup f_is_slips = some ⟨oc_is_slips, od_is_slips, .func (PySem.W.fnOf "is_slips" "is_slips" (defArgs s_is_slips) (defBody s_is_slips) (defScope s_is_slips) .none kV_is_slips dc_is_slips pm_is_slips an_is_slips cd_is_slips ct_is_slips), sl_is_slips⟩)
    (c_is_slips_ : PySem.W.codeIn K cd_is_slips "is_slips" = true)
    (k_is_slips : PySem.W.keepIn K (.ref f_is_slips) = true)
    (a_listed_behind : PySem.W.nsIn K mainGlobals "listed_behind" = some (some (.ref f_listed_behind)))
    (l_listed_behind : K.lookup f_listed_behind = some ⟨oc_listed_behind, od_listed_behind, .func (PySem.W.fnOf "listed_behind" "listed_behind" (defArgs s_listed_behind) (defBody s_listed_behind) (defScope s_listed_behind) .none kV_listed_behind dc_listed_behind pm_listed_behind an_listed_behind cd_listed_behind ct_listed_behind), sl_listed_behind⟩)
    (c_listed_behind_ : PySem.W.codeIn K cd_listed_behind "listed_behind" = true)
    (k_listed_behind : PySem.W.keepIn K (.ref f_listed_behind) = true)
    (a_who_sit : PySem.W.nsIn K mainGlobals "who_sit" = some (some (.ref f_who_sit)))
    (l_who_sit : K.lookup f_who_sit = some ⟨oc_who_sit, od_who_sit, .func (PySem.W.fnOf "who_sit" "who_sit" (defArgs s_who_sit) (defBody s_who_sit) (defScope s_who_sit) .none kV_who_sit dc_who_sit pm_who_sit an_who_sit cd_who_sit ct_who_sit), sl_who_sit⟩)
    (c_who_sit_ : PySem.W.codeIn K cd_who_sit "who_sit" = true)
    (k_who_sit : PySem.W.keepIn K (.ref f_who_sit) = true)
    (a_begins : PySem.W.nsIn K mainGlobals "begins" = some (some (.ref f_begins)))
    (l_begins : K.lookup f_begins = some ⟨oc_begins, od_begins, .func (PySem.W.fnOf "begins" "begins" (defArgs s_begins) (defBody s_begins) (defScope s_begins) .none kV_begins dc_begins pm_begins an_begins cd_begins ct_begins), sl_begins⟩)
    (c_begins_ : PySem.W.codeIn K cd_begins "begins" = true)
    (k_begins : PySem.W.keepIn K (.ref f_begins) = true)
    (a_begin_at : PySem.W.nsIn K mainGlobals "begin_at" = some (some (.ref f_begin_at)))
    (l_begin_at : K.lookup f_begin_at = some ⟨oc_begin_at, od_begin_at, .func (PySem.W.fnOf "begin_at" "begin_at" (defArgs s_begin_at) (defBody s_begin_at) (defScope s_begin_at) .none kV_begin_at dc_begin_at pm_begin_at an_begin_at cd_begin_at ct_begin_at), sl_begin_at⟩)
    (c_begin_at_ : PySem.W.codeIn K cd_begin_at "begin_at" = true)
    (k_begin_at : PySem.W.keepIn K (.ref f_begin_at) = true)
    (a_round_at : PySem.W.nsIn K mainGlobals "round_at" = some (some (.ref f_round_at)))
    (l_round_at : K.lookup f_round_at = some ⟨oc_round_at, od_round_at, .func (PySem.W.fnOf "round_at" "round_at" (defArgs s_round_at) (defBody s_round_at) (defScope s_round_at) .none kV_round_at dc_round_at pm_round_at an_round_at cd_round_at ct_round_at), sl_round_at⟩)
    (c_round_at_ : PySem.W.codeIn K cd_round_at "round_at" = true)
    (k_round_at : PySem.W.keepIn K (.ref f_round_at) = true)
    (a_lasts : PySem.W.nsIn K mainGlobals "lasts" = some (some (.ref f_lasts)))
    (l_lasts : K.lookup f_lasts = some ⟨oc_lasts, od_lasts, .func (PySem.W.fnOf "lasts" "lasts" (defArgs s_lasts) (defBody s_lasts) (defScope s_lasts) .none kV_lasts dc_lasts pm_lasts an_lasts cd_lasts ct_lasts), sl_lasts⟩)
    (c_lasts_ : PySem.W.codeIn K cd_lasts "lasts" = true)
    (k_lasts : PySem.W.keepIn K (.ref f_lasts) = true)
    (a_check_count : PySem.W.nsIn K mainGlobals "_check_count" = some (some (.ref f_check_count)))
    (l_check_count : K.lookup f_check_count = some ⟨oc_check_count, od_check_count, .func (PySem.W.fnOf "_check_count" "_check_count" (defArgs s_check_count) (defBody s_check_count) (defScope s_check_count) .none kV_check_count dc_check_count pm_check_count an_check_count cd_check_count ct_check_count), sl_check_count⟩)
    (c_check_count_ : PySem.W.codeIn K cd_check_count "_check_count" = true)
    (k_check_count : PySem.W.keepIn K (.ref f_check_count) = true)
    (a_l_state : PySem.W.nsIn K mainGlobals "_law_state" = some (some (.ref f_l_state)))
    (l_l_state : K.lookup f_l_state = some ⟨oc_l_state, od_l_state, .func (PySem.W.fnOf "_law_state" "_law_state" (defArgs s_l_state) (defBody s_l_state) (defScope s_l_state) .none kV_l_state dc_l_state pm_l_state an_l_state cd_l_state ct_l_state), sl_l_state⟩)
    (c_l_state_ : PySem.W.codeIn K cd_l_state "_law_state" = true)
    (k_l_state : PySem.W.keepIn K (.ref f_l_state) = true)
    (a_l_draw : PySem.W.nsIn K mainGlobals "_law_draw" = some (some (.ref f_l_draw)))
    (l_l_draw : K.lookup f_l_draw = some ⟨oc_l_draw, od_l_draw, .func (PySem.W.fnOf "_law_draw" "_law_draw" (defArgs s_l_draw) (defBody s_l_draw) (defScope s_l_draw) .none kV_l_draw dc_l_draw pm_l_draw an_l_draw cd_l_draw ct_l_draw), sl_l_draw⟩)
    (c_l_draw_ : PySem.W.codeIn K cd_l_draw "_law_draw" = true)
    (k_l_draw : PySem.W.keepIn K (.ref f_l_draw) = true)
    (a_l_pick : PySem.W.nsIn K mainGlobals "_law_pick" = some (some (.ref f_l_pick)))
    (l_l_pick : K.lookup f_l_pick = some ⟨oc_l_pick, od_l_pick, .func (PySem.W.fnOf "_law_pick" "_law_pick" (defArgs s_l_pick) (defBody s_l_pick) (defScope s_l_pick) .none kV_l_pick dc_l_pick pm_l_pick an_l_pick cd_l_pick ct_l_pick), sl_l_pick⟩)
    (c_l_pick_ : PySem.W.codeIn K cd_l_pick "_law_pick" = true)
    (k_l_pick : PySem.W.keepIn K (.ref f_l_pick) = true)
    (a_l_great : PySem.W.nsIn K mainGlobals "_law_great" = some (some (.ref f_l_great)))
    (l_l_great : K.lookup f_l_great = some ⟨oc_l_great, od_l_great, .func (PySem.W.fnOf "_law_great" "_law_great" (defArgs s_l_great) (defBody s_l_great) (defScope s_l_great) .none kV_l_great dc_l_great pm_l_great an_l_great cd_l_great ct_l_great), sl_l_great⟩)
    (c_l_great_ : PySem.W.codeIn K cd_l_great "_law_great" = true)
    (k_l_great : PySem.W.keepIn K (.ref f_l_great) = true)
    (a_l_labels : PySem.W.nsIn K mainGlobals "_law_labels" = some (some (.ref f_l_labels)))
    (l_l_labels : K.lookup f_l_labels = some ⟨oc_l_labels, od_l_labels, .func (PySem.W.fnOf "_law_labels" "_law_labels" (defArgs s_l_labels) (defBody s_l_labels) (defScope s_l_labels) .none kV_l_labels dc_l_labels pm_l_labels an_l_labels cd_l_labels ct_l_labels), sl_l_labels⟩)
    (c_l_labels_ : PySem.W.codeIn K cd_l_labels "_law_labels" = true)
    (k_l_labels : PySem.W.keepIn K (.ref f_l_labels) = true)
    (a_l_values : PySem.W.nsIn K mainGlobals "_law_values" = some (some (.ref f_l_values)))
    (l_l_values : K.lookup f_l_values = some ⟨oc_l_values, od_l_values, .func (PySem.W.fnOf "_law_values" "_law_values" (defArgs s_l_values) (defBody s_l_values) (defScope s_l_values) .none kV_l_values dc_l_values pm_l_values an_l_values cd_l_values ct_l_values), sl_l_values⟩)
    (c_l_values_ : PySem.W.codeIn K cd_l_values "_law_values" = true)
    (k_l_values : PySem.W.keepIn K (.ref f_l_values) = true)
    (a_l_advanced : PySem.W.nsIn K mainGlobals "_law_advanced" = some (some (.ref f_l_advanced)))
    (l_l_advanced : K.lookup f_l_advanced = some ⟨oc_l_advanced, od_l_advanced, .func (PySem.W.fnOf "_law_advanced" "_law_advanced" (defArgs s_l_advanced) (defBody s_l_advanced) (defScope s_l_advanced) .none kV_l_advanced dc_l_advanced pm_l_advanced an_l_advanced cd_l_advanced ct_l_advanced), sl_l_advanced⟩)
    (c_l_advanced_ : PySem.W.codeIn K cd_l_advanced "_law_advanced" = true)
    (k_l_advanced : PySem.W.keepIn K (.ref f_l_advanced) = true)
    (a_l_played_round : PySem.W.nsIn K mainGlobals "_law_played_round" = some (some (.ref f_l_played_round)))
    (l_l_played_round : K.lookup f_l_played_round = some ⟨oc_l_played_round, od_l_played_round, .func (PySem.W.fnOf "_law_played_round" "_law_played_round" (defArgs s_l_played_round) (defBody s_l_played_round) (defScope s_l_played_round) .none kV_l_played_round dc_l_played_round pm_l_played_round an_l_played_round cd_l_played_round ct_l_played_round), sl_l_played_round⟩)
    (c_l_played_round_ : PySem.W.codeIn K cd_l_played_round "_law_played_round" = true)
    (k_l_played_round : PySem.W.keepIn K (.ref f_l_played_round) = true)
    (a_l_once : PySem.W.nsIn K mainGlobals "_law_once" = some (some (.ref f_l_once)))
    (l_l_once : K.lookup f_l_once = some ⟨oc_l_once, od_l_once, .func (PySem.W.fnOf "_law_once" "_law_once" (defArgs s_l_once) (defBody s_l_once) (defScope s_l_once) .none kV_l_once dc_l_once pm_l_once an_l_once cd_l_once ct_l_once), sl_l_once⟩)
    (c_l_once_ : PySem.W.codeIn K cd_l_once "_law_once" = true)
    (k_l_once : PySem.W.keepIn K (.ref f_l_once) = true)
    (a_l_twice : PySem.W.nsIn K mainGlobals "_law_twice" = some (some (.ref f_l_twice)))
    (l_l_twice : K.lookup f_l_twice = some ⟨oc_l_twice, od_l_twice, .func (PySem.W.fnOf "_law_twice" "_law_twice" (defArgs s_l_twice) (defBody s_l_twice) (defScope s_l_twice) .none kV_l_twice dc_l_twice pm_l_twice an_l_twice cd_l_twice ct_l_twice), sl_l_twice⟩)
    (c_l_twice_ : PySem.W.codeIn K cd_l_twice "_law_twice" = true)
    (k_l_twice : PySem.W.keepIn K (.ref f_l_twice) = true)
    (a_l_after : PySem.W.nsIn K mainGlobals "_law_after" = some (some (.ref f_l_after)))
    (l_l_after : K.lookup f_l_after = some ⟨oc_l_after, od_l_after, .func (PySem.W.fnOf "_law_after" "_law_after" (defArgs s_l_after) (defBody s_l_after) (defScope s_l_after) .none kV_l_after dc_l_after pm_l_after an_l_after cd_l_after ct_l_after), sl_l_after⟩)
    (c_l_after_ : PySem.W.codeIn K cd_l_after "_law_after" = true)
    (k_l_after : PySem.W.keepIn K (.ref f_l_after) = true)
    (a_l_told_right : PySem.W.nsIn K mainGlobals "_law_told_right" = some (some (.ref f_l_told_right)))
    (l_l_told_right : K.lookup f_l_told_right = some ⟨oc_l_told_right, od_l_told_right, .func (PySem.W.fnOf "_law_told_right" "_law_told_right" (defArgs s_l_told_right) (defBody s_l_told_right) (defScope s_l_told_right) .none kV_l_told_right dc_l_told_right pm_l_told_right an_l_told_right cd_l_told_right ct_l_told_right), sl_l_told_right⟩)
    (c_l_told_right_ : PySem.W.codeIn K cd_l_told_right "_law_told_right" = true)
    (k_l_told_right : PySem.W.keepIn K (.ref f_l_told_right) = true)
    (a_law : PySem.W.nsIn K mainGlobals "law" = some (some (.ref f_law)))
    (l_law : K.lookup f_law = some ⟨oc_law, od_law, .func (PySem.W.fnOf "law" "law" (defArgs s_law) (defBody s_law) (defScope s_law) .none kV_law dc_law pm_law an_law cd_law ct_law), sl_law⟩)
    (c_law_ : PySem.W.codeIn K cd_law "law" = true)
    (k_law : PySem.W.keepIn K (.ref f_law) = true)
    (a_Ring_init : PySem.W.findIn K (.ref c_Ring) "__init__" = some (some (.ref f_Ring_init)))
    (i_Ring_init : PySem.W.isFn K (.ref f_Ring_init) = true)
    (l_Ring_init : K.lookup f_Ring_init = some ⟨oc_Ring_init, od_Ring_init, .func (PySem.W.fnOf "__init__" "Ring.__init__" (defArgs s_Ring_init) (defBody s_Ring_init) (defScope s_Ring_init) .none kV_Ring_init dc_Ring_init pm_Ring_init an_Ring_init cd_Ring_init ct_Ring_init), sl_Ring_init⟩)
    (c_Ring_init_ : PySem.W.codeIn K cd_Ring_init "Ring.__init__" = true)
    (k_Ring_init : PySem.W.keepIn K (.ref f_Ring_init) = true)
    (a_Ring_names : PySem.W.findIn K (.ref c_Ring) "names" = some (some (.ref f_Ring_names)))
    (i_Ring_names : PySem.W.isFn K (.ref f_Ring_names) = true)
    (l_Ring_names : K.lookup f_Ring_names = some ⟨oc_Ring_names, od_Ring_names, .func (PySem.W.fnOf "names" "Ring.names" (defArgs s_Ring_names) (defBody s_Ring_names) (defScope s_Ring_names) .none kV_Ring_names dc_Ring_names pm_Ring_names an_Ring_names cd_Ring_names ct_Ring_names), sl_Ring_names⟩)
    (c_Ring_names_ : PySem.W.codeIn K cd_Ring_names "Ring.names" = true)
    (k_Ring_names : PySem.W.keepIn K (.ref f_Ring_names) = true)
    (a_Ring_order : PySem.W.findIn K (.ref c_Ring) "order" = some (some (.ref f_Ring_order)))
    (i_Ring_order : PySem.W.isFn K (.ref f_Ring_order) = true)
    (l_Ring_order : K.lookup f_Ring_order = some ⟨oc_Ring_order, od_Ring_order, .func (PySem.W.fnOf "order" "Ring.order" (defArgs s_Ring_order) (defBody s_Ring_order) (defScope s_Ring_order) .none kV_Ring_order dc_Ring_order pm_Ring_order an_Ring_order cd_Ring_order ct_Ring_order), sl_Ring_order⟩)
    (c_Ring_order_ : PySem.W.codeIn K cd_Ring_order "Ring.order" = true)
    (k_Ring_order : PySem.W.keepIn K (.ref f_Ring_order) = true)
    (a_Ring_next_of : PySem.W.findIn K (.ref c_Ring) "next_of" = some (some (.ref f_Ring_next_of)))
    (i_Ring_next_of : PySem.W.isFn K (.ref f_Ring_next_of) = true)
    (l_Ring_next_of : K.lookup f_Ring_next_of = some ⟨oc_Ring_next_of, od_Ring_next_of, .func (PySem.W.fnOf "next_of" "Ring.next_of" (defArgs s_Ring_next_of) (defBody s_Ring_next_of) (defScope s_Ring_next_of) .none kV_Ring_next_of dc_Ring_next_of pm_Ring_next_of an_Ring_next_of cd_Ring_next_of ct_Ring_next_of), sl_Ring_next_of⟩)
    (c_Ring_next_of_ : PySem.W.codeIn K cd_Ring_next_of "Ring.next_of" = true)
    (k_Ring_next_of : PySem.W.keepIn K (.ref f_Ring_next_of) = true)
    (a_Ring_counted_on : PySem.W.findIn K (.ref c_Ring) "_counted_on" = some (some (.ref f_Ring_counted_on)))
    (i_Ring_counted_on : PySem.W.isFn K (.ref f_Ring_counted_on) = true)
    (l_Ring_counted_on : K.lookup f_Ring_counted_on = some ⟨oc_Ring_counted_on, od_Ring_counted_on, .func (PySem.W.fnOf "_counted_on" "Ring._counted_on" (defArgs s_Ring_counted_on) (defBody s_Ring_counted_on) (defScope s_Ring_counted_on) .none kV_Ring_counted_on dc_Ring_counted_on pm_Ring_counted_on an_Ring_counted_on cd_Ring_counted_on ct_Ring_counted_on), sl_Ring_counted_on⟩)
    (c_Ring_counted_on_ : PySem.W.codeIn K cd_Ring_counted_on "Ring._counted_on" = true)
    (k_Ring_counted_on : PySem.W.keepIn K (.ref f_Ring_counted_on) = true)
    (z_LETTERS : PySem.W.nsIn K mainGlobals "LETTERS" = some (some (.str "abcdefghijklmnopqrstuvwxyz" tk_LETTERS)))
    (z_LONGEST_NAME : PySem.W.nsIn K mainGlobals "LONGEST_NAME" = some (some (.int 8 tk_LONGEST_NAME)))
    (z_FEWEST : PySem.W.nsIn K mainGlobals "FEWEST" = some (some (.int 2 tk_FEWEST)))
    (z_MOST : PySem.W.nsIn K mainGlobals "MOST" = some (some (.int 12 tk_MOST)))
    (zm_abs : PySem.W.nsIn K mainGlobals "abs" = some none)
    (zm_all : PySem.W.nsIn K mainGlobals "all" = some none)
    (zm_bool : PySem.W.nsIn K mainGlobals "bool" = some none)
    (zm_dict : PySem.W.nsIn K mainGlobals "dict" = some none)
    (zm_int : PySem.W.nsIn K mainGlobals "int" = some none)
    (zm_isinstance : PySem.W.nsIn K mainGlobals "isinstance" = some none)
    (zm_len : PySem.W.nsIn K mainGlobals "len" = some none)
    (zm_list : PySem.W.nsIn K mainGlobals "list" = some none)
    (zm_min : PySem.W.nsIn K mainGlobals "min" = some none)
    (zm_range : PySem.W.nsIn K mainGlobals "range" = some none)
    (zm_set : PySem.W.nsIn K mainGlobals "set" = some none)
    (zm_str : PySem.W.nsIn K mainGlobals "str" = some none)
    (zm_tuple : PySem.W.nsIn K mainGlobals "tuple" = some none)
    (zm_enumerate : PySem.W.nsIn K mainGlobals "enumerate" = some none)
    (zm_max : PySem.W.nsIn K mainGlobals "max" = some none)
    (zm_sum : PySem.W.nsIn K mainGlobals "sum" = some none) :
    ∃ fd : FuncData, (∀ (s : Shared) (v : Value), BindsTo s fd ⟨[v], []⟩ [("_law_script", v)]) ∧ ∀ base : Heap, K.In base → base.Ns mainGlobals mg → FnOk l.prog w K mg base CX0 9 fa fd ["_law_script"] (spLaw K) := by
  obtain rfl : f_law = fa := (Value.ref.inj (Option.some.inj (hfa.symm.trans (PySem.W.mg_of X G a_law)))).symm
  have F_is_number := fun_mk (st := s_is_number) l_is_number c_is_number_ k_is_number
  have F_is_name := fun_mk (st := s_is_name) l_is_name c_is_name_ k_is_name
  have F_is_names := fun_mk (st := s_is_names) l_is_names c_is_names_ k_is_names
  have F_check_names := fun_mk (st := s_check_names) l_check_names c_check_names_ k_check_names
  have F_check_name := fun_mk (st := s_check_name) l_check_name c_check_name_ k_check_name
  have F_is_slips := fun_mk (st := s_is_slips) l_is_slips c_is_slips_ k_is_slips
  have F_listed_behind := fun_mk (st := s_listed_behind) l_listed_behind c_listed_behind_ k_listed_behind
  have F_who_sit := fun_mk (st := s_who_sit) l_who_sit c_who_sit_ k_who_sit
  have F_begins := fun_mk (st := s_begins) l_begins c_begins_ k_begins
  have F_begin_at := fun_mk (st := s_begin_at) l_begin_at c_begin_at_ k_begin_at
  have F_round_at := fun_mk (st := s_round_at) l_round_at c_round_at_ k_round_at
  have F_lasts := fun_mk (st := s_lasts) l_lasts c_lasts_ k_lasts
  have F_check_count := fun_mk (st := s_check_count) l_check_count c_check_count_ k_check_count
  have F_l_state := fun_mk (st := s_l_state) l_l_state c_l_state_ k_l_state
  have F_l_draw := fun_mk (st := s_l_draw) l_l_draw c_l_draw_ k_l_draw
  have F_l_pick := fun_mk (st := s_l_pick) l_l_pick c_l_pick_ k_l_pick
  have F_l_great := fun_mk (st := s_l_great) l_l_great c_l_great_ k_l_great
  have F_l_labels := fun_mk (st := s_l_labels) l_l_labels c_l_labels_ k_l_labels
  have F_l_values := fun_mk (st := s_l_values) l_l_values c_l_values_ k_l_values
  have F_l_advanced := fun_mk (st := s_l_advanced) l_l_advanced c_l_advanced_ k_l_advanced
  have F_l_played_round := fun_mk (st := s_l_played_round) l_l_played_round c_l_played_round_ k_l_played_round
  have F_l_once := fun_mk (st := s_l_once) l_l_once c_l_once_ k_l_once
  have F_l_twice := fun_mk (st := s_l_twice) l_l_twice c_l_twice_ k_l_twice
  have F_l_after := fun_mk (st := s_l_after) l_l_after c_l_after_ k_l_after
  have F_l_told_right := fun_mk (st := s_l_told_right) l_l_told_right c_l_told_right_ k_l_told_right
  have F_law := fun_mk (st := s_law) l_law c_law_ k_law
  have F_Ring_init := fun_mk (st := s_Ring_init) l_Ring_init c_Ring_init_ k_Ring_init
  have F_Ring_names := fun_mk (st := s_Ring_names) l_Ring_names c_Ring_names_ k_Ring_names
  have F_Ring_order := fun_mk (st := s_Ring_order) l_Ring_order c_Ring_order_ k_Ring_order
  have F_Ring_next_of := fun_mk (st := s_Ring_next_of) l_Ring_next_of c_Ring_next_of_ k_Ring_next_of
  have F_Ring_counted_on := fun_mk (st := s_Ring_counted_on) l_Ring_counted_on c_Ring_counted_on_ k_Ring_counted_on
  let T : Tx K mg := {
    a_Ring := c_Ring,
    cl_Ring := ⟨pg_Ring, hd_Ring, po_Ring, sa_Ring⟩,
    g_Ring := PySem.W.mg_of X G aC_Ring,
    n_Ring__names := na_Ring__names,
    n_Ring__slips := na_Ring__slips,
    a_is_number := f_is_number,
    fd_is_number := PySem.W.fnOf "is_number" "is_number" (defArgs s_is_number) (defBody s_is_number) (defScope s_is_number) .none kV_is_number dc_is_number pm_is_number an_is_number cd_is_number ct_is_number,
    F_is_number := F_is_number,
    b_is_number := F_is_number.binds (ps := P_is_number) fun _ _ _ _ _ _ us hl => match us, hl with | [_], _ => rfl,
    g_is_number := PySem.W.mg_of X G a_is_number,
    a_is_name := f_is_name,
    fd_is_name := PySem.W.fnOf "is_name" "is_name" (defArgs s_is_name) (defBody s_is_name) (defScope s_is_name) .none kV_is_name dc_is_name pm_is_name an_is_name cd_is_name ct_is_name,
    F_is_name := F_is_name,
    b_is_name := F_is_name.binds (ps := P_is_name) fun _ _ _ _ _ _ us hl => match us, hl with | [_], _ => rfl,
    g_is_name := PySem.W.mg_of X G a_is_name,
    a_is_names := f_is_names,
    fd_is_names := PySem.W.fnOf "is_names" "is_names" (defArgs s_is_names) (defBody s_is_names) (defScope s_is_names) .none kV_is_names dc_is_names pm_is_names an_is_names cd_is_names ct_is_names,
    F_is_names := F_is_names,
    b_is_names := F_is_names.binds (ps := P_is_names) fun _ _ _ _ _ _ us hl => match us, hl with | [_], _ => rfl,
    g_is_names := PySem.W.mg_of X G a_is_names,
    a_check_names := f_check_names,
    fd_check_names := PySem.W.fnOf "check_names" "check_names" (defArgs s_check_names) (defBody s_check_names) (defScope s_check_names) .none kV_check_names dc_check_names pm_check_names an_check_names cd_check_names ct_check_names,
    F_check_names := F_check_names,
    b_check_names := F_check_names.binds (ps := P_check_names) fun _ _ _ _ _ _ us hl => match us, hl with | [_], _ => rfl,
    g_check_names := PySem.W.mg_of X G a_check_names,
    a_check_name := f_check_name,
    fd_check_name := PySem.W.fnOf "check_name" "check_name" (defArgs s_check_name) (defBody s_check_name) (defScope s_check_name) .none kV_check_name dc_check_name pm_check_name an_check_name cd_check_name ct_check_name,
    F_check_name := F_check_name,
    b_check_name := F_check_name.binds (ps := P_check_name) fun _ _ _ _ _ _ us hl => match us, hl with | [_, _], _ => rfl,
    g_check_name := PySem.W.mg_of X G a_check_name,
    a_is_slips := f_is_slips,
    fd_is_slips := PySem.W.fnOf "is_slips" "is_slips" (defArgs s_is_slips) (defBody s_is_slips) (defScope s_is_slips) .none kV_is_slips dc_is_slips pm_is_slips an_is_slips cd_is_slips ct_is_slips,
    F_is_slips := F_is_slips,
    b_is_slips := F_is_slips.binds (ps := P_is_slips) fun _ _ _ _ _ _ us hl => match us, hl with | [_, _], _ => rfl,
    g_is_slips := PySem.W.mg_of X G a_is_slips,
    a_listed_behind := f_listed_behind,
    fd_listed_behind := PySem.W.fnOf "listed_behind" "listed_behind" (defArgs s_listed_behind) (defBody s_listed_behind) (defScope s_listed_behind) .none kV_listed_behind dc_listed_behind pm_listed_behind an_listed_behind cd_listed_behind ct_listed_behind,
    F_listed_behind := F_listed_behind,
    b_listed_behind := F_listed_behind.binds (ps := P_listed_behind) fun _ _ _ _ _ _ us hl => match us, hl with | [_, _], _ => rfl,
    g_listed_behind := PySem.W.mg_of X G a_listed_behind,
    a_who_sit := f_who_sit,
    fd_who_sit := PySem.W.fnOf "who_sit" "who_sit" (defArgs s_who_sit) (defBody s_who_sit) (defScope s_who_sit) .none kV_who_sit dc_who_sit pm_who_sit an_who_sit cd_who_sit ct_who_sit,
    F_who_sit := F_who_sit,
    b_who_sit := F_who_sit.binds (ps := P_who_sit) fun _ _ _ _ _ _ us hl => match us, hl with | [_, _], _ => rfl,
    g_who_sit := PySem.W.mg_of X G a_who_sit,
    a_begins := f_begins,
    fd_begins := PySem.W.fnOf "begins" "begins" (defArgs s_begins) (defBody s_begins) (defScope s_begins) .none kV_begins dc_begins pm_begins an_begins cd_begins ct_begins,
    F_begins := F_begins,
    b_begins := F_begins.binds (ps := P_begins) fun _ _ _ _ _ _ us hl => match us, hl with | [_, _], _ => rfl,
    g_begins := PySem.W.mg_of X G a_begins,
    a_begin_at := f_begin_at,
    fd_begin_at := PySem.W.fnOf "begin_at" "begin_at" (defArgs s_begin_at) (defBody s_begin_at) (defScope s_begin_at) .none kV_begin_at dc_begin_at pm_begin_at an_begin_at cd_begin_at ct_begin_at,
    F_begin_at := F_begin_at,
    b_begin_at := F_begin_at.binds (ps := P_begin_at) fun _ _ _ _ _ _ us hl => match us, hl with | [_, _, _], _ => rfl,
    g_begin_at := PySem.W.mg_of X G a_begin_at,
    a_round_at := f_round_at,
    fd_round_at := PySem.W.fnOf "round_at" "round_at" (defArgs s_round_at) (defBody s_round_at) (defScope s_round_at) .none kV_round_at dc_round_at pm_round_at an_round_at cd_round_at ct_round_at,
    F_round_at := F_round_at,
    b_round_at := F_round_at.binds (ps := P_round_at) fun _ _ _ _ _ _ us hl => match us, hl with | [_, _, _], _ => rfl,
    g_round_at := PySem.W.mg_of X G a_round_at,
    a_lasts := f_lasts,
    fd_lasts := PySem.W.fnOf "lasts" "lasts" (defArgs s_lasts) (defBody s_lasts) (defScope s_lasts) .none kV_lasts dc_lasts pm_lasts an_lasts cd_lasts ct_lasts,
    F_lasts := F_lasts,
    b_lasts := F_lasts.binds (ps := P_lasts) fun _ _ _ _ _ _ us hl => match us, hl with | [_, _, _], _ => rfl,
    g_lasts := PySem.W.mg_of X G a_lasts,
    a_check_count := f_check_count,
    fd_check_count := PySem.W.fnOf "_check_count" "_check_count" (defArgs s_check_count) (defBody s_check_count) (defScope s_check_count) .none kV_check_count dc_check_count pm_check_count an_check_count cd_check_count ct_check_count,
    F_check_count := F_check_count,
    b_check_count := F_check_count.binds (ps := P_check_count) fun _ _ _ _ _ _ us hl => match us, hl with | [_], _ => rfl,
    g_check_count := PySem.W.mg_of X G a_check_count,
    a_l_state := f_l_state,
    fd_l_state := PySem.W.fnOf "_law_state" "_law_state" (defArgs s_l_state) (defBody s_l_state) (defScope s_l_state) .none kV_l_state dc_l_state pm_l_state an_l_state cd_l_state ct_l_state,
    F_l_state := F_l_state,
    b_l_state := F_l_state.binds (ps := P_l_state) fun _ _ _ _ _ _ us hl => match us, hl with | [_], _ => rfl,
    g_l_state := PySem.W.mg_of X G a_l_state,
    a_l_draw := f_l_draw,
    fd_l_draw := PySem.W.fnOf "_law_draw" "_law_draw" (defArgs s_l_draw) (defBody s_l_draw) (defScope s_l_draw) .none kV_l_draw dc_l_draw pm_l_draw an_l_draw cd_l_draw ct_l_draw,
    F_l_draw := F_l_draw,
    b_l_draw := F_l_draw.binds (ps := P_l_draw) fun _ _ _ _ _ _ us hl => match us, hl with | [_, _], _ => rfl,
    g_l_draw := PySem.W.mg_of X G a_l_draw,
    a_l_pick := f_l_pick,
    fd_l_pick := PySem.W.fnOf "_law_pick" "_law_pick" (defArgs s_l_pick) (defBody s_l_pick) (defScope s_l_pick) .none kV_l_pick dc_l_pick pm_l_pick an_l_pick cd_l_pick ct_l_pick,
    F_l_pick := F_l_pick,
    b_l_pick := F_l_pick.binds (ps := P_l_pick) fun _ _ _ _ _ _ us hl => match us, hl with | [_, _], _ => rfl,
    g_l_pick := PySem.W.mg_of X G a_l_pick,
    a_l_great := f_l_great,
    fd_l_great := PySem.W.fnOf "_law_great" "_law_great" (defArgs s_l_great) (defBody s_l_great) (defScope s_l_great) .none kV_l_great dc_l_great pm_l_great an_l_great cd_l_great ct_l_great,
    F_l_great := F_l_great,
    b_l_great := F_l_great.binds (ps := P_l_great) fun _ _ _ _ _ _ us hl => match us, hl with | [_, _], _ => rfl,
    g_l_great := PySem.W.mg_of X G a_l_great,
    a_l_labels := f_l_labels,
    fd_l_labels := PySem.W.fnOf "_law_labels" "_law_labels" (defArgs s_l_labels) (defBody s_l_labels) (defScope s_l_labels) .none kV_l_labels dc_l_labels pm_l_labels an_l_labels cd_l_labels ct_l_labels,
    F_l_labels := F_l_labels,
    b_l_labels := F_l_labels.binds (ps := P_l_labels) fun _ _ _ _ _ _ us hl => match us, hl with | [_, _], _ => rfl,
    g_l_labels := PySem.W.mg_of X G a_l_labels,
    a_l_values := f_l_values,
    fd_l_values := PySem.W.fnOf "_law_values" "_law_values" (defArgs s_l_values) (defBody s_l_values) (defScope s_l_values) .none kV_l_values dc_l_values pm_l_values an_l_values cd_l_values ct_l_values,
    F_l_values := F_l_values,
    b_l_values := F_l_values.binds (ps := P_l_values) fun _ _ _ _ _ _ us hl => match us, hl with | [_, _], _ => rfl,
    g_l_values := PySem.W.mg_of X G a_l_values,
    a_l_advanced := f_l_advanced,
    fd_l_advanced := PySem.W.fnOf "_law_advanced" "_law_advanced" (defArgs s_l_advanced) (defBody s_l_advanced) (defScope s_l_advanced) .none kV_l_advanced dc_l_advanced pm_l_advanced an_l_advanced cd_l_advanced ct_l_advanced,
    F_l_advanced := F_l_advanced,
    b_l_advanced := F_l_advanced.binds (ps := P_l_advanced) fun _ _ _ _ _ _ us hl => match us, hl with | [_, _, _, _], _ => rfl,
    g_l_advanced := PySem.W.mg_of X G a_l_advanced,
    a_l_played_round := f_l_played_round,
    fd_l_played_round := PySem.W.fnOf "_law_played_round" "_law_played_round" (defArgs s_l_played_round) (defBody s_l_played_round) (defScope s_l_played_round) .none kV_l_played_round dc_l_played_round pm_l_played_round an_l_played_round cd_l_played_round ct_l_played_round,
    F_l_played_round := F_l_played_round,
    b_l_played_round := F_l_played_round.binds (ps := P_l_played_round) fun _ _ _ _ _ _ us hl => match us, hl with | [_, _, _], _ => rfl,
    g_l_played_round := PySem.W.mg_of X G a_l_played_round,
    a_l_once := f_l_once,
    fd_l_once := PySem.W.fnOf "_law_once" "_law_once" (defArgs s_l_once) (defBody s_l_once) (defScope s_l_once) .none kV_l_once dc_l_once pm_l_once an_l_once cd_l_once ct_l_once,
    F_l_once := F_l_once,
    b_l_once := F_l_once.binds (ps := P_l_once) fun _ _ _ _ _ _ us hl => match us, hl with | [_, _], _ => rfl,
    g_l_once := PySem.W.mg_of X G a_l_once,
    a_l_twice := f_l_twice,
    fd_l_twice := PySem.W.fnOf "_law_twice" "_law_twice" (defArgs s_l_twice) (defBody s_l_twice) (defScope s_l_twice) .none kV_l_twice dc_l_twice pm_l_twice an_l_twice cd_l_twice ct_l_twice,
    F_l_twice := F_l_twice,
    b_l_twice := F_l_twice.binds (ps := P_l_twice) fun _ _ _ _ _ _ us hl => match us, hl with | [_], _ => rfl,
    g_l_twice := PySem.W.mg_of X G a_l_twice,
    a_l_after := f_l_after,
    fd_l_after := PySem.W.fnOf "_law_after" "_law_after" (defArgs s_l_after) (defBody s_l_after) (defScope s_l_after) .none kV_l_after dc_l_after pm_l_after an_l_after cd_l_after ct_l_after,
    F_l_after := F_l_after,
    b_l_after := F_l_after.binds (ps := P_l_after) fun _ _ _ _ _ _ us hl => match us, hl with | [_, _, _], _ => rfl,
    g_l_after := PySem.W.mg_of X G a_l_after,
    a_l_told_right := f_l_told_right,
    fd_l_told_right := PySem.W.fnOf "_law_told_right" "_law_told_right" (defArgs s_l_told_right) (defBody s_l_told_right) (defScope s_l_told_right) .none kV_l_told_right dc_l_told_right pm_l_told_right an_l_told_right cd_l_told_right ct_l_told_right,
    F_l_told_right := F_l_told_right,
    b_l_told_right := F_l_told_right.binds (ps := P_l_told_right) fun _ _ _ _ _ _ us hl => match us, hl with | [_, _, _, _, _, _], _ => rfl,
    g_l_told_right := PySem.W.mg_of X G a_l_told_right,
    a_law := f_law,
    fd_law := PySem.W.fnOf "law" "law" (defArgs s_law) (defBody s_law) (defScope s_law) .none kV_law dc_law pm_law an_law cd_law ct_law,
    F_law := F_law,
    b_law := F_law.binds (ps := P_law) fun _ _ _ _ _ _ us hl => match us, hl with | [_], _ => rfl,
    g_law := PySem.W.mg_of X G a_law,
    a_Ring_init := f_Ring_init,
    fd_Ring_init := PySem.W.fnOf "__init__" "Ring.__init__" (defArgs s_Ring_init) (defBody s_Ring_init) (defScope s_Ring_init) .none kV_Ring_init dc_Ring_init pm_Ring_init an_Ring_init cd_Ring_init ct_Ring_init,
    F_Ring_init := F_Ring_init,
    b_Ring_init := F_Ring_init.binds (ps := P_Ring_init) fun _ _ _ _ _ _ us hl => match us, hl with | [_, _, _], _ => rfl,
    M_Ring := ⟨mk_Ring, a_Ring_init, i_Ring_init, kc_Ring⟩,
    a_Ring_names := f_Ring_names,
    fd_Ring_names := PySem.W.fnOf "names" "Ring.names" (defArgs s_Ring_names) (defBody s_Ring_names) (defScope s_Ring_names) .none kV_Ring_names dc_Ring_names pm_Ring_names an_Ring_names cd_Ring_names ct_Ring_names,
    F_Ring_names := F_Ring_names,
    b_Ring_names := F_Ring_names.binds (ps := P_Ring_names) fun _ _ _ _ _ _ us hl => match us, hl with | [_], _ => rfl,
    mt_Ring_names := ⟨a_Ring_names, i_Ring_names, k_Ring_names⟩,
    a_Ring_order := f_Ring_order,
    fd_Ring_order := PySem.W.fnOf "order" "Ring.order" (defArgs s_Ring_order) (defBody s_Ring_order) (defScope s_Ring_order) .none kV_Ring_order dc_Ring_order pm_Ring_order an_Ring_order cd_Ring_order ct_Ring_order,
    F_Ring_order := F_Ring_order,
    b_Ring_order := F_Ring_order.binds (ps := P_Ring_order) fun _ _ _ _ _ _ us hl => match us, hl with | [_, _], _ => rfl,
    mt_Ring_order := ⟨a_Ring_order, i_Ring_order, k_Ring_order⟩,
    a_Ring_next_of := f_Ring_next_of,
    fd_Ring_next_of := PySem.W.fnOf "next_of" "Ring.next_of" (defArgs s_Ring_next_of) (defBody s_Ring_next_of) (defScope s_Ring_next_of) .none kV_Ring_next_of dc_Ring_next_of pm_Ring_next_of an_Ring_next_of cd_Ring_next_of ct_Ring_next_of,
    F_Ring_next_of := F_Ring_next_of,
    b_Ring_next_of := F_Ring_next_of.binds (ps := P_Ring_next_of) fun _ _ _ _ _ _ us hl => match us, hl with | [_, _], _ => rfl,
    mt_Ring_next_of := ⟨a_Ring_next_of, i_Ring_next_of, k_Ring_next_of⟩,
    a_Ring_counted_on := f_Ring_counted_on,
    fd_Ring_counted_on := PySem.W.fnOf "_counted_on" "Ring._counted_on" (defArgs s_Ring_counted_on) (defBody s_Ring_counted_on) (defScope s_Ring_counted_on) .none kV_Ring_counted_on dc_Ring_counted_on pm_Ring_counted_on an_Ring_counted_on cd_Ring_counted_on ct_Ring_counted_on,
    F_Ring_counted_on := F_Ring_counted_on,
    b_Ring_counted_on := F_Ring_counted_on.binds (ps := P_Ring_counted_on) fun _ _ _ _ _ _ us hl => match us, hl with | [_, _, _], _ => rfl,
    mt_Ring_counted_on := ⟨a_Ring_counted_on, i_Ring_counted_on, k_Ring_counted_on⟩,
    tk_LETTERS := tk_LETTERS,
    g_LETTERS := PySem.W.mg_of X G z_LETTERS,
    tk_LONGEST_NAME := tk_LONGEST_NAME,
    g_LONGEST_NAME := PySem.W.mg_of X G z_LONGEST_NAME,
    tk_FEWEST := tk_FEWEST,
    g_FEWEST := PySem.W.mg_of X G z_FEWEST,
    tk_MOST := tk_MOST,
    g_MOST := PySem.W.mg_of X G z_MOST,
    m_abs := PySem.W.mg_none_of X G zm_abs,
    m_all := PySem.W.mg_none_of X G zm_all,
    m_bool := PySem.W.mg_none_of X G zm_bool,
    m_dict := PySem.W.mg_none_of X G zm_dict,
    m_int := PySem.W.mg_none_of X G zm_int,
    m_isinstance := PySem.W.mg_none_of X G zm_isinstance,
    m_len := PySem.W.mg_none_of X G zm_len,
    m_list := PySem.W.mg_none_of X G zm_list,
    m_min := PySem.W.mg_none_of X G zm_min,
    m_range := PySem.W.mg_none_of X G zm_range,
    m_set := PySem.W.mg_none_of X G zm_set,
    m_str := PySem.W.mg_none_of X G zm_str,
    m_tuple := PySem.W.mg_none_of X G zm_tuple,
    m_enumerate := PySem.W.mg_none_of X G zm_enumerate,
    m_max := PySem.W.mg_none_of X G zm_max,
    m_sum := PySem.W.mg_none_of X G zm_sum
  }
  exact ⟨T.fd_law, fun s v => .of_eq rfl, fun base _ _ => ok_law T⟩
end K09
open PySem PySem.W PyProof.Rows
set_option maxRecDepth 100000 in
set_option maxHeartbeats 0 in
theorem PySem.Challenge.cw_goersay_k09_whole_far_rounds_by_doubling_holds : PySem.Challenge.rw_goersay_k09_whole_far_rounds_by_doubling.Holds := by
  w_on; o_law; k_head; (case hw => w_witness2)
  k_fill
  refine L2.walk_of (l := PySem.Challenge.rw_goersay_k09_whole_far_rounds_by_doubling) (n := 63) (k := 9) (x := "_law_script") (CX := fun _ => L2.CX0) (sp := fun w => GL.spLaw _) rfl (by decide) rfl ⟨rfl, by decide, by decide⟩ (fun w h Y => PySem.W.kIn_of Y) ?F (fun _ _ a ns hl _ hS => ⟨a, ns, rfl, hS, hl, fun _ => rfl⟩) (fun _ _ _ _ _ h => h)
  case F =>
    intro w mg fa h KX G hmg
    refine' K09.all_mk KX G hmg ?aC_Ring ?pg_Ring ?hd_Ring ?po_Ring ?sa_Ring ?mk_Ring ?kc_Ring ?na_Ring__names ?na_Ring__slips ?a_is_number ?l_is_number ?c_is_number_ ?k_is_number ?a_is_name ?l_is_name ?c_is_name_ ?k_is_name ?a_is_names ?l_is_names ?c_is_names_ ?k_is_names ?a_check_names ?l_check_names ?c_check_names_ ?k_check_names ?a_check_name ?l_check_name ?c_check_name_ ?k_check_name ?a_is_slips ?l_is_slips ?c_is_slips_ ?k_is_slips ?a_listed_behind ?l_listed_behind ?c_listed_behind_ ?k_listed_behind ?a_who_sit ?l_who_sit ?c_who_sit_ ?k_who_sit ?a_begins ?l_begins ?c_begins_ ?k_begins ?a_begin_at ?l_begin_at ?c_begin_at_ ?k_begin_at ?a_round_at ?l_round_at ?c_round_at_ ?k_round_at ?a_lasts ?l_lasts ?c_lasts_ ?k_lasts ?a_check_count ?l_check_count ?c_check_count_ ?k_check_count ?a_l_state ?l_l_state ?c_l_state_ ?k_l_state ?a_l_draw ?l_l_draw ?c_l_draw_ ?k_l_draw ?a_l_pick ?l_l_pick ?c_l_pick_ ?k_l_pick ?a_l_great ?l_l_great ?c_l_great_ ?k_l_great ?a_l_labels ?l_l_labels ?c_l_labels_ ?k_l_labels ?a_l_values ?l_l_values ?c_l_values_ ?k_l_values ?a_l_advanced ?l_l_advanced ?c_l_advanced_ ?k_l_advanced ?a_l_played_round ?l_l_played_round ?c_l_played_round_ ?k_l_played_round ?a_l_once ?l_l_once ?c_l_once_ ?k_l_once ?a_l_twice ?l_l_twice ?c_l_twice_ ?k_l_twice ?a_l_after ?l_l_after ?c_l_after_ ?k_l_after ?a_l_told_right ?l_l_told_right ?c_l_told_right_ ?k_l_told_right ?a_law ?l_law ?c_law_ ?k_law ?a_Ring_init ?i_Ring_init ?l_Ring_init ?c_Ring_init_ ?k_Ring_init ?a_Ring_names ?i_Ring_names ?l_Ring_names ?c_Ring_names_ ?k_Ring_names ?a_Ring_order ?i_Ring_order ?l_Ring_order ?c_Ring_order_ ?k_Ring_order ?a_Ring_next_of ?i_Ring_next_of ?l_Ring_next_of ?c_Ring_next_of_ ?k_Ring_next_of ?a_Ring_counted_on ?i_Ring_counted_on ?l_Ring_counted_on ?c_Ring_counted_on_ ?k_Ring_counted_on ?z_LETTERS ?z_LONGEST_NAME ?z_FEWEST ?z_MOST ?zm_abs ?zm_all ?zm_bool ?zm_dict ?zm_int ?zm_isinstance ?zm_len ?zm_list ?zm_min ?zm_range ?zm_set ?zm_str ?zm_tuple ?zm_enumerate ?zm_max ?zm_sum
    (case aC_Ring => k_is)
    (case pg_Ring => k_is)
    (case hd_Ring => k_is)
    (case po_Ring => k_is)
    (case sa_Ring => k_is)
    (case mk_Ring => k_is)
    (case kc_Ring => k_is)
    (case na_Ring__names => k_is)
    (case na_Ring__slips => k_is)
    (case a_is_number => k_is)
    (case l_is_number => k_is)
    (case c_is_number_ => k_is)
    (case k_is_number => k_is)
    (case a_is_name => k_is)
    (case l_is_name => k_is)
    (case c_is_name_ => k_is)
    (case k_is_name => k_is)
    (case a_is_names => k_is)
    (case l_is_names => k_is)
    (case c_is_names_ => k_is)
    (case k_is_names => k_is)
    (case a_check_names => k_is)
    (case l_check_names => k_is)
    (case c_check_names_ => k_is)
    (case k_check_names => k_is)
    (case a_check_name => k_is)
    (case l_check_name => k_is)
    (case c_check_name_ => k_is)
    (case k_check_name => k_is)
    (case a_is_slips => k_is)
    (case l_is_slips => k_is)
    (case c_is_slips_ => k_is)
    (case k_is_slips => k_is)
    (case a_listed_behind => k_is)
    (case l_listed_behind => k_is)
    (case c_listed_behind_ => k_is)
    (case k_listed_behind => k_is)
    (case a_who_sit => k_is)
    (case l_who_sit => k_is)
    (case c_who_sit_ => k_is)
    (case k_who_sit => k_is)
    (case a_begins => k_is)
    (case l_begins => k_is)
    (case c_begins_ => k_is)
    (case k_begins => k_is)
    (case a_begin_at => k_is)
    (case l_begin_at => k_is)
    (case c_begin_at_ => k_is)
    (case k_begin_at => k_is)
    (case a_round_at => k_is)
    (case l_round_at => k_is)
    (case c_round_at_ => k_is)
    (case k_round_at => k_is)
    (case a_lasts => k_is)
    (case l_lasts => k_is)
    (case c_lasts_ => k_is)
    (case k_lasts => k_is)
    (case a_check_count => k_is)
    (case l_check_count => k_is)
    (case c_check_count_ => k_is)
    (case k_check_count => k_is)
    (case a_l_state => k_is)
    (case l_l_state => k_is)
    (case c_l_state_ => k_is)
    (case k_l_state => k_is)
    (case a_l_draw => k_is)
    (case l_l_draw => k_is)
    (case c_l_draw_ => k_is)
    (case k_l_draw => k_is)
    (case a_l_pick => k_is)
    (case l_l_pick => k_is)
    (case c_l_pick_ => k_is)
    (case k_l_pick => k_is)
    (case a_l_great => k_is)
    (case l_l_great => k_is)
    (case c_l_great_ => k_is)
    (case k_l_great => k_is)
    (case a_l_labels => k_is)
    (case l_l_labels => k_is)
    (case c_l_labels_ => k_is)
    (case k_l_labels => k_is)
    (case a_l_values => k_is)
    (case l_l_values => k_is)
    (case c_l_values_ => k_is)
    (case k_l_values => k_is)
    (case a_l_advanced => k_is)
    (case l_l_advanced => k_is)
    (case c_l_advanced_ => k_is)
    (case k_l_advanced => k_is)
    (case a_l_played_round => k_is)
    (case l_l_played_round => k_is)
    (case c_l_played_round_ => k_is)
    (case k_l_played_round => k_is)
    (case a_l_once => k_is)
    (case l_l_once => k_is)
    (case c_l_once_ => k_is)
    (case k_l_once => k_is)
    (case a_l_twice => k_is)
    (case l_l_twice => k_is)
    (case c_l_twice_ => k_is)
    (case k_l_twice => k_is)
    (case a_l_after => k_is)
    (case l_l_after => k_is)
    (case c_l_after_ => k_is)
    (case k_l_after => k_is)
    (case a_l_told_right => k_is)
    (case l_l_told_right => k_is)
    (case c_l_told_right_ => k_is)
    (case k_l_told_right => k_is)
    (case a_law => k_is)
    (case l_law => k_is)
    (case c_law_ => k_is)
    (case k_law => k_is)
    (case a_Ring_init => k_is)
    (case i_Ring_init => k_is)
    (case l_Ring_init => k_is)
    (case c_Ring_init_ => k_is)
    (case k_Ring_init => k_is)
    (case a_Ring_names => k_is)
    (case i_Ring_names => k_is)
    (case l_Ring_names => k_is)
    (case c_Ring_names_ => k_is)
    (case k_Ring_names => k_is)
    (case a_Ring_order => k_is)
    (case i_Ring_order => k_is)
    (case l_Ring_order => k_is)
    (case c_Ring_order_ => k_is)
    (case k_Ring_order => k_is)
    (case a_Ring_next_of => k_is)
    (case i_Ring_next_of => k_is)
    (case l_Ring_next_of => k_is)
    (case c_Ring_next_of_ => k_is)
    (case k_Ring_next_of => k_is)
    (case a_Ring_counted_on => k_is)
    (case i_Ring_counted_on => k_is)
    (case l_Ring_counted_on => k_is)
    (case c_Ring_counted_on_ => k_is)
    (case k_Ring_counted_on => k_is)
    (case z_LETTERS => k_is)
    (case z_LONGEST_NAME => k_is)
    (case z_FEWEST => k_is)
    (case z_MOST => k_is)
    (case zm_abs => k_is)
    (case zm_all => k_is)
    (case zm_bool => k_is)
    (case zm_dict => k_is)
    (case zm_int => k_is)
    (case zm_isinstance => k_is)
    (case zm_len => k_is)
    (case zm_list => k_is)
    (case zm_min => k_is)
    (case zm_range => k_is)
    (case zm_set => k_is)
    (case zm_str => k_is)
    (case zm_tuple => k_is)
    (case zm_enumerate => k_is)
    (case zm_max => k_is)
    (case zm_sum => k_is)
