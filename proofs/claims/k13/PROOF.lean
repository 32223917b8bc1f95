import PyProof.Rows.All
import Wide.All
import OpenK.AllK
import Wide.FinOn
import HandS.Base
import HandS.Call
import HandS.List
import HandS.Set
import HandS.Strs
import HandS.Defaults
import HandS.Words
import HandS.ForMost
import HandS.Wide
import HandS.IsInst
import HandS.DictComp
import HandS.More
import HandS.Flow
import HandS.Evl
import HandS.Walk
import HandS.SortInts
import HandS.TupAny
import HandS.Conv
import HandS.Dict
import KE.KDictZip
import HandS.Style
import PySem.Challenge.RW_goersay_k13_whole_rings_turned
set_option Elab.async false
set_option linter.all false
set_option maxRecDepth 100000
set_option maxHeartbeats 4000000
/-! Own rule: len(set(xs)) of a list or tuple of texts, however many (the set itself is looked at by membership alone). -/
namespace GSet
open PySem PySem.Spec PyProof.Rows
/-- the texts met first, in order -/
def firsts (xs : List Str) : List Str := xs.foldl (fun acc x => if x ∈ acc then acc else acc ++ [x]) []
def more (acc : List Str) (x : Str) : List Str := if x ∈ acc then acc else acc ++ [x]
theorem firsts_snoc (xs : List Str) (x : Str) : firsts (xs ++ [x]) = more (firsts xs) x := by
  unfold firsts more
  rw [List.foldl_append]
  rfl
theorem mem_more {acc : List Str} {x y : Str} : y ∈ more acc x ↔ y ∈ acc ∨ y = x := by
  unfold more
  split
  · rename_i h
    exact ⟨.inl, fun z => z.elim id fun e => by rw [e]; exact h⟩
  · rw [List.mem_append, List.mem_singleton]
theorem more_len {acc : List Str} {x : Str} : (more acc x).length = if x ∈ acc then acc.length else acc.length + 1 := by
  unfold more
  split
  · rfl
  · rw [List.length_append]
    rfl
theorem firsts_le : ∀ (n : Nat) (xs : List Str), xs.length = n → (firsts xs).length ≤ n
  | 0, xs, h => by
    have e := List.eq_nil_of_length_eq_zero h
    subst e
    exact Nat.le_refl _
  | n + 1, xs, h => by
    have hne : xs ≠ [] := fun z => by rw [z] at h; cases h
    have ed := List.dropLast_concat_getLast hne
    have il := firsts_le n xs.dropLast (by rw [List.length_dropLast, h]; rfl)
    rw [← ed, firsts_snoc, more_len]
    split <;> omega
theorem more_nodup {acc : List Str} {x : Str} (h : acc.Nodup) : (more acc x).Nodup := by
  unfold more
  split
  · exact h
  · rename_i hx
    rw [List.nodup_append]
    refine ⟨h, List.nodup_cons.mpr ⟨List.not_mem_nil, List.nodup_nil⟩, fun a ha b hb e => ?_⟩
    rw [List.mem_singleton] at hb
    subst hb
    subst e
    exact hx ha
theorem firsts_nodup_eq {xs : List Str} (h : xs.Nodup) : ∀ i, i ≤ xs.length → firsts (xs.take i) = xs.take i
  | 0, _ => rfl
  | i + 1, hi => by
    have hlt : i < xs.length := hi
    have e1 : xs.take (i + 1) = xs.take i ++ [xs[i]] := by
      rw [List.take_succ, List.getElem?_eq_getElem hlt]
      rfl
    rw [e1, firsts_snoc, firsts_nodup_eq h i (Nat.le_of_lt hlt)]
    unfold more
    rw [if_neg]
    intro hm
    obtain ⟨j, hj, ej⟩ := List.mem_iff_getElem.mp hm
    rw [List.getElem_take] at ej
    rw [List.length_take] at hj
    have := (List.getElem_inj h).mp ej
    omega
theorem firsts_of_nodup {xs : List Str} (h : xs.Nodup) : firsts xs = xs := by
  have q := firsts_nodup_eq h xs.length (Nat.le_refl _)
  rwa [List.take_length] at q
theorem firsts_lt_of_dup {xs : List Str} (h : ¬ xs.Nodup) : (firsts xs).length < xs.length := by
  have key : ∀ (n : Nat) (ys : List Str), ys.length = n → ¬ ys.Nodup → (firsts ys).length < n := by
    intro n
    induction n with
    | zero =>
      intro ys hy hn
      have e := List.eq_nil_of_length_eq_zero hy
      subst e
      exact absurd List.nodup_nil hn
    | succ n ih =>
      intro ys hy hn
      have hne : ys ≠ [] := fun z => by rw [z] at hy; cases hy
      have ed := List.dropLast_concat_getLast hne
      have el : ys.dropLast.length = n := by rw [List.length_dropLast, hy]; rfl
      have ef : firsts ys = more (firsts ys.dropLast) (ys.getLast hne) := by rw [← firsts_snoc, ed]
      by_cases hd : ys.dropLast.Nodup
      · have hin : ys.getLast hne ∈ ys.dropLast := by
          refine Classical.byContradiction fun hc => hn ?_
          rw [← ed, List.nodup_append]
          refine ⟨hd, List.nodup_cons.mpr ⟨List.not_mem_nil, List.nodup_nil⟩, fun a ha b hb e => ?_⟩
          rw [List.mem_singleton] at hb
          rw [e, hb] at ha
          exact hc ha
        rw [ef, more_len, firsts_of_nodup hd, if_pos hin]
        omega
      · have := ih _ el hd
        rw [ef, more_len]
        split <;> omega
  exact key _ xs rfl h
theorem firsts_len_iff (xs : List Str) : (firsts xs).length = xs.length ↔ xs.Nodup := by
  refine ⟨fun e => Classical.byContradiction fun h => ?_, fun h => by rw [firsts_of_nodup h]⟩
  have := firsts_lt_of_dup h
  omega

section
variable {prog : Program} {w : World} {A : Around} {R : Result → Shared → Prop} {I : Addr} {fp wr : List Addr} {G : Array GenState → Array GenState → Prop} {n : Nat} {P : Nat → Value → Prop} {St : Nat → Shared → Prop}
/-- what stands in the set behind i items -/
abbrev InSet (prog : Program) (w : World) (h : Heap) (S : Addr) (xs : List Str) (i : Nat) : Prop :=
  h.SetOf (PySem.strKind prog w) S (fun k' => decide (k' ∈ firsts (xs.take i))) (firsts (xs.take i)).length
theorem turns (W : WalksS prog w A.in1 I fp wr G n P St) (S : Addr) (hSf : S ∉ fp) (xs : List Str) (hsz : xs.length = n) (hbig : n + 1 < scanBound)
    (hval : ∀ i v, P i v → ∃ t, v = .str (xs.getD i Str.empty) t) :
    ∀ (k i : Nat) (s : Shared), n - i = k → i ≤ n → St i s → InSet prog w s.heap S xs i →
      (∀ s', Moved (S :: wr) G s s' → InSet prog w s'.heap S xs n → R (.ok (.ret .none)) s') →
      codeAny (model prog w) A (.builtin "set.update.loop" ⟨[.ref S, .ref I], []⟩) R s := by
  have notW : S ∉ wr := fun z => hSf (W.sub _ z)
  have wide : ∀ b ∈ wr, b ∈ S :: wr := fun _ z => List.mem_cons_of_mem _ z
  intro k
  induction k with
  | zero =>
    intro i s hk hi hst hS hR
    obtain rfl : i = n := by omega
    refine codeAny_builtin PyProof.Rows.F.entry_set_update_loop ?_
    rw [Around.under_plainId PyProof.Rows.F.plain_set_update_loop _]
    show wpAny _ A.in1 (pyNext (.ref I) >>= _) _ _ s
    refine wpAny_bind (W.done s _ _ hst fun s1 mv => ?_)
    show wpAny _ A.in1 (ret Value.none) _ _ s1
    refine wpAny_pure (hR s1 (mv.mono wide) ?_)
    obtain ⟨o, es, ep, t, ho, more⟩ := hS
    exact ⟨o, es, ep, t, mv.heap S _ notW ho, more⟩
  | succ k ih =>
    intro i s hk hi hst hS hR
    have lt : i < n := by omega
    refine codeAny_builtin PyProof.Rows.F.entry_set_update_loop ?_
    rw [Around.under_plainId PyProof.Rows.F.plain_set_update_loop _]
    show wpAny _ A.in1 (pyNext (.ref I) >>= _) _ _ s
    refine wpAny_bind (W.item i s _ _ lt hst fun v s1 hP hst1 mv => ?_)
    obtain ⟨t, rfl⟩ := hval i v hP
    have hS1 : InSet prog w s1.heap S xs i := by
      obtain ⟨o, es, ep, tb, ho, more⟩ := hS
      exact ⟨o, es, ep, tb, mv.heap S _ notW ho, more⟩
    have hle : (firsts (xs.take i)).length ≤ i := firsts_le i (xs.take i) (by rw [List.length_take]; omega)
    show wpAny _ A.in1 (holding [Value.str (xs.getD i Str.empty) t] (setAdd S (.str (xs.getD i Str.empty) t)) >>= _) _ _ s1
    refine wpAny_bind (wpAny_holding ?_)
    unfold setAdd
    refine wpAny_holding (wpAny_bind ((PySem.strKind prog w).pyHash (k := xs.getD i Str.empty) (strKind_is _ _ _ _) ?_))
    refine wpAny_setAddHashed_of (knd := PySem.strKind prog w) (s := { s1 with toks := s1.toks + 1 }) (strKind_is _ _ _ _) rfl hS1 (by omega) fun h2 same hS2 => ?_
    have hlt : i < xs.length := by omega
    have et : xs.take (i + 1) = xs.take i ++ [xs.getD i Str.empty] := by
      rw [List.take_succ, List.getD_eq_getElem?_getD, List.getElem?_eq_getElem hlt]
      rfl
    have hSi : InSet prog w h2 S xs (i + 1) := by
      refine SetOf_congr hS2 (fun k' => ?_) ?_
      · rw [et, firsts_snoc, Bool.eq_iff_iff, Bool.or_eq_true, decide_eq_true_iff, decide_eq_true_iff, decide_eq_true_iff]
        exact mem_more.symm
      · rw [et, firsts_snoc, more_len]
        by_cases c : xs.getD i Str.empty ∈ firsts (xs.take i)
        · rw [if_pos c, if_pos (by rw [decide_eq_true_iff]; exact c)]
        · rw [if_neg c, if_neg (by rw [decide_eq_true_iff]; exact c)]
    have offS : ∀ b, b ∉ S :: wr → b ≠ S := fun b z e => z (by rw [e]; exact List.mem_cons_self)
    refine wpAny_pure ⟨plainId_quiet PyProof.Rows.F.plain_set_update_loop _, ih (i + 1) _ (by omega) lt (W.frame _ s1 _ _ hst1 (Nat.le_succ _) fun b hb o e => ?_) hSi fun s3 mv3 hS3 => ?_⟩
    · rw [same.2 b fun z => hSf (z ▸ hb)]
      exact e
    · refine hR s3 (Moved.trans W.gtrans ((mv.mono wide).then_heap (Nat.le_succ _) fun b o hb e => ?_) mv3) hS3
      rw [same.2 b (offS b hb)]
      exact e
end

section
variable {prog : Program} {w : World} {A : Around} {E : Value → Shared → Prop} {s : Shared}
/-- a set just made -/
abbrev Fso (led : Bool) : Obj := { cls := .type "set", dict := none, data := .set #[] 0 (.fresh 0 0 led) }
/-- what a fresh set of the texts is, and that nothing else has changed -/
abbrev Made (prog : Program) (w : World) (h0 h1 : Heap) (xs : List Str) : Prop :=
  InSet prog w h1 h0.objs.size xs xs.length ∧ ∀ b o, b < h0.objs.size → h0.get? b = some o → h1.get? b = some o

set_option maxHeartbeats 3200000 in
theorem set_of_list {l : Addr} {items : Array Value} {xs : List Str} {Q : Value → Shared → Prop} (hh : A.handled = none) (hl : s.heap.IsList l items) (hi : StrsAre items.toList xs) (hbig : xs.length + 1 < scanBound)
    (k : ∀ (h1 : Heap) (tk : Nat), Made prog w s.heap h1 xs → Q (.ref s.heap.objs.size) { s with heap := h1, toks := tk }) : wpAny (model prog w) A (call (.type "set") [.ref l]) Q E s := by
  obtain ⟨c, tl, hmro⟩ := PySem.F.called_set.mro
  have hmade := PySem.F.called_set.made; have hsub := PySem.F.called_set.sub
  refine wpAny_call (codeAny_of_tree (show wpAny _ _ (callAny (.type "set") _) _ _ _ from wpAny_pure ⟨Code.quiet_builtin _ (by decide +kernel), codeAny_builtin PySem.F.entry_type_call ?_⟩))
  rw [Around.under_plain (weight_type_call_type "set" [.ref l] []) rfl]
  have h1 := PySem.F.called_set.notType; have h2 := PySem.F.called_set.canCreate; have hct := PySem.F.typeCall_set_1 (.ref l)
  repeat (any_goals (first | assumption | wp_step))
  refine codeAny_mono (code_set_new_1 (.ref l) (E := E) (Q₁ := fun ob z => ∃ led : Bool, ob = .ref s.heap.objs.size ∧ z = { s with heap := s.heap.push (Fso led) }) fun led => ⟨led, rfl, rfl⟩) fun r z hr => ?_
  cases r with
  | error e => exact hr
  | ok fl =>
    cases fl with
    | ret ob =>
      obtain ⟨led, rfl, rfl⟩ := hr
      have hS : (s.heap.push (Fso led)).get? s.heap.objs.size = some (Fso led) := Heap.get?_push_size _ rfl
      have hT : Shared.TypeIs { s with heap := s.heap.push (Fso led) } (.ref s.heap.objs.size) "set" := ⟨_, hS, rfl⟩
      have hli := PySem.F.called_set.init.lookup; have hbi := PySem.F.called_set.init.bind (.ref s.heap.objs.size)
      repeat (any_goals (first | assumption | wp_step))
      refine codeAny_mono (codeAny_call_builtin (R := wants (fun r z => r = .none ∧ ∃ h1 tk, z = { s with heap := h1, toks := tk } ∧ Made prog w s.heap h1 xs) E)
        PySem.F.called_set.init.plain PySem.F.entry_set_init (check_set_init_1 hT ?_)) fun r2 z2 hr2 => ?_
      · obtain ⟨⟨oc, od, odat, osl⟩, hol, hcl, nl, hdl⟩ := hl
        simp only at hcl hdl; subst hcl; subst hdl
        have hol2 : (s.heap.push (Fso led)).get? l = some { cls := .type "list", dict := od, data := .seq items nl, slots := osl } := Heap.get?_push_of_some _ hol
        have q1 := PySem.F.sub_list_set; have q2 := PySem.F.sub_list_frozenset; have q3 : (Value.type "list" == Value.type "dict") = false := by decide
        have hl1 : (s.heap.push (Fso led)).IsList l items := ⟨_, hol2, rfl, nl, rfl⟩
        unfold Builtin.«set.__init__» noKeywords Builtin.Frozenset.updateFrom
        generalize hPI : pyIter = PI
        wp_walk
        subst hPI
        refine wpAny_pyIter_list hl1 ?_; refine wpAny_bind (wpAny_runValue ?_)
        have lt := Heap.lt_size hol
        have hsz : xs.length = items.size := by rw [← StrsAre.len_eq hi, Array.length_toList]
        have apart : l ≠ (s.heap.push (Fso led)).objs.size := by rw [Heap.size_push]; exact Nat.ne_of_lt (Nat.lt_succ_of_lt lt)
        have off : s.heap.objs.size ∉ [(s.heap.push (Fso led)).objs.size, l] := by
          rw [Heap.size_push]; simp only [List.mem_cons, List.not_mem_nil, or_false, not_or]; exact ⟨Nat.ne_of_lt (Nat.lt_succ_self _), Nat.ne_of_gt lt⟩
        refine turns ((Walks.list (show A.in1.in1.in1.handled = none by simp [hh]) _ l apart items).toS) s.heap.objs.size off xs hsz (by omega)
          (fun i v hv => SS.strs_at hi i v (by rw [Array.getElem?_toList]; exact hv)) (items.size - 0) 0 _ (by omega) (Nat.zero_le _) ⟨⟨_, Heap.get?_push_size _ rfl, rfl, rfl⟩, hl1.push _⟩ ?start0 ?rest0
        case start0 =>
          have hget : ((s.heap.push (Fso led)).push { cls := .type "list_iterator", data := .fields #[.ref l, .int 0 0] }).get? s.heap.objs.size = some (Fso led) := Heap.get?_push_of_some _ hS
          exact SetOf_congr ((setObjOf_fresh (knd := PySem.strKind prog w) led).setOf hget (by unfold scanBound; omega)) (fun _ => rfl) rfl
        case rest0 =>
          rintro ⟨h3, g3, d3, tk3, os3⟩ hm hS3
          obtain rfl : g3 = s.gens := hm.gens
          obtain rfl : d3 = s.drawn := hm.drawn
          obtain rfl : os3 = s.os := hm.os
          show wpAny _ _ _ _ _ _
          refine wpAny_pure ?_
          show wpAny _ _ (ret Value.none) _ _ _
          rw [← hsz] at hS3
          refine wpAny_pure ⟨rfl, h3, tk3, rfl, hS3, fun b o hb e => hm.heap b o ?_ (Heap.get?_push_of_some _ (Heap.get?_push_of_some _ e))⟩
          rw [Heap.size_push]; simp only [List.mem_cons, List.not_mem_nil, or_false, not_or]; exact ⟨Nat.ne_of_lt hb, Nat.ne_of_lt (Nat.lt_succ_of_lt hb)⟩
      · cases r2 with
        | error e => exact hr2
        | ok fl2 =>
          cases fl2 with
          | ret r =>
            obtain ⟨rfl, h1, tk, rfl, hm⟩ := hr2
            repeat (any_goals (first | assumption | wp_step))
            exact k _ _ hm
          | _ => exact hr2.elim
    | _ => exact hr.elim

set_option maxHeartbeats 3200000 in
theorem set_of_tuple {l : Addr} {items : Array Value} {xs : List Str} {Q : Value → Shared → Prop} (hh : A.handled = none) (hl : s.heap.IsTuple l items) (hi : StrsAre items.toList xs) (hbig : xs.length + 1 < scanBound)
    (k : ∀ (h1 : Heap) (tk : Nat), Made prog w s.heap h1 xs → Q (.ref s.heap.objs.size) { s with heap := h1, toks := tk }) : wpAny (model prog w) A (call (.type "set") [.ref l]) Q E s := by
  obtain ⟨c, tl, hmro⟩ := PySem.F.called_set.mro
  have hmade := PySem.F.called_set.made; have hsub := PySem.F.called_set.sub
  refine wpAny_call (codeAny_of_tree (show wpAny _ _ (callAny (.type "set") _) _ _ _ from wpAny_pure ⟨Code.quiet_builtin _ (by decide +kernel), codeAny_builtin PySem.F.entry_type_call ?_⟩))
  rw [Around.under_plain (weight_type_call_type "set" [.ref l] []) rfl]
  have h1 := PySem.F.called_set.notType; have h2 := PySem.F.called_set.canCreate; have hct := PySem.F.typeCall_set_1 (.ref l)
  repeat (any_goals (first | assumption | wp_step))
  refine codeAny_mono (code_set_new_1 (.ref l) (E := E) (Q₁ := fun ob z => ∃ led : Bool, ob = .ref s.heap.objs.size ∧ z = { s with heap := s.heap.push (Fso led) }) fun led => ⟨led, rfl, rfl⟩) fun r z hr => ?_
  cases r with
  | error e => exact hr
  | ok fl =>
    cases fl with
    | ret ob =>
      obtain ⟨led, rfl, rfl⟩ := hr
      have hS : (s.heap.push (Fso led)).get? s.heap.objs.size = some (Fso led) := Heap.get?_push_size _ rfl
      have hT : Shared.TypeIs { s with heap := s.heap.push (Fso led) } (.ref s.heap.objs.size) "set" := ⟨_, hS, rfl⟩
      have hli := PySem.F.called_set.init.lookup; have hbi := PySem.F.called_set.init.bind (.ref s.heap.objs.size)
      repeat (any_goals (first | assumption | wp_step))
      refine codeAny_mono (codeAny_call_builtin (R := wants (fun r z => r = .none ∧ ∃ h1 tk, z = { s with heap := h1, toks := tk } ∧ Made prog w s.heap h1 xs) E)
        PySem.F.called_set.init.plain PySem.F.entry_set_init (check_set_init_1 hT ?_)) fun r2 z2 hr2 => ?_
      · obtain ⟨⟨oc, od, odat, osl⟩, hol, hcl, nl, hdl⟩ := hl
        simp only at hcl hdl; subst hcl; subst hdl
        have hol2 : (s.heap.push (Fso led)).get? l = some { cls := .type "tuple", dict := od, data := .seq items nl, slots := osl } := Heap.get?_push_of_some _ hol
        have q1 := PySem.F.sub_tuple_set; have q2 := PySem.F.sub_tuple_frozenset; have q3 : (Value.type "tuple" == Value.type "dict") = false := by decide
        have hl1 : (s.heap.push (Fso led)).IsTuple l items := ⟨_, hol2, rfl, nl, rfl⟩
        unfold Builtin.«set.__init__» noKeywords Builtin.Frozenset.updateFrom
        generalize hPI : pyIter = PI
        wp_walk
        subst hPI
        refine wpAny_pyIter_tuple hl1 ?_; refine wpAny_bind (wpAny_runValue ?_)
        have lt := Heap.lt_size hol
        have hsz : xs.length = items.size := by rw [← StrsAre.len_eq hi, Array.length_toList]
        have apart : l ≠ (s.heap.push (Fso led)).objs.size := by rw [Heap.size_push]; exact Nat.ne_of_lt (Nat.lt_succ_of_lt lt)
        have off : s.heap.objs.size ∉ [(s.heap.push (Fso led)).objs.size, l] := by
          rw [Heap.size_push]; simp only [List.mem_cons, List.not_mem_nil, or_false, not_or]; exact ⟨Nat.ne_of_lt (Nat.lt_succ_self _), Nat.ne_of_gt lt⟩
        refine turns ((Walks.tuple (show A.in1.in1.in1.handled = none by simp [hh]) _ l apart items).toS) s.heap.objs.size off xs hsz (by omega)
          (fun i v hv => SS.strs_at hi i v (by rw [Array.getElem?_toList]; exact hv)) (items.size - 0) 0 _ (by omega) (Nat.zero_le _) ⟨⟨_, Heap.get?_push_size _ rfl, rfl, rfl⟩, hl1.push _⟩ ?start0 ?rest0
        case start0 =>
          have hget : ((s.heap.push (Fso led)).push { cls := .type "tuple_iterator", data := .fields #[.ref l, .int 0 0] }).get? s.heap.objs.size = some (Fso led) := Heap.get?_push_of_some _ hS
          exact SetOf_congr ((setObjOf_fresh (knd := PySem.strKind prog w) led).setOf hget (by unfold scanBound; omega)) (fun _ => rfl) rfl
        case rest0 =>
          rintro ⟨h3, g3, d3, tk3, os3⟩ hm hS3
          obtain rfl : g3 = s.gens := hm.gens
          obtain rfl : d3 = s.drawn := hm.drawn
          obtain rfl : os3 = s.os := hm.os
          show wpAny _ _ _ _ _ _
          refine wpAny_pure ?_
          show wpAny _ _ (ret Value.none) _ _ _
          rw [← hsz] at hS3
          refine wpAny_pure ⟨rfl, h3, tk3, rfl, hS3, fun b o hb e => hm.heap b o ?_ (Heap.get?_push_of_some _ (Heap.get?_push_of_some _ e))⟩
          rw [Heap.size_push]; simp only [List.mem_cons, List.not_mem_nil, or_false, not_or]; exact ⟨Nat.ne_of_lt hb, Nat.ne_of_lt (Nat.lt_succ_of_lt hb)⟩
      · cases r2 with
        | error e => exact hr2
        | ok fl2 =>
          cases fl2 with
          | ret r =>
            obtain ⟨rfl, h1, tk, rfl, hm⟩ := hr2
            repeat (any_goals (first | assumption | wp_step))
            exact k _ _ hm
          | _ => exact hr2.elim
    | _ => exact hr.elim

end
end GSet
namespace L2
open PySem PySem.Spec PyProof.Rows
/-- len(set(xs)), xs a list or tuple of texts -/
def tLenSetS (K : PySem.W.Frag) (ta : TE) : TE := fun σ H Q => ta σ H fun x H1 => ∃ l, ∃ xs : List Str, x = .ref l ∧ (SqL K H1 l (xs.map V.str) ∨ SqT K H1 l (xs.map V.str)) ∧ xs.length ≤ 1000 ∧ Q (.int (GSet.firsts xs).length) H1
theorem pe_lenSetS {X : Cx} {a : Expr} {ta : TE} {p p2 q pos : Pos} (hc : X.calm = true) (hm : X.mg "len" = none) (hm2 : X.mg "set" = none) (ha : PE X a ta) (hg : Gl X "len" := by rfl) (hg2 : Gl X "set" := by rfl)
    (na : starEach [a] X.env = (false, eval a X.env) :: starEach [] X.env := by rfl) : PE X (.Call (.Name "len" p) [.Call (.Name "set" p2) [a] [] q] [] pos) (tLenSetS X.K ta) := by
  refine ⟨fun pins s σ H Q I h => Call_ (ld_blt I hg hm boot_len (callWith_builtin1 (args_cons ?_ rfl) rfl rfl))⟩
  refine Call_ (ld_blt I hg2 hm2 boot_set (callWith_type1 (args_cons (thn (ha.run pins s σ H _ I h) fun v s1 ⟨x, H1, I1, r1, q1⟩ => args_nil ?_) na) na rfl))
  obtain ⟨l, xs, rfl, hq, hl, q1⟩ := q1
  cases r1
  have big : xs.length + 1 < scanBound := by unfold scanBound; omega
  have fin : ∀ (h1 : Heap) (tk : Nat), GSet.Made X.prog X.w s1.heap h1 xs →
      wpAny (model X.prog X.w) X.A (spliced (backTo pos (starEach [] X.env))) (fun vs z => wpAny (model X.prog X.w) X.A (call (.builtin "len") (Value.ref s1.heap.objs.size :: vs)) (EP X pins σ Q) X.xe z) X.xe { s1 with heap := h1, toks := tk } := fun h1 tk ⟨hS, hk⟩ => by
    have le := GSet.firsts_le xs.length (xs.take xs.length) (by rw [List.take_length])
    obtain ⟨o, es, ep, t, ho, hex, hd, _, _, _, hf, hn⟩ := hS
    have I2 : Inv X pins σ H1 { s1 with heap := h1, toks := tk } := I1.kept fun b o e => hk b o (Heap.lt_size e) e
    refine args_nil (call_len_set ho hex hd hf (by rw [hn]; omega) ⟨.int (GSet.firsts xs).length, H1, I2.tok _, ⟨_, by rw [hn, List.take_length]⟩, q1⟩)
  rcases hq with hq | hq
  · obtain ⟨its, r, pl, hz⟩ := I1.list hq
    exact GSet.set_of_list (I1.ok.hd hc) pl.isList (by simpa using strsAre_of r) big fin
  · obtain ⟨its, r, pl, hz⟩ := I1.tuple hq
    exact GSet.set_of_tuple (I1.ok.hd hc) pl (by simpa using strsAre_of r) big fin
end L2
/-! Own rule: o.m(k = v, ..), a method of an own class called by keywords alone. -/
namespace L2
open PySem PySem.Spec PyProof.Rows
/-- [o], its class, then the keywords' values, then the promise of them in the parameters' order -/
def tMethKw (C : Addr) (m : Str) (n : Nat) (sp : Sp) (gV : List V → List V → List V) (E : XK) (ta : TE) (tk : TA) : TE := fun σ H Q =>
  ta σ H fun x H1 => ∃ a dx fs, x = .ref a ∧ H1 a = some (.ins C dx fs) ∧ fs.lookup m = none ∧ tk σ H1 fun zs H2 => zs.length = n ∧ sp (gV [x] zs) H2 Q E
section
variable {X : Cx} {CX : CXT} {k : Nat} {f C : Addr} {fd : FuncData} {ps ks : List Str} {sp : Sp} {E : XK} {o : Expr} {m : Str} {ta : TE} {apos : Pos} {pos : Pos} {kws : List Keyword} {tk : TA} {g : List Value → List Value → List Value} {gV : List V → List V → List V}
theorem pe_methKw {pl : Sem Bool} (he : PE X o ta) (c : Cls X.K C) (hm : Meth X.K C m f) (F : FnOk X.prog X.w X.K X.mg X.base CX k f fd ps sp) (hr : Room k X.A) (hb : KBn X.K fd ps 1 ks g gV) (hx : Passes CX X E) (hkw : PK X kws tk)
    (hall : (backToKw pos (keywordEach kws X.env)).all (·.1.isSome) = true := by rfl) (hks : (backToKw pos (keywordEach kws X.env)).filterMap (·.1) = ks := by rfl)
    (hpl : ((backTo pos (starEach [] X.env)).any (·.1) || (backToKw pos (keywordEach kws X.env)).any (·.1.isNone)) = false := by rfl)
    (ht : eval (.Call (.Attribute o m apos) [] kws pos) X.env = (do
      let v ← eval o X.env
      standAt apos.atName
      let (q, first) ← holding [v] (getMethod v m pl)
      callWith pos q first (backTo pos (starEach [] X.env)) (backToKw pos (keywordEach kws X.env))) := by rfl) :
    PE X (.Call (.Attribute o m apos) [] kws pos) (tMethKw C m ks.length sp gV E ta tk) := by
  refine ⟨fun pins s σ H Q I h => PySem.W.methodCall_KW (pl := pl) (thn (he.run pins s σ H _ I h) fun u s1 ⟨x, H1, I1, rx, a, dx, fs, ex, ea, l, q⟩ => ?_) ht⟩
  subst ex
  obtain rfl : u = Value.ref a := rx
  refine getmeth_ok I1 ea c hm l (PySem.W.callWith_KW0 (first := [.ref a]) (h₀ := X.base) I.ok.mod.kin hm.kp hall ?_ hpl)
  refine thn (hkw.run pos pins s1 σ H1 _ I1 q) fun ws s2 ⟨zs, H2, I2, rz, l2, q2⟩ => ⟨I2.kIn, ?_⟩
  rw [hks]
  exact run_fnN (us := [.ref a]) (vs := [.ref a]) F hr hb hx I2 (.cons rfl .nil) rz rfl l2 q2
end
/-- how one keyword behind self binds: h is «fun _ _ _ _ _ _ us ws l1 l2 => match us, ws, l1, l2 with | [_], [_], _, _ => rfl» -/
theorem Fun.kbn {K : PySem.W.Frag} {x qual : Str} {st : Stmt} {f : Addr} {fd : FuncData} {ps ks : List Str} {n : Nat} (F : Fun K x qual st f fd)
    (h : ∀ (kV doc pm : Value) (an : Option Addr) (cdv ct : Value) (us ws : List Value), us.length = n → ws.length = ks.length → bindArgs (PySem.W.fnOf x qual (defArgs st) (defBody st) (defScope st) .none kV doc pm an cdv ct) ⟨us, ks.zip ws⟩ = pure (ps.zip (us ++ ws))) :
    KBn K fd ps n ks (fun us ws => us ++ ws) (fun us ws => us ++ ws) := by
  obtain ⟨oc, od, kV, doc, pm, an, cdv, ct, osl, rfl, lk, hcd⟩ := F.ex
  exact ⟨fun s us ws _ l1 l2 => .of_eq (h kV doc pm an cdv ct us ws l1 l2), fun r rz => r.append rz⟩
/-- by places -/
def byPl {α : Type} (is : List Nat) (_us ws : List α) : List α := is.filterMap fun i => ws[i]?
theorem Vals.at? : ∀ {zs : List V} {ws : List Value} (i : Nat), Vals zs ws → (∃ z w, zs[i]? = some z ∧ ws[i]? = some w ∧ RelV z w) ∨ (zs[i]? = none ∧ ws[i]? = none)
  | _, _, _, .nil => .inr ⟨rfl, rfl⟩
  | _, _, 0, .cons r _ => .inl ⟨_, _, rfl, rfl, r⟩
  | _, _, i + 1, .cons _ t => Vals.at? i t
theorem Vals.byPl {zs : List V} {ws : List Value} (r : Vals zs ws) : ∀ is : List Nat, Vals (is.filterMap fun i => zs[i]?) (is.filterMap fun i => ws[i]?)
  | [] => .nil
  | i :: t => by
    have ih := Vals.byPl r t
    rcases Vals.at? i r with ⟨z, w, e1, e2, q⟩ | ⟨e1, e2⟩
    · rw [List.filterMap_cons_some e1, List.filterMap_cons_some e2]
      exact .cons q ih
    · rw [List.filterMap_cons_none e1, List.filterMap_cons_none e2]
      exact ih
/-- f(k = v, ..): keywords alone, is: where each parameter's value stands among them -/
theorem Fun.kbp {K : PySem.W.Frag} {x qual : Str} {st : Stmt} {f : Addr} {fd : FuncData} {ps ks : List Str} (is : List Nat) (F : Fun K x qual st f fd)
    (h : ∀ (kV doc pm : Value) (an : Option Addr) (cdv ct : Value) (ws : List Value), ws.length = ks.length → bindArgs (PySem.W.fnOf x qual (defArgs st) (defBody st) (defScope st) .none kV doc pm an cdv ct) ⟨[], ks.zip ws⟩ = pure (ps.zip (byPl is [] ws))) :
    KBn K fd ps 0 ks (byPl is) (byPl is) := by
  obtain ⟨oc, od, kV, doc, pm, an, cdv, ct, osl, rfl, lk, hcd⟩ := F.ex
  refine ⟨fun s us ws _ l1 l2 => .of_eq ?_, fun r rz => Vals.byPl rz is⟩
  cases us with
  | nil => exact h kV doc pm an cdv ct ws l2
  | cons _ _ => cases l1
def tCallK0 (n : Nat) (sp : Sp) (gV : List V → List V → List V) (E : XK) (tk : TA) : TE := fun σ H Q => tk σ H fun zs H2 => zs.length = n ∧ sp (gV [] zs) H2 Q E
section
variable {X : Cx} {CX : CXT} {k : Nat} {f : Addr} {fd : FuncData} {ps ks : List Str} {sp : Sp} {E : XK} {x : Str} {p pos : Pos} {kws : List Keyword} {tk : TA} {g : List Value → List Value → List Value} {gV : List V → List V → List V}
theorem pe_callK0 (F : FnOk X.prog X.w X.K X.mg X.base CX k f fd ps sp) (hr : Room k X.A) (hg : Gl X x) (hm : X.mg x = some (.ref f)) (hk : PySem.W.keepIn X.K (.ref f) = true) (hb : KBn X.K fd ps 0 ks g gV) (hx : Passes CX X E)
    (hkw : PK X kws tk) (hall : (backToKw pos (keywordEach kws X.env)).all (·.1.isSome) = true := by rfl) (hks : (backToKw pos (keywordEach kws X.env)).filterMap (·.1) = ks := by rfl)
    (hdb : (x == ("__debug__" : Str)) = false := by decide)
    (hpl : ((backTo pos (starEach [] X.env)).any (·.1) || (backToKw pos (keywordEach kws X.env)).any (·.1.isNone)) = false := by rfl) :
    PE X (.Call (.Name x p) [] kws pos) (tCallK0 ks.length sp gV E tk) := by
  refine ⟨fun pins s σ H Q I h => ?_⟩
  refine wpAny_Call_Name_kw (ld_glob I hg hm ?_ hdb)
  refine PySem.W.callWith_KW0 (h₀ := X.base) (first := []) I.ok.mod.kin hk hall ?_ hpl
  refine thn (hkw.run pos pins s σ H _ I h) fun ws s2 ⟨zs, H2, I2, rz, l2, q2⟩ => ⟨I2.kIn, ?_⟩
  rw [hks]
  exact run_fnN (us := []) (vs := []) F hr hb hx I2 .nil rz rfl l2 q2
end
end L2
/-! Lemmas that every law of this program wants: the state of the draws, lists and texts, what a comparison of data tells. -/
namespace GL
open PySem PySem.Spec PyProof.Rows L2
/-! ### the draws' state: a list at S, its cells at C -/
def StOk (H : Hp) (S C : Addr) : Prop := ∃ (cells : List Int) (k m : Int), H S = some (.lst [.ref C, .int k, .int m]) ∧ H C = some (.lst (cells.map V.int)) ∧ 0 < cells.length ∧ cells.length ≤ 63 ∧ (∀ c ∈ cells, 0 ≤ c) ∧ 0 ≤ k ∧ 0 ≤ m ∧ m < 2147483647
/-- all but the state stands as it stood -/
def Mod (S C : Addr) (H H' : Hp) : Prop := ∀ b o, H b = some o → b ≠ S → b ≠ C → H' b = some o
theorem Mod.refl (S C : Addr) (H : Hp) : Mod S C H H := fun _ _ h _ _ => h
theorem Mod.trans {S C : Addr} {H H1 H2 : Hp} (a : Mod S C H H1) (b : Mod S C H1 H2) : Mod S C H H2 := fun x o h n1 n2 => b x o (a x o h n1 n2) n1 n2
theorem Mod.of {S C : Addr} {H H1 : Hp} (a : Same H H1) : Mod S C H H1 := fun x o h _ _ => a x o h
theorem same_new {H : Hp} {p : Addr} {o : HO} (h : H p = none) : Same H (upd H p o) := fun b x e => by
  rw [upd_ne (ne_of_none e h)]
  exact e
/-- a new object of the call's own may change -/
theorem _root_.L2.Same.own {H H1 : Hp} {p : Addr} {o : HO} (s : Same H H1) (h : H p = none) : Same H (upd H1 p o) := fun b x e => by
  rw [upd_ne (ne_of_none e h)]
  exact s b x e
theorem Mod.own {S C : Addr} {H H1 : Hp} {p : Addr} {o : HO} (s : Mod S C H H1) (h : H p = none) : Mod S C H (upd H1 p o) := fun b x e n1 n2 => by
  rw [upd_ne (ne_of_none e h)]
  exact s b x e n1 n2
theorem StOk.ne {H : Hp} {S C : Addr} (h : StOk H S C) : S ≠ C := fun e => by
  obtain ⟨cells, k, m, h1, h2, _⟩ := h
  rw [e, h2] at h1
  cases cells with
  | nil => cases h1
  | cons x r => cases h1
theorem StOk.same {H H' : Hp} {S C : Addr} (h : StOk H S C) (s : Same H H') : StOk H' S C := by
  obtain ⟨cells, k, m, h1, h2, r⟩ := h
  exact ⟨cells, k, m, s _ _ h1, s _ _ h2, r⟩
theorem StOk.upd {H : Hp} {S C p : Addr} {o : HO} (h : StOk H S C) (n1 : p ≠ S) (n2 : p ≠ C) : StOk (upd H p o) S C := by
  obtain ⟨cells, k, m, h1, h2, r⟩ := h
  exact ⟨cells, k, m, by rw [upd_ne n1.symm]; exact h1, by rw [upd_ne n2.symm]; exact h2, r⟩
theorem StOk.neS {H : Hp} {S C p : Addr} (h : StOk H S C) (n : H p = none) : p ≠ S := fun e => by
  obtain ⟨cells, k, m, h1, h2, r⟩ := h
  rw [e, h1] at n
  cases n
theorem StOk.neC {H : Hp} {S C p : Addr} (h : StOk H S C) (n : H p = none) : p ≠ C := fun e => by
  obtain ⟨cells, k, m, h1, h2, r⟩ := h
  rw [e, h2] at n
  cases n
/-- an object of another kind is none of the two -/
theorem StOk.offL {H : Hp} {S C p : Addr} {o : HO} (h : StOk H S C) (e : H p = some o) (k : ∀ xs, o ≠ .lst xs) : p ≠ S ∧ p ≠ C := by
  obtain ⟨cells, i, m, h1, h2, r⟩ := h
  refine ⟨fun z => ?_, fun z => ?_⟩
  · rw [z, h1] at e
    exact k _ (Option.some.inj e).symm
  · rw [z, h2] at e
    exact k _ (Option.some.inj e).symm
theorem StOk.offS {H : Hp} {S C p : Addr} {ys : List Str} (h : StOk H S C) (e : H p = some (.lst (ys.map V.str))) : p ≠ S ∧ p ≠ C := by
  obtain ⟨cells, i, m, h1, h2, h0, r⟩ := h
  refine ⟨fun z => ?_, fun z => ?_⟩
  · rw [z, h1] at e
    cases ys with
    | nil => cases e
    | cons y r => cases e
  · rw [z, h2] at e
    cases ys with
    | nil =>
      cases cells with
      | nil => exact absurd h0 (Nat.lt_irrefl _)
      | cons x r => cases e
    | cons y r =>
      cases cells with
      | nil => cases e
      | cons x r => cases e
theorem Mod.strs {S C p : Addr} {H H' : Hp} {ys : List Str} (m : Mod S C H H') (h : StOk H S C) (e : H p = some (.lst (ys.map V.str))) : H' p = some (.lst (ys.map V.str)) :=
  m _ _ e (h.offS e).1 (h.offS e).2
theorem Mod.other {S C p : Addr} {H H' : Hp} {o : HO} (m : Mod S C H H') (h : StOk H S C) (e : H p = some o) (k : ∀ xs, o ≠ .lst xs) : H' p = some o :=
  m _ _ e (h.offL e k).1 (h.offL e k).2
/-! ### items -/
theorem cell_at {xs : List Int} {z : Int} (h0 : 0 ≤ z) (h : z < (xs.length : Int)) : ∃ (j : Nat) (c : Int), z = (j : Int) ∧ j < xs.length ∧ xs[j]? = some c ∧ (xs.map V.int)[j]? = some (.int c) ∧ c ∈ xs := by
  obtain ⟨j, rfl⟩ := Int.eq_ofNat_of_zero_le h0
  have hj : j < xs.length := by omega
  refine ⟨j, xs[j], rfl, hj, List.getElem?_eq_getElem hj, ?_, List.getElem_mem hj⟩
  rw [List.getElem?_map, List.getElem?_eq_getElem hj]
  rfl
theorem ixN_of {n j : Nat} {z : Int} (e : z = (j : Int)) (h : j < n) : ixN n z = some j := by
  subst e
  unfold ixN
  rw [if_pos (by omega), if_pos (by omega)]
  rfl
theorem lst3_set1 (a b c d : V) : ([a, b, c] : List V).set 1 d = [a, d, c] := rfl
theorem at_some {α : Type} {xs : List α} {d : Int} (h0 : 0 ≤ d) (h : d < (xs.length : Int)) : ∃ j v, d = ((j : Nat) : Int) ∧ xs[j]? = some v ∧ v ∈ xs := by
  obtain ⟨j, rfl⟩ := Int.eq_ofNat_of_zero_le h0
  have hj : j < xs.length := by omega
  exact ⟨j, xs[j], rfl, List.getElem?_eq_getElem hj, List.getElem_mem hj⟩
theorem atI_at {α : Type} {xs : List α} {d : Int} {j : Nat} {v : α} (e : d = ((j : Nat) : Int)) (h : xs[j]? = some v) : atI xs d = some v := by
  subst e
  unfold atI
  rw [ixN_of rfl (List.getElem?_eq_some_iff.mp h).1]
  exact h
theorem strs_at {xs : List Str} {j : Nat} {v : Str} (h : xs[j]? = some v) : (xs.map V.str)[j]? = some (.str v) := by
  rw [List.getElem?_map, h]
  rfl
theorem of_strs_at {xs : List Str} {j : Nat} {v : V} (h : (xs.map V.str)[j]? = some v) : ∃ z, xs[j]? = some z ∧ v = .str z := by
  rw [List.getElem?_map] at h
  cases e : xs[j]? with
  | none => rw [e] at h; cases h
  | some z => rw [e] at h; exact ⟨z, rfl, (Option.some.inj h).symm⟩
theorem of_ints_at {xs : List Int} {j : Nat} {v : V} (h : (xs.map V.int)[j]? = some v) : ∃ z, xs[j]? = some z ∧ v = .int z := by
  rw [List.getElem?_map] at h
  cases e : xs[j]? with
  | none => rw [e] at h; cases h
  | some z => rw [e] at h; exact ⟨z, rfl, (Option.some.inj h).symm⟩
theorem take_snoc {α : Type} {l : List α} {i : Nat} {x : α} (h : l[i]? = some x) : l.take (i + 1) = l.take i ++ [x] := by
  rw [List.take_succ, h]
  rfl
theorem small_nat {n : Nat} (h : n ≤ 100000) : (n : Int).natAbs < 2 ^ 200 := by
  rw [Int.natAbs_natCast]
  exact Nat.lt_of_le_of_lt h (by decide)
theorem small_sz {n : Nat} (h : n ≤ 100000) : n ≤ sizeLine := Nat.le_trans h (by decide)
theorem small_lt {n : Nat} (h : n < 100000) : n < sizeLine := Nat.lt_of_lt_of_le h (by decide)
/-- one taken out -/
theorem erase_perm {α : Type} : ∀ {l : List α} {j : Nat} {x : α}, l[j]? = some x → (x :: l.eraseIdx j).Perm l
  | [], _, _, h => by simp at h
  | a :: r, 0, x, h => by
    have e : a = x := Option.some.inj h
    subst e
    exact .refl _
  | a :: r, j + 1, x, h => by
    have ih := erase_perm (l := r) (j := j) (x := x) h
    show (x :: a :: r.eraseIdx j).Perm (a :: r)
    exact (List.Perm.swap _ _ _).trans (ih.cons a)
theorem erase_map {α β : Type} (f : α → β) : ∀ (l : List α) (j : Nat), (l.map f).eraseIdx j = (l.eraseIdx j).map f
  | [], _ => rfl
  | a :: r, 0 => rfl
  | a :: r, j + 1 => by
    show f a :: (r.map f).eraseIdx j = f a :: (r.eraseIdx j).map f
    rw [erase_map f r j]
theorem take_min {α : Type} (xs : List α) (k : Nat) : xs.take (min k xs.length) = xs.take k := by
  by_cases h : k ≤ xs.length
  · rw [Nat.min_eq_left h]
  · rw [Nat.min_eq_right (by omega), List.take_length, List.take_of_length_le (by omega)]
theorem drop_min {α : Type} (xs : List α) (k : Nat) : xs.drop (min k xs.length) = xs.drop k := by
  by_cases h : k ≤ xs.length
  · rw [Nat.min_eq_left h]
  · rw [Nat.min_eq_right (by omega), List.drop_length, List.drop_of_length_le (by omega)]
theorem cut_take (xs : List V) (k : Nat) : cutV xs none (some (k : Int)) = xs.take k := by
  unfold cutV
  rw [HT.sIx_none, HT.sIx_nat, List.drop_zero, Nat.sub_zero, take_min]
theorem cut_drop (xs : List V) (k : Nat) : cutV xs (some (k : Int)) none = xs.drop k := by
  unfold cutV
  rw [HT.sIx_none, HT.sIx_nat, drop_min, List.take_of_length_le]
  rw [List.length_drop]
  omega
/-! ### texts as data -/
theorem dp_all {K : PySem.W.Frag} {H : Hp} : ∀ ys : List Str, DpAll K H (ys.map V.str) (ys.map PyData.str)
  | [] => .nil
  | y :: r => .cons (.str y) (dp_all r)
theorem dp_list {K : PySem.W.Frag} {H : Hp} {a : Addr} {ys : List Str} (h : H a = some (.lst (ys.map V.str))) : Dp K H (.ref a) (.list (ys.map PyData.str)) := .lst (SqL.of h) (dp_all ys)
theorem dp_tup {K : PySem.W.Frag} {H : Hp} {a : Addr} {ys : List Str} (h : H a = some (.tup (ys.map V.str))) : Dp K H (.ref a) (.tuple (ys.map PyData.str)) := .tup (SqT.of h) (dp_all ys)
theorem can_strs : ∀ ys : List Str, (∀ y ∈ ys, PyData.strOk y = true) → PyData.canLayAll0 (ys.map PyData.str) = true
  | [], _ => by rw [List.map_nil, PyData.canLayAll0]
  | y :: r, h => by
    rw [List.map_cons, PyData.canLayAll0, PyData.canLay0, h y List.mem_cons_self, can_strs r fun z hz => h z (List.mem_cons_of_mem _ hz)]
    rfl
theorem depth_strs : ∀ ys : List Str, PyData.depthAll (ys.map PyData.str) = 0
  | [] => by rw [List.map_nil, PyData.depthAll]
  | y :: r => by
    rw [List.map_cons, PyData.depthAll, depth_strs r, PyData.depth]
    rfl
theorem shaped_list {ys : List Str} (h : ∀ y ∈ ys, PyData.strOk y = true) : SeqAt.shaped (.list (ys.map PyData.str)) = true := by
  unfold SeqAt.shaped
  rw [PyData.canLay0, can_strs ys h, PyData.depth, depth_strs]
  rfl
theorem shaped_tup {ys : List Str} (h : ∀ y ∈ ys, PyData.strOk y = true) : SeqAt.shaped (.tuple (ys.map PyData.str)) = true := by
  unfold SeqAt.shaped
  rw [PyData.canLay0, can_strs ys h, PyData.depth, depth_strs]
  rfl
theorem eqv_strs : ∀ xs ys : List Str, PyData.eqvAll (xs.map PyData.str) (ys.map PyData.str) = decide (xs = ys)
  | [], [] => by rw [List.map_nil, PyData.eqvAll]; rfl
  | [], y :: r => by rw [List.map_nil, List.map_cons, PyData.eqvAll]; rfl
  | x :: r, [] => by rw [List.map_nil, List.map_cons, PyData.eqvAll]; rfl
  | x :: r, y :: s => by
    rw [List.map_cons, List.map_cons, PyData.eqvAll, PyData.eqv, eqv_strs r s, Bool.eq_iff_iff, Bool.and_eq_true, beq_iff_eq, decide_eq_true_iff, decide_eq_true_iff, List.cons.injEq]
theorem eqv_lists (xs ys : List Str) : PyData.eqv (.list (xs.map PyData.str)) (.list (ys.map PyData.str)) = decide (xs = ys) := by rw [PyData.eqv, eqv_strs]
theorem eqv_tups (xs ys : List Str) : PyData.eqv (.tuple (xs.map PyData.str)) (.tuple (ys.map PyData.str)) = decide (xs = ys) := by rw [PyData.eqv, eqv_strs]
/-! ### ints as data -/
theorem dpi_all {K : PySem.W.Frag} {H : Hp} : ∀ ys : List Int, DpAll K H (ys.map V.int) (ys.map PyData.int)
  | [] => .nil
  | y :: r => .cons (.int y) (dpi_all r)
theorem can_ints : ∀ ys : List Int, PyData.canLayAll0 (ys.map PyData.int) = true
  | [] => by rw [List.map_nil, PyData.canLayAll0]
  | y :: r => by rw [List.map_cons, PyData.canLayAll0, PyData.canLay0, can_ints r]; rfl
theorem depth_ints : ∀ ys : List Int, PyData.depthAll (ys.map PyData.int) = 0
  | [] => by rw [List.map_nil, PyData.depthAll]
  | y :: r => by rw [List.map_cons, PyData.depthAll, depth_ints r, PyData.depth]; rfl
theorem shapedi_list (ys : List Int) : SeqAt.shaped (.list (ys.map PyData.int)) = true := by
  unfold SeqAt.shaped
  rw [PyData.canLay0, can_ints ys, PyData.depth, depth_ints]
  rfl
theorem shapedi_tup (ys : List Int) : SeqAt.shaped (.tuple (ys.map PyData.int)) = true := by
  unfold SeqAt.shaped
  rw [PyData.canLay0, can_ints ys, PyData.depth, depth_ints]
  rfl
theorem eqv_ints : ∀ xs ys : List Int, PyData.eqvAll (xs.map PyData.int) (ys.map PyData.int) = decide (xs = ys)
  | [], [] => by rw [List.map_nil, PyData.eqvAll]; rfl
  | [], y :: r => by rw [List.map_nil, List.map_cons, PyData.eqvAll]; rfl
  | x :: r, [] => by rw [List.map_nil, List.map_cons, PyData.eqvAll]; rfl
  | x :: r, y :: s => by
    rw [List.map_cons, List.map_cons, PyData.eqvAll, PyData.eqv, eqv_ints r s, Bool.eq_iff_iff, Bool.and_eq_true, beq_iff_eq, decide_eq_true_iff, decide_eq_true_iff, List.cons.injEq]
theorem eqvi_lists (xs ys : List Int) : PyData.eqv (.list (xs.map PyData.int)) (.list (ys.map PyData.int)) = decide (xs = ys) := by rw [PyData.eqv, eqv_ints]
theorem eqvi_tups (xs ys : List Int) : PyData.eqv (.tuple (xs.map PyData.int)) (.tuple (ys.map PyData.int)) = decide (xs = ys) := by rw [PyData.eqv, eqv_ints]
/-! ### promises of the helpers -/
def spDraw : Sp := fun vs H Q _ => ∃ (S C : Addr) (n : Int), vs = [.ref S, .int n] ∧ 0 < n ∧ n.natAbs < 2 ^ 200 ∧ StOk H S C ∧ ∀ H' d, Mod S C H H' → StOk H' S C → 0 ≤ d → d < n → Q (.int d) H'
/-- one of a list, or one sign of a text -/
def spPick : Sp := fun vs H Q _ => ∃ (S C : Addr) (x : V), vs = [.ref S, x] ∧ StOk H S C ∧
  ((∃ a xs, x = .ref a ∧ a ≠ S ∧ a ≠ C ∧ H a = some (.lst xs) ∧ 0 < xs.length ∧ xs.length ≤ 1000 ∧ ∀ H' v, Mod S C H H' → StOk H' S C → v ∈ xs → Q v H') ∨
   (∃ z : Str, x = .str z ∧ 0 < z.cps.toList.length ∧ z.length ≤ 1000 ∧ ∀ H' c, Mod S C H H' → StOk H' S C → c ∈ z.cps.toList → Q (.str ⟨#[c]⟩) H'))
/-- a new list of the same, in some order -/
def spMixed : Sp := fun vs H Q _ => ∃ (S C a : Addr) (ns : List Str), vs = [.ref S, .ref a] ∧ StOk H S C ∧ H a = some (.lst (ns.map V.str)) ∧ ns.length ≤ 100 ∧ (∀ y ∈ ns, PyData.strOk y = true) ∧
  ∀ H' p ys, Mod S C H H' → StOk H' S C → H p = none → H' p = some (.lst (List.map V.str ys)) → ys.Perm ns → Q (.ref p) H'
/-- a slip of at most 58 figures -/
def spSlip : Sp := fun vs H Q _ => ∃ (S C : Addr), vs = [.ref S] ∧ StOk H S C ∧ ∀ H' z, Mod S C H H' → StOk H' S C → Int.natAbs z < 10 ^ 58 → Q (.int z) H'
def spState (K : PySem.W.Frag) : Sp := fun vs H Q _ => ∃ (a : Addr) (ns : List Int), vs = [.ref a] ∧ SqL K H a (ns.map V.int) ∧ ns.length ≤ 63 ∧ ∀ H' S C, Same H H' → H S = none → H C = none → StOk H' S C → Q (.ref S) H'
def spLaw (K : PySem.W.Frag) : Sp := fun vs H Q _ => ∃ (a : Addr) (ns : List Int), vs = [.ref a] ∧ SqL K H a (ns.map V.int) ∧ ns.length ≤ 63 ∧ ∀ H', Q (.bl true) H'
end GL
/-! Own rule: sorted(d), d a dict whose keys are numbers, however many. -/
namespace L2
open PySem PySem.Spec PyProof.Rows
variable {X : Cx}
theorem keys_nums {us : List Value} {ns : List Int} (h : us.length = ns.length) (g : ∀ (i : Nat) (u : Value) (n : Int), us[i]? = some u → ns[i]? = some n → ∃ t, u = Value.int n t) : IntsAre us ns := by
  refine ints_each h fun i u e => ?_
  have hlt : i < ns.length := by rw [← h]; exact (List.getElem?_eq_some_iff.mp e).1
  obtain ⟨t, rfl⟩ := g i u _ e (List.getElem?_eq_getElem hlt)
  exact ⟨_, t, List.getElem?_eq_getElem hlt, rfl⟩
def rSortKeys : List V → Hp → VK → Prop := fun xs H Q => ∃ (d : Addr) (kvs : List (Key × V)) (ns : List Int), xs = [.ref d] ∧ Rd H d (.dK kvs) ∧ kvs.map (·.1) = ns.map Sum.inl ∧ ns.length ≤ 5000 ∧
  ∀ (ms : List Int) (q : Addr), ms.Perm ns → ms.Pairwise (· ≤ ·) → H q = none → Q (.ref q) (upd H q (.lst (ms.map V.int)))
theorem cr_sortedKeys (calm : X.calm = true) : CallR X (.builtin "sorted") rSortKeys := by
  intro pins s σ H xs us Q I rel hyp
  obtain ⟨d, kvs, ns, rfl, hd, hk, hlen, fin⟩ := hyp
  rw [Vals.ref1 rel]
  obtain ⟨z, lo, raw, krel, dl⟩ := dk_rd I.hok hd
  obtain ⟨ep, at'⟩ := dl.dictAt
  have hraw : raw.map (·.1) = ns.map Sum.inl := krel.keys.symm.trans hk
  have len : raw.length = ns.length := by simpa using congrArg List.length hraw
  have line : ns.length ≤ sizeLine := Nat.le_trans hlen (by decide)
  refine Calls.call_function_entry PyProof.Rows.kind_sorted PyProof.Rows.plain_sorted PyProof.Rows.entry_sorted (PyProof.Rows.args_sorted1 _) ?_
  unfold Builtin.«sorted»
  refine wpAny_bind (m := checkCount "sorted" 1 1 _) (wpAny_pure ?_)
  refine wpAny_bind (PySem.W.kdu_collect (A := X.A.in1) (PySem.W.kdl_dict (knd := mixKind X.prog X.w) (kvs := raw) (ep := ep) lo) (I.ok.hd calm) at' (by rw [len]; exact line) fun h1 tk got kept hgot => ?_)
  have gl : got.toList.length = ns.length := by rw [Array.length_toList, hgot.1, len]
  have nums : IntsAre got.toList ns := keys_nums gl fun i u n e en => by
    obtain ⟨k, w, e1, e2⟩ := hgot.2 i u (by rw [← Array.getElem?_toList]; exact e)
    have e3 : (raw.map (·.1))[i]? = some k := by rw [List.getElem?_map, e1]; rfl
    rw [hraw, List.getElem?_map, en] at e3
    have e4 : Sum.inl n = k := Option.some.inj e3
    subst e4
    rcases keyIs_shape (show keyIs (Sum.inl n) u = true from e2) with ⟨m, t, ek, ev⟩ | ⟨m, t, ek, ev⟩
    · cases ek
      exact ⟨t, ev⟩
    · cases ek
  have I1 : Inv X pins σ H { s with heap := h1, toks := tk } := I.kept kept
  refine wpAny_bind (wpAny_newList ?_ (by rw [gl]; exact line))
  have ob : (h1.push (seqObj "list" got.toList.toArray 0)).get? h1.objs.size = some (seqObj "list" got.toList.toArray 0) := Heap.get?_push_size _ rfl
  show wpAny _ _ _ _ _ { s with heap := h1.push (seqObj "list" got.toList.toArray 0), toks := tk }
  refine wpAny_bind (wpAny_holding (wpAny_call_entry PyProof.Rows.slot_list_sort ⟨_, ob, rfl⟩ PyProof.Rows.entry_list_sort
    (SrtO.list_sort_ord SrtO.swo_int (s := { s with heap := h1.push (seqObj "list" got.toList.toArray 0), toks := tk }) ob (by rw [gl]; exact line) (fun two => SrtO.ints_sortable nums two) fun out g1 g2 => ⟨_, rfl, ?_⟩) (PyProof.Rows.args_list_sort _)))
  obtain ⟨k1, k2, k3⟩ := SrtO.ints_out nums g1 g2
  obtain ⟨ep', at2⟩ := PyProof.Rows.sortedHeap_at (vs := got.toList) (out := out.toArray) ob
  have small : ((out.map SrtO.iv).map V.int).length ≤ sizeLine := by rw [List.length_map, k2.length_eq]; exact line
  refine wpAny_pure ⟨_, rfl, .ref h1.objs.size, upd H h1.objs.size (.lst ((out.map SrtO.iv).map V.int)), I1.laid (t' := tk) (fun b u e => ?_) (Nat.le_refl _)
    (show ObjOk X.prog X.w _ _ _ (.lst ((out.map SrtO.iv).map V.int)) from ⟨small, out, ep', vals_of_ints k1, at2⟩), rfl, fin _ _ k2 k3 (I1.hok.fresh (Nat.le_refl _))⟩
  have lt := Heap.lt_size e
  rw [PyProof.Rows.sortedHeap_old (Nat.ne_of_lt lt) (by rw [size_push']; exact Nat.lt_succ_of_lt lt)]
  exact Heap.get?_push_of_some _ e
/-- a row to be gone through that is a list or a tuple -/
theorem pi_either {tg e : Expr} {w1 w2 : TI} (a : PI X tg e w1) (b : PI X tg e w2) : PI X tg e (fun σ H R => w1 σ H R ∨ w2 σ H R) :=
  ⟨fun pins s σ H R I h => h.elim (a.run pins s σ H R I) (b.run pins s σ H R I)⟩
end L2
/-! Tuples of which it is known that they have no dict of their own: made by tuple(l), t + u, t[i:j]; t.index(x). -/
namespace L2
open PySem PySem.Spec PyProof.Rows
/-- a tuple whose object is known -/
def TupF (H : Hp) (a : Addr) (xs : List V) : Prop := ∃ o : Obj, o.dict = none ∧ H a = some (.frz o (.tup xs))
theorem TupF.same {H H' : Hp} {a : Addr} {xs : List V} (h : TupF H a xs) (s : Same H H') : TupF H' a xs := let ⟨o, e, q⟩ := h; ⟨o, e, s _ _ q⟩
theorem TupF.sq {K : PySem.W.Frag} {H : Hp} {a : Addr} {xs : List V} (h : TupF H a xs) : SqT K H a xs := let ⟨o, _, q⟩ := h; .inl (.inr ⟨o, q⟩)
section
variable {X : Cx}
/-- tuple(l), l a list -/
theorem call_tupleF : CallR X (.type "tuple") (fun xs H Q => ∃ p ys, xs = [.ref p] ∧ SqL X.K H p ys ∧ ∀ l o, H l = none → o.dict = none → Q (.ref l) (upd H l (.frz o (.tup ys)))) := by
  intro pins s σ H xs us Q I r h
  obtain ⟨p, ys, rfl, hq, q⟩ := h
  obtain ⟨u, rfl, rx⟩ := vals1 r
  cases rx
  obtain ⟨its, r', pl, hz⟩ := I.list hq
  have hlen := r'.length
  refine call_tuple_list pl.isList (fun h' kp => ?_) (by simp only [List.size_toArray] <;> omega)
  have I1 : Inv X pins σ H { s with heap := h' } := I.kept (t' := s.toks) kp
  have I2 : Inv X pins σ (upd H h'.objs.size (.frz { cls := .type "tuple", data := .seq its.toArray } (.tup ys))) { s with heap := h'.push { cls := .type "tuple", data := .seq its.toArray } } :=
    I1.laid (t' := s.toks) (fun b o e => Heap.get?_push_of_some _ e) (Nat.le_refl _) (show ObjOk X.prog X.w _ _ _ (.frz { cls := .type "tuple", data := .seq its.toArray } (.tup ys)) from ⟨Heap.get?_push_size _ rfl, hz, its, r', IsTup.new _ _⟩)
  exact ⟨.ref h'.objs.size, _, I2, rfl, q _ _ (I1.hok.fresh (Nat.le_refl _)) rfl⟩
/-- t + u -/
def rCatF (K : PySem.W.Frag) : R2 := fun x y H Q => ∃ a b xs ys, x = .ref a ∧ y = .ref b ∧ SqT K H a xs ∧ SqT K H b ys ∧ xs.length + ys.length ≤ sizeLine ∧
  (xs = [] → Q (.ref b) H) ∧ (xs ≠ [] → ys = [] → Q (.ref a) H) ∧ (xs ≠ [] → ys ≠ [] → ∀ p o, H p = none → o.dict = none → Q (.ref p) (upd H p (.frz o (.tup (xs ++ ys)))))
theorem op_catF : OpR X (binaryOp .Add) (rCatF X.K) := by
  intro pins s σ H x y v u Q I rx ry h
  obtain ⟨a, b, xs, ys, rfl, rfl, ha, hb, hz, q0, q1, q2⟩ := h
  by_cases hx : xs = []
  · subst hx
    exact op_catA pins s σ H _ _ v u Q I rx ry ⟨a, b, [], ys, rfl, rfl, ha, hb, hz, q0, fun e => absurd rfl e, fun e => absurd rfl e⟩
  · cases rx
    cases ry
    obtain ⟨its, r1, p1, _⟩ := I.tuple ha
    obtain ⟨its2, r2, p2, _⟩ := I.tuple hb
    refine HT.cat_tup p1 p2 (fun z => hx (r1.nil_iff.mp z)) (fun z => ⟨.ref a, H, I, rfl, q1 hx (r2.nil_iff.mp z)⟩) (fun z => ?_) (by rw [← r1.length, ← r2.length]; exact hz)
    refine ⟨.ref s.heap.objs.size, _, I.laid (t' := s.toks) (o := .frz { cls := .type "tuple", data := .seq (its ++ its2).toArray } (.tup (xs ++ ys))) (fun b ob q => Heap.get?_push_of_some _ q) (Nat.le_refl _) ?_, rfl, q2 hx (fun w => z (r2.nil_iff.mpr w)) _ _ (I.hok.fresh (Nat.le_refl _)) rfl⟩
    exact ⟨Heap.get?_push_size _ rfl, by rw [List.length_append]; exact hz, _, r1.append r2, IsTup.new _ _⟩
/-- t[lo:hi] -/
def rSlF (K : PySem.W.Frag) : V → Option Int → Option Int → Hp → VK → Prop := fun x lo hi H Q => ∃ a xs, x = .ref a ∧ SqT K H a xs ∧
  (HT.sIx xs.length 0 lo = 0 ∧ HT.sIx xs.length xs.length hi = xs.length → Q (.ref a) H) ∧ (¬ (HT.sIx xs.length 0 lo = 0 ∧ HT.sIx xs.length xs.length hi = xs.length) → ∀ p o, H p = none → o.dict = none → Q (.ref p) (upd H p (.frz o (.tup (cutV xs lo hi)))))
theorem sl_tupF : SlR X (rSlF X.K) := by
  intro pins s σ H x v vl vu lo hi sl Q I rx hs pl pu h
  obtain ⟨a, xs, rfl, hx, q1, q2⟩ := h
  by_cases hw : HT.sIx xs.length 0 lo = 0 ∧ HT.sIx xs.length xs.length hi = xs.length
  · exact sl_tupA pins s σ H _ v vl vu lo hi sl Q I rx hs pl pu ⟨a, xs, rfl, hx, q1, fun e => absurd hw e⟩
  · cases rx
    obtain ⟨its, r, ht, hz⟩ := I.tuple hx
    have hlen : its.toArray.size = xs.length := by rw [List.size_toArray]; exact r.length.symm
    refine ⟨"tuple", _, PyProof.Rows.slot_tuple_getitem.lookup, ht.typeIs, ?_⟩
    refine HT.getItem_tuple_cut ht hs pl pu (by rw [hlen]; exact hw) ?_ (by rw [hlen]; exact hz)
    rw [hlen]
    refine ⟨.ref s.heap.objs.size, _, I.laid (t' := s.toks) (o := .frz { cls := .type "tuple", data := .seq ((its.drop (HT.sIx xs.length 0 lo)).take (HT.sIx xs.length xs.length hi - HT.sIx xs.length 0 lo)).toArray } (.tup (cutV xs lo hi))) (fun b ob q => Heap.get?_push_of_some _ q) (Nat.le_refl _) ?_, rfl, q2 hw _ _ (I.hok.fresh (Nat.le_refl _)) rfl⟩
    exact ⟨Heap.get?_push_size _ rfl, Nat.le_trans (cutV_length xs lo hi) hz, _, (r.drop (HT.sIx xs.length 0 lo)).take (HT.sIx xs.length xs.length hi - HT.sIx xs.length 0 lo), IsTup.new _ _⟩
def tBMF (r : V → List V → Hp → VK → Prop) (to : TE) (t : TA) : TE := fun σ H Q => to σ H fun x H1 => (∃ a xs, x = .ref a ∧ TupF H1 a xs) ∧ t σ H1 fun xs H2 => r x xs H2 Q
variable {o e : Expr} {es : List Expr} {to : TE} {t : TA} {name : Str} {apos cpos : Pos} {id : String} {r : V → List V → Hp → VK → Prop}
/-- t.m(e, ..), t a tuple whose object is known -/
theorem pe_bmF (slot : Slot "tuple" name id) (hty : typeOf (.builtin id) = pure (.type "method_descriptor")) (hm : MtR X id r) (ho : PE X o to) (ha : PA X (e :: es) t)
    (hbase : attributeBase o name X.env (eval o X.env) = eval o X.env := by rfl)
    (hfew : ((backTo cpos (starEach (e :: es) X.env)).all (fun x => !x.1) && (backToKw cpos (keywordEach [] X.env)).all (fun x => x.1.isSome)
      && decide ((e :: es).length + ([] : List Keyword).length + (if ([] : List Keyword).isEmpty then 0 else 1) < 30)) = true := by rfl)
    (hline : (apos.endLine == cpos.line) = true := by rfl) (hs : starEach (e :: es) X.env = (false, eval e X.env) :: starEach es X.env := by rfl) (hplain : (backTo cpos (starEach es X.env)).any (·.1) = false := by rfl) :
    PE X (.Call (.Attribute o name apos) (e :: es) [] cpos) (tBMF r to t) := by
  refine ⟨fun pins s σ H Q I h => ?_⟩
  refine wpAny_Call_method_late hbase hfew hline rfl (thn (ho.run pins s σ H _ I h) fun v s1 ⟨x, H1, I1, r1, ty, q1⟩ => ?_)
  obtain ⟨a, xs, rfl, ob, hd, he⟩ := ty
  cases (show v = Value.ref a from r1)
  obtain ⟨hg, _, its, rv, o', h1, h2, _⟩ := (show ObjOk X.prog X.w H1 s1.heap a (.frz ob (.tup xs)) from I1.hok a _ he)
  refine ⟨"tuple", id, PySem.F.plainAttrs_tuple, slot, hty, ⟨o', h1, h2⟩, fun b eb => ?_, ?_⟩
  · cases eb
    exact ⟨ob, hg, hd⟩
  have hA := ha.run cpos pins s1 σ H1 _ I1 q1
  rw [hs] at hA ⊢
  refine Calls.callWith_builtin (by show (false || (backTo cpos (starEach es X.env)).any (·.1)) = false; rw [hplain] <;> rfl) (Calls.evalArgs_plain ?_)
  exact thn hA fun us s2 ⟨vs, H2, I2, r2, q2⟩ => hm pins s2 σ H2 _ vs _ us Q I2 r1 r2 q2
end
end L2
/-! Names: texts of one to eight small letters. -/
namespace GL
open PySem PySem.Spec PyProof.Rows L2
abbrev abc : Str := ("abcdefghijklmnopqrstuvwxyz" : Str)
def one (c : Nat) : Str := ⟨#[c]⟩
def NameOk (z : Str) : Prop := 1 ≤ z.cps.toList.length ∧ z.cps.toList.length ≤ 8 ∧ ∀ c ∈ z.cps.toList, 97 ≤ c ∧ c ≤ 122
instance (z : Str) : Decidable (NameOk z) := by unfold NameOk; exact inferInstance
theorem NameOk.str {z : Str} (h : NameOk z) : PyData.strOk z = true := by
  unfold PyData.strOk
  rw [← Array.all_toList, List.all_eq_true]
  intro c hc
  have := (h.2.2 c hc).2
  exact decide_eq_true (by omega)
theorem NameOk.len {z : Str} (h : NameOk z) : z.length ≤ 8 := by
  have e : z.cps.toList.length = z.length := Array.length_toList
  have := h.2.1
  omega
theorem NameOk.len1 {z : Str} (h : NameOk z) : 1 ≤ z.length := by
  have e : z.cps.toList.length = z.length := Array.length_toList
  have := h.1
  omega
theorem abc_mem {c : Nat} : c ∈ abc.cps.toList ↔ 97 ≤ c ∧ c ≤ 122 := by
  have h1 : ∀ c ∈ abc.cps.toList, 97 ≤ c ∧ c ≤ 122 := by decide +kernel
  have h2 : ∀ k, k < 26 → (97 + k) ∈ abc.cps.toList := by decide +kernel
  refine ⟨h1 c, fun h => ?_⟩
  have := h2 (c - 97) (by omega)
  rwa [show 97 + (c - 97) = c by omega] at this
theorem one_ok {c : Nat} (h : 97 ≤ c ∧ c ≤ 122) : PyData.strOk (one c) = true := by
  have : NameOk (one c) := ⟨Nat.le_refl _, (by show 1 ≤ 8; decide), fun x hx => by
    rw [show (one c).cps.toList = [c] from rfl, List.mem_singleton] at hx
    rw [hx]
    exact h⟩
  exact this.str
theorem glue_fold : ∀ (ys : List Str) (acc : Array Nat), (ys.foldl (fun a y => a ++ (Str.empty).cps ++ y.cps) acc).toList = acc.toList ++ ys.flatMap fun y => y.cps.toList
  | [], acc => by rw [List.foldl_nil, List.flatMap_nil, List.append_nil]
  | y :: r, acc => by
    rw [List.foldl_cons, glue_fold r, List.flatMap_cons, Array.toList_append, Array.toList_append, show (Str.empty).cps.toList = [] from rfl, List.append_nil, List.append_assoc]
theorem glue_nil (ys : List Str) : (Txt.join ⟨#[]⟩ ys).cps.toList = ys.flatMap fun y => y.cps.toList := by
  show ((ys.drop 1).foldl (fun a y => a ++ (Str.empty).cps ++ y.cps) (ys.headD Str.empty).cps).toList = _
  rw [glue_fold]
  cases ys with
  | nil => rfl
  | cons y r => rfl
theorem glue_ones (cs : List Nat) : (Txt.join ⟨#[]⟩ (cs.map one)).cps.toList = cs := by
  rw [glue_nil]
  induction cs with
  | nil => rfl
  | cons c r ih =>
    rw [List.map_cons, List.flatMap_cons, ih]
    rfl
theorem ones_len : ∀ cs : List Nat, ((cs.map one).map (·.length)).sum = cs.length
  | [] => rfl
  | c :: r => by
    rw [List.map_cons, List.map_cons, List.sum_cons, ones_len r, List.length_cons]
    show 1 + r.length = r.length + 1
    omega
/-- the first seven signs and one more -/
def w7 (z : Str) (c : Nat) : Str := cutS z none (some 7) ++ one c
theorem w7_cps (z : Str) (c : Nat) : (w7 z c).cps.toList = z.cps.toList.take 7 ++ [c] := by
  show ((cutS z none (some 7)).cps ++ (one c).cps).toList = _
  rw [Array.toList_append]
  have e : (cutS z none (some 7)).cps.toList = z.cps.toList.take 7 := by
    show (z.cps.toList.drop (HT.sIx z.length 0 none)).take (HT.sIx z.length z.length (some ((7 : Nat) : Int)) - HT.sIx z.length 0 none) = _
    rw [HT.sIx_none, HT.sIx_nat, List.drop_zero, Nat.sub_zero, show z.length = z.cps.toList.length from Array.length_toList.symm, take_min]
  rw [e]
  rfl
theorem w7_ok {z : Str} {c : Nat} (h : NameOk z) (hc : 97 ≤ c ∧ c ≤ 122) : NameOk (w7 z c) := by
  unfold NameOk
  rw [w7_cps]
  refine ⟨by rw [List.length_append, List.length_singleton]; omega, by rw [List.length_append, List.length_singleton, List.length_take]; omega, fun x hx => ?_⟩
  rcases List.mem_append.mp hx with hx | hx
  · exact h.2.2 x (List.mem_of_mem_take hx)
  · rw [List.mem_singleton] at hx
    rw [hx]
    exact hc
theorem w7_inj {z : Str} {c d : Nat} (h : w7 z c = w7 z d) : c = d := by
  have e := congrArg (fun x : Str => x.cps.toList) h
  rw [w7_cps, w7_cps] at e
  have := List.append_cancel_left e
  exact (List.cons.inj this).1
/-- the word itself, then its turns by the signs -/
def turns27 (z : Str) : List Str := z :: abc.cps.toList.map (w7 z)
theorem turns27_ok {z : Str} (h : NameOk z) : ∀ y ∈ turns27 z, NameOk y := fun y hy => by
  rcases List.mem_cons.mp hy with rfl | hy
  · exact h
  · obtain ⟨c, hc, rfl⟩ := List.mem_map.mp hy
    exact w7_ok h (abc_mem.mp hc)
theorem nodup_map {α β : Type} {f : α → β} (hf : ∀ a b, f a = f b → a = b) : ∀ {l : List α}, l.Nodup → (l.map f).Nodup
  | [], _ => List.nodup_nil
  | a :: r, h => by
    rw [List.nodup_cons] at h
    rw [List.map_cons, List.nodup_cons]
    refine ⟨fun hm => ?_, nodup_map hf h.2⟩
    obtain ⟨b, hb, e⟩ := List.mem_map.mp hm
    rw [hf _ _ e] at hb
    exact h.1 hb
theorem abc_nodup : abc.cps.toList.Nodup := by decide +kernel
/-- of so many one is none of few -/
theorem fresh_one {z : Str} {found : List Str} (h : found.length < 26) : (turns27 z).filter (fun y => !decide (y ∈ found)) ≠ [] := fun e => by
  have sub : abc.cps.toList.map (w7 z) ⊆ found := fun y hy => by
    refine Classical.byContradiction fun hn => ?_
    have : y ∈ (turns27 z).filter (fun y => !decide (y ∈ found)) := List.mem_filter.mpr ⟨List.mem_cons_of_mem _ hy, by rw [decide_eq_false hn]; rfl⟩
    rw [e] at this
    cases this
  have := List.Nodup.length_le_of_subset (nodup_map (fun a b => w7_inj) abc_nodup) sub
  rw [List.length_map, show abc.cps.toList.length = 26 by decide +kernel] at this
  omega
theorem inV_strs (x : Str) : ∀ ys : List Str, inV (.str x) (ys.map V.str) = decide (x ∈ ys)
  | [] => rfl
  | y :: r => by
    have ih := inV_strs x r
    unfold inV at ih ⊢
    rw [List.map_cons, List.any_cons, ih, Bool.eq_iff_iff, Bool.or_eq_true, decide_eq_true_iff, decide_eq_true_iff, List.mem_cons]
    show ((y == x) = true ∨ _) ↔ _
    rw [beq_iff_eq]
    exact ⟨fun h => h.imp Eq.symm id, fun h => h.imp Eq.symm id⟩
def spNames : Sp := fun vs H Q _ => ∃ (S C : Addr) (n : Int), vs = [.ref S, .int n] ∧ 0 ≤ n ∧ n ≤ 14 ∧ StOk H S C ∧
  ∀ H' p ys, Mod S C H H' → StOk H' S C → H p = none → H' p = some (.lst (List.map V.str ys)) → ys.length = n.toNat → ys.Nodup → (∀ y ∈ ys, NameOk y) → Q (.ref p) H'
end GL
namespace GL
open PySem PySem.Spec PyProof.Rows L2
def words13 : List Str := ["ring", "may", "sure", "far", "more", "go", "come", "watch", "round", "anew", "swap", "seat", "undo"]
theorem words13_ok : ∀ y ∈ words13, NameOk y := by decide +kernel
def etao : Str := "etaoinshrdlcumwf"
theorem etao_mem : ∀ c ∈ etao.cps.toList, 97 ≤ c ∧ c ≤ 122 := by decide +kernel
/-- of so many turns one is none of few -/
theorem fresh_w7 {z : Str} {found : List Str} (h : found.length < 26) : (abc.cps.toList.map (w7 z)).filter (fun y => !decide (y ∈ found)) ≠ [] := fun e => by
  have sub : abc.cps.toList.map (w7 z) ⊆ found := fun y hy => by
    refine Classical.byContradiction fun hn => ?_
    have : y ∈ (abc.cps.toList.map (w7 z)).filter (fun y => !decide (y ∈ found)) := List.mem_filter.mpr ⟨hy, by rw [decide_eq_false hn]; rfl⟩
    rw [e] at this
    cases this
  have := List.Nodup.length_le_of_subset (nodup_map (fun a b => w7_inj) abc_nodup) sub
  rw [List.length_map, show abc.cps.toList.length = 26 by decide +kernel] at this
  omega
end GL
/-! Slips by names, rounds. -/
namespace GL
open PySem PySem.Spec PyProof.Rows L2
/-! ### a dict of slips -/
def SlipsAt (H : Hp) (d : Addr) (ns : List Str) (sl : Str → Int) : Prop := ∃ kvs : List (Key × V), H d = some (.dK kvs) ∧ kvs.length = ns.length ∧ (kvs.map (·.1)).Nodup ∧ ∀ n ∈ ns, valV kvs (Sum.inr n : Key) = some (.int (sl n))
theorem SlipsAt.same {H H' : Hp} {d : Addr} {ns : List Str} {sl : Str → Int} (h : SlipsAt H d ns sl) (s : Same H H') : SlipsAt H' d ns sl := by
  obtain ⟨kvs, h1, r⟩ := h
  exact ⟨kvs, s _ _ h1, r⟩
theorem SlipsAt.mod {H H' : Hp} {d S C : Addr} {ns : List Str} {sl : Str → Int} (h : SlipsAt H d ns sl) (s : Mod S C H H') (st : StOk H S C) : SlipsAt H' d ns sl := by
  obtain ⟨kvs, h1, r⟩ := h
  exact ⟨kvs, s.other st h1 (fun _ z => nomatch z), r⟩
theorem valV_mem {κ : Type} [DecidableEq κ] : ∀ {kvs : List (κ × V)} {k : κ}, k ∈ kvs.map (·.1) → ∃ v, valV kvs k = some v ∧ (k, v) ∈ kvs
  | [], _, h => nomatch h
  | (k0, v0) :: r, k, h => by
    by_cases e : k0 = k
    · subst e
      exact ⟨v0, valV_pos rfl, List.mem_cons_self⟩
    · rw [List.map_cons, List.mem_cons] at h
      rcases h with h | h
      · exact absurd h.symm e
      · obtain ⟨v, h1, h2⟩ := valV_mem h
        exact ⟨v, by rw [valV_neg e]; exact h1, List.mem_cons_of_mem _ h2⟩
theorem valV_none {κ : Type} [DecidableEq κ] : ∀ {kvs : List (κ × V)} {k : κ}, k ∉ kvs.map (·.1) → valV kvs k = none
  | [], _, _ => rfl
  | (k0, v0) :: r, k, h => by
    rw [List.map_cons, List.mem_cons, not_or] at h
    rw [valV_neg (fun e => h.1 e.symm)]
    exact valV_none h.2
theorem merge_new : ∀ (more kvs : List (Key × V)), ((kvs ++ more).map (·.1)).Nodup → mergeK kvs more = kvs ++ more
  | [], kvs, _ => by rw [List.append_nil]; rfl
  | (k, v) :: r, kvs, h => by
    show mergeK (putK kvs k v) r = _
    have hk : k ∉ kvs.map (·.1) := fun hm => by
      rw [List.map_append, List.nodup_append] at h
      exact h.2.2 k hm k (by rw [List.map_cons]; exact List.mem_cons_self) rfl
    have e1 : kvs ++ (k, v) :: r = (kvs ++ [(k, v)]) ++ r := by rw [List.append_assoc]; rfl
    rw [putK_new v (valV_none hk), e1]
    exact merge_new r _ (by rw [← e1]; exact h)
theorem put_old_len {κ : Type} [DecidableEq κ] {kvs : List (κ × V)} {k : κ} {x v : V} (h : valV kvs k = some x) : (putK kvs k v).length = kvs.length ∧ (putK kvs k v).map (·.1) = kvs.map (·.1) := by
  have a : (kvs.any fun kv => decide (kv.1 = k)) = true := by rw [valV_any, h]; rfl
  unfold putK
  rw [if_pos a]
  refine ⟨List.length_map _, ?_⟩
  rw [List.map_map]
  refine List.map_congr_left fun p _ => ?_
  show (if p.1 = k then (p.1, v) else p).1 = p.1
  split <;> rfl
def setSl (sl : Str → Int) (n : Str) (z : Int) : Str → Int := fun x => if x = n then z else sl x
theorem SlipsAt.put {H : Hp} {d : Addr} {ns : List Str} {sl : Str → Int} {kvs : List (Key × V)} {n : Str} {z : Int} (hl : kvs.length = ns.length) (hn : (kvs.map (·.1)).Nodup) (hv : ∀ n ∈ ns, valV kvs (Sum.inr n : Key) = some (.int (sl n))) (hm : n ∈ ns) :
    SlipsAt (upd H d (.dK (putK kvs (Sum.inr n : Key) (.int z)))) d ns (setSl sl n z) := by
  have q := put_old_len (v := .int z) (hv n hm)
  refine ⟨_, upd_same, q.1.trans hl, by rw [q.2]; exact hn, fun m hmm => ?_⟩
  rw [valV_put]
  unfold setSl
  by_cases e : m = n
  · rw [if_pos (congrArg Sum.inr e), if_pos e]
  · rw [if_neg (fun h => e (Sum.inr.inj h)), if_neg e]
    exact hv m hmm
/-! ### rounds -/
def nexts (sl : Str → Int) : Nat → Str → List Str → List Str
  | 0, _, _ => []
  | n + 1, g, row => row.getD (sl g % (row.length : Int)).toNat Str.empty :: nexts sl n (row.getD (sl g % (row.length : Int)).toNat Str.empty) (row.drop ((sl g % (row.length : Int)).toNat + 1) ++ row.take (sl g % (row.length : Int)).toNat)
/-- those behind b, round and round, without b -/
def behind (ns : List Str) (b : Str) : List Str := ns.drop (ns.idxOf b + 1) ++ ns.take (ns.idxOf b)
def orderOf (ns : List Str) (sl : Str → Int) (b : Str) : List Str := b :: nexts sl (ns.length - 1) b (behind ns b)
theorem idx_lt {ns : List Str} {b : Str} (h : b ∈ ns) : ns.idxOf b < ns.length := List.idxOf_lt_length_iff.mpr h
theorem idx_at {ns : List Str} {b : Str} (h : b ∈ ns) : ns[ns.idxOf b]? = some b := by
  rw [List.getElem?_eq_getElem (idx_lt h), List.getElem_idxOf]
theorem idx_first {b : Str} : ∀ {ns : List Str} {m : Nat}, m < ns.idxOf b → ns[m]? ≠ some b
  | [], m, h => by simp at h
  | x :: r, m, h => by
    rw [List.idxOf_cons] at h
    by_cases e : x = b
    · rw [show (x == b) = true from beq_iff_eq.mpr e] at h
      exact absurd h (Nat.not_lt_zero _)
    · rw [show (x == b) = false from beq_eq_false_iff_ne.mpr e] at h
      cases m with
      | zero =>
        intro q
        exact e (Option.some.inj q)
      | succ m =>
        exact idx_first (ns := r) (Nat.lt_of_succ_lt_succ h)
theorem behind_len {ns : List Str} {b : Str} (h : b ∈ ns) : (behind ns b).length = ns.length - 1 := by
  have := idx_lt h
  unfold behind
  rw [List.length_append, List.length_drop, List.length_take]
  omega
/-- at the place that the slip leaves -/
theorem spot {row : List Str} (z : Int) (h : row ≠ []) : ∃ j, z % (row.length : Int) = ((j : Nat) : Int) ∧ j < row.length ∧ (z % (row.length : Int)).toNat = j ∧ row[j]? = some (row.getD j Str.empty) := by
  have hp := List.length_pos_iff.mpr h
  have h0 := Int.emod_nonneg z (show (row.length : Int) ≠ 0 by omega)
  have h1 := Int.emod_lt_of_pos z (show (0 : Int) < (row.length : Int) by omega)
  obtain ⟨j, hj⟩ := Int.eq_ofNat_of_zero_le h0
  refine ⟨j, hj, by omega, by omega, ?_⟩
  rw [List.getD_eq_getElem?_getD, List.getElem?_eq_getElem (by omega)]
  rfl
theorem nexts_step {sl : Str → Int} {n j : Nat} {g : Str} {row : List Str} (hj : (sl g % (row.length : Int)).toNat = j) : nexts sl (n + 1) g row = row.getD j Str.empty :: nexts sl n (row.getD j Str.empty) (row.drop (j + 1) ++ row.take j) := by
  subst hj
  rfl
theorem cut_len {row : List Str} {j : Nat} (h : j < row.length) : (row.drop (j + 1) ++ row.take j).length = row.length - 1 := by
  rw [List.length_append, List.length_drop, List.length_take]
  omega
/-- all of them, from behind x on, x itself last -/
def rot (ns : List Str) (x : Str) : List Str := ns.drop (ns.idxOf x + 1) ++ ns.take (ns.idxOf x + 1)
theorem idx_mid {x : Str} : ∀ {U : List Str} (V : List Str), x ∉ U → (U ++ x :: V).idxOf x = U.length
  | [], V, _ => by rw [List.nil_append, List.idxOf_cons, show (x == x) = true from beq_self_eq_true x]; rfl
  | u :: U, V, h => by
    rw [List.mem_cons, not_or] at h
    rw [List.cons_append, List.idxOf_cons, show (u == x) = false from beq_eq_false_iff_ne.mpr fun e => h.1 e.symm, List.length_cons]
    show (U ++ x :: V).idxOf x + 1 = _
    rw [idx_mid V h.2]
theorem rot_mid {U V : List Str} {x : Str} (h : x ∉ U) : rot (U ++ x :: V) x = V ++ U ++ [x] := by
  unfold rot
  have e : U ++ x :: V = (U ++ [x]) ++ V := by rw [List.append_assoc]; rfl
  have l : U.length + 1 = (U ++ [x]).length := by rw [List.length_append]; rfl
  rw [idx_mid V h, e, l, List.drop_left, List.take_left, List.append_assoc]
theorem behind_mid {U V : List Str} {x : Str} (h : x ∉ U) : behind (U ++ x :: V) x = V ++ U := by
  unfold behind
  have e : U ++ x :: V = (U ++ [x]) ++ V := by rw [List.append_assoc]; rfl
  have l : U.length + 1 = (U ++ [x]).length := by rw [List.length_append]; rfl
  rw [idx_mid V h, List.take_left, e, l, List.drop_left]
theorem nd_mid {U V : List Str} {x : Str} (h : (U ++ x :: V).Nodup) : x ∉ U ∧ x ∉ V := by
  rw [List.nodup_append, List.nodup_cons] at h
  exact ⟨fun hm => h.2.2 x hm x List.mem_cons_self rfl, h.2.1.1⟩
/-- counting on: from behind g to behind x -/
theorem rot_on {ns : List Str} {g x : Str} {A B : List Str} (hn : ns.Nodup) (hg : g ∈ ns) (e : rot ns g = A ++ x :: B) : rot ns x = B ++ A ++ [x] := by
  obtain ⟨U, V, rfl⟩ := List.append_of_mem hg
  obtain ⟨hU, hV⟩ := nd_mid hn
  rw [rot_mid hU] at e
  have hnr : (V ++ U ++ [g]).Nodup := by
    have p : (V ++ U ++ [g]).Perm (U ++ g :: V) := by
      rw [List.append_assoc]
      refine List.perm_append_comm.trans ?_
      rw [List.append_assoc]
      exact .refl _
    exact p.nodup_iff.mpr hn
  have hx : x ∈ V ++ U ++ [g] := by rw [e]; exact List.mem_append_right _ List.mem_cons_self
  have uniq : ∀ {A' B' : List Str}, V ++ U ++ [g] = A' ++ x :: B' → A' = A ∧ B' = B := fun {A' B'} e' => by
    have h1 := nd_mid (e ▸ hnr)
    have h2 := nd_mid (e' ▸ hnr)
    have e2 : A' ++ x :: B' = A ++ x :: B := e'.symm.trans e
    have l : A'.length = A.length := by
      have i1 := idx_mid B' h2.1
      have i2 := idx_mid B h1.1
      rw [← i1, ← i2, e2]
    have := List.append_inj e2 l
    exact ⟨this.1, (List.cons.inj this.2).2⟩
  rw [List.append_assoc, List.mem_append] at hx
  rcases hx with hx | hx
  · obtain ⟨V1, V2, rfl⟩ := List.append_of_mem hx
    obtain ⟨rfl, rfl⟩ := uniq (A' := V1) (B' := V2 ++ U ++ [g]) (by simp)
    have hx1 : x ∉ U ++ g :: V1 := by
      have : (U ++ g :: (V1 ++ x :: V2)) = (U ++ g :: V1) ++ x :: V2 := by simp
      rw [this] at hn
      exact (nd_mid hn).1
    have : U ++ g :: (V1 ++ x :: V2) = (U ++ g :: V1) ++ x :: V2 := by simp
    rw [this, rot_mid hx1]
    simp
  · rw [List.mem_append, List.mem_singleton] at hx
    rcases hx with hx | rfl
    · obtain ⟨U1, U2, rfl⟩ := List.append_of_mem hx
      obtain ⟨rfl, rfl⟩ := uniq (A' := V ++ U1) (B' := U2 ++ [g]) (by simp)
      have this : U1 ++ x :: U2 ++ g :: V = U1 ++ x :: (U2 ++ g :: V) := by simp
      rw [this] at hn ⊢
      rw [rot_mid (nd_mid hn).1]
      simp
    · obtain ⟨rfl, rfl⟩ := uniq (A' := V ++ U) (B' := []) rfl
      rw [rot_mid hU]
      simp
/-- who still sits, listed from behind the latest goer: the shrinking row -/
def sitting (ns goers : List Str) (g : Str) : List Str := (rot ns g).filter fun x => !decide (x ∈ goers)
theorem sitting_first {ns : List Str} {b : Str} (hn : ns.Nodup) (hb : b ∈ ns) : sitting ns [b] b = behind ns b := by
  obtain ⟨U, V, rfl⟩ := List.append_of_mem hb
  obtain ⟨hU, hV⟩ := nd_mid hn
  unfold sitting
  rw [rot_mid hU, behind_mid hU, List.filter_append, List.filter_eq_self.mpr]
  · simp
  · intro x hx
    have : x ≠ b := fun e => by
      rw [e] at hx
      rcases List.mem_append.mp hx with hx | hx
      · exact hV hx
      · exact hU hx
    simp [this]
theorem sitting_next {ns goers : List Str} {g : Str} {j : Nat} (hn : ns.Nodup) (hg : g ∈ ns) (hj : j < (sitting ns goers g).length) :
    sitting ns (goers ++ [(sitting ns goers g).getD j Str.empty]) ((sitting ns goers g).getD j Str.empty) = (sitting ns goers g).drop (j + 1) ++ (sitting ns goers g).take j ∧ (sitting ns goers g).getD j Str.empty ∈ ns := by
  generalize hx : (sitting ns goers g).getD j Str.empty = x
  have hget : (sitting ns goers g)[j]? = some x := by
    rw [← hx, List.getD_eq_getElem?_getD, List.getElem?_eq_getElem hj]
    rfl
  have hsplit : sitting ns goers g = (sitting ns goers g).take j ++ x :: (sitting ns goers g).drop (j + 1) := by
    have e1 := List.getElem_of_getElem? hget
    obtain ⟨h1, e1⟩ := e1
    rw [← e1, List.getElem_cons_drop, List.take_append_drop]
  unfold sitting at hsplit ⊢
  obtain ⟨A, B, eAB, eA, eB⟩ : ∃ A B, rot ns g = A ++ x :: B ∧ A.filter (fun y => !decide (y ∈ goers)) = ((rot ns g).filter fun y => !decide (y ∈ goers)).take j ∧ B.filter (fun y => !decide (y ∈ goers)) = ((rot ns g).filter fun y => !decide (y ∈ goers)).drop (j + 1) := by
    obtain ⟨A, R, e1, e2, e3⟩ := List.filter_eq_append_iff.mp hsplit
    obtain ⟨A1, B1, f1, f2, f3, f4⟩ := List.filter_eq_cons_iff.mp e3
    refine ⟨A ++ A1, B1, by rw [e1, f1, List.append_assoc], ?_, f4⟩
    rw [List.filter_append, e2, List.filter_eq_nil_iff.mpr f2, List.append_nil]
  have hr := rot_on hn hg eAB
  have hxn : x ∈ ns := by
    obtain ⟨U, V, rfl⟩ := List.append_of_mem hg
    obtain ⟨hU, hV⟩ := nd_mid hn
    rw [rot_mid hU] at eAB
    have : x ∈ V ++ U ++ [g] := by rw [eAB]; exact List.mem_append_right _ List.mem_cons_self
    simp only [List.mem_append, List.mem_singleton, List.mem_cons, List.not_mem_nil, or_false] at this ⊢
    rcases this with (h | h) | h
    · exact .inr (.inr h)
    · exact .inl h
    · exact .inr (.inl h)
  have hnd : (A ++ x :: B).Nodup := by
    rw [← eAB]
    obtain ⟨U, V, rfl⟩ := List.append_of_mem hg
    obtain ⟨hU, hV⟩ := nd_mid hn
    rw [rot_mid hU]
    have p : (V ++ U ++ [g]).Perm (U ++ g :: V) := by
      rw [List.append_assoc]
      refine List.perm_append_comm.trans ?_
      rw [List.append_assoc]
      exact .refl _
    exact p.nodup_iff.mpr hn
  obtain ⟨hA, hB⟩ := nd_mid hnd
  refine ⟨?_, hxn⟩
  rw [hr, List.filter_append, List.filter_append, ← eA, ← eB]
  have drop1 : ∀ L : List Str, x ∉ L → L.filter (fun y => !decide (y ∈ goers ++ [x])) = L.filter fun y => !decide (y ∈ goers) := fun L hL => by
    refine List.filter_congr fun y hy => ?_
    have : y ≠ x := fun e => hL (e ▸ hy)
    simp [this]
  rw [drop1 B hB, drop1 A hA]
  simp
end GL
namespace GL
open PySem PySem.Spec PyProof.Rows L2
theorem Paired.mapF {α β : Type} {F G : α → β → Prop} (h : ∀ a b, F a b → G a b) : ∀ {xs : List α} {ys : List β}, Paired F xs ys → Paired G xs ys
  | _, _, .nil => .nil
  | _, _, .cons a r => .cons (h _ _ a) (Paired.mapF h r)
def slOf (kvs : List (Key × V)) (n : Str) : Int := match valV kvs (Sum.inr n : Key) with
  | some (.int z) => z
  | _ => 0
def spSlips : Sp := fun vs H Q _ => ∃ (S C a : Addr) (ns : List Str), vs = [.ref S, .ref a] ∧ StOk H S C ∧ H a = some (.lst (ns.map V.str)) ∧ ns.length ≤ 100 ∧ ns.Nodup ∧ (∀ y ∈ ns, PyData.strOk y = true) ∧
  ∀ H' d sl, Mod S C H H' → StOk H' S C → H d = none → SlipsAt H' d ns sl → (∀ n ∈ ns, Int.natAbs (sl n) < 10 ^ 58) → Q (.ref d) H'
def spOrder : Sp := fun vs H Q _ => ∃ (a d : Addr) (ns : List Str) (sl : Str → Int) (b : Str), vs = [.ref a, .ref d, .str b] ∧ H a = some (.lst (ns.map V.str)) ∧ SlipsAt H d ns sl ∧ ns.length ≤ 100 ∧ ns.Nodup ∧ (∀ y ∈ ns, PyData.strOk y = true) ∧ b ∈ ns ∧
  ∀ H' t, Same H H' → H t = none → H' t = some (.tup ((orderOf ns sl b).map V.str)) → Q (.ref t) H'
theorem cut_drop_s (ns : List Str) (j : Nat) : cutV (ns.map V.str) (some ((j : Int) + 1)) none = (ns.drop (j + 1)).map V.str := by
  rw [show (some ((j : Int) + 1)) = some ((j + 1 : Nat) : Int) from rfl, cut_drop, List.map_drop]
theorem cut_take_s (ns : List Str) (j : Nat) : cutV (ns.map V.str) none (some (j : Int)) = (ns.take j).map V.str := by
  rw [cut_take, List.map_take]
theorem last_s (found : List Str) (g : Str) : atI ((found ++ [g]).map V.str) (-1) = some (.str g) := by
  rw [List.map_append]
  exact atI_last _ _
theorem len_s {ns : List Str} (h : ns.length ≤ 1000) : (ns.map V.str).length ≤ sizeLine := by
  rw [List.length_map]
  exact small_sz (by omega)
/-! ### rings -/
structure GoodNs (ns : List Str) : Prop where
  two : 2 ≤ ns.length
  twelve : ns.length ≤ 12
  nd : ns.Nodup
  ok : ∀ y ∈ ns, NameOk y
theorem GoodNs.str {ns : List Str} (g : GoodNs ns) : ∀ y ∈ ns, PyData.strOk y = true := fun y hy => (g.ok y hy).str
/-- the attributes as __init__ stores them -/
def rflds (nl sd : Addr) : List (Str × V) := putF "_slips" (.ref sd) (putF "_names" (.ref nl) [])
theorem rk : ¬ (("_names" : Str) = "_slips") := by decide +kernel
theorem rflds_names (nl sd : Addr) : (rflds nl sd).lookup ("_names" : Str) = some (.ref nl) := by
  unfold rflds
  rw [lookup_putF, if_neg rk, lookup_putF, if_pos rfl]
theorem rflds_slips (nl sd : Addr) : (rflds nl sd).lookup ("_slips" : Str) = some (.ref sd) := by
  unfold rflds
  rw [lookup_putF, if_pos rfl]
theorem rflds_no (nl sd : Addr) {m : Str} (h1 : ¬ m = "_names") (h2 : ¬ m = "_slips") : (rflds nl sd).lookup m = none := by
  unfold rflds
  rw [lookup_putF, if_neg h2, lookup_putF, if_neg h1]
  all_goals rfl
structure RingAt (aR : Addr) (H : Hp) (p : Addr) (ns : List Str) (sl : Str → Int) : Prop where
  ex : ∃ dx nl sd, H p = some (.ins aR dx (rflds nl sd)) ∧ H nl = some (.lst (ns.map V.str)) ∧ SlipsAt H sd ns sl
  good : GoodNs ns
theorem RingAt.same {aR p : Addr} {H H' : Hp} {ns : List Str} {sl : Str → Int} (h : RingAt aR H p ns sl) (s : Same H H') : RingAt aR H' p ns sl := by
  obtain ⟨⟨dx, nl, sd, h1, h2, h3⟩, g⟩ := h
  exact ⟨⟨dx, nl, sd, s _ _ h1, s _ _ h2, h3.same s⟩, g⟩
theorem RingAt.mod {aR p S C : Addr} {H H' : Hp} {ns : List Str} {sl : Str → Int} (h : RingAt aR H p ns sl) (s : Mod S C H H') (st : StOk H S C) : RingAt aR H' p ns sl := by
  obtain ⟨⟨dx, nl, sd, h1, h2, h3⟩, g⟩ := h
  exact ⟨⟨dx, nl, sd, s.other st h1 (fun _ z => nomatch z), s.strs st h2, h3.mod s st⟩, g⟩
def spIsName : Sp := fun vs H Q _ => ∃ z : Str, vs = [.str z] ∧ NameOk z ∧ ∀ H', Same H H' → Q (.bl true) H'
def spIsNumber : Sp := fun vs H Q _ => ∃ z : Int, vs = [.int z] ∧ Q (.bl true) H
/-- a list, or a tuple whose object is known -/
def SqAt (b : Bool) (H : Hp) (a : Addr) (xs : List V) : Prop := match b with
  | true => TupF H a xs
  | false => H a = some (.lst xs)
theorem SqAt.same {b : Bool} {H H' : Hp} {a : Addr} {xs : List V} (h : SqAt b H a xs) (s : Same H H') : SqAt b H' a xs := match b, h with
  | true, h => TupF.same h s
  | false, h => s _ _ h
theorem SqAt.seq {K : PySem.W.Frag} {b : Bool} {H : Hp} {a : Addr} {xs : List V} (h : SqAt b H a xs) : SqL K H a xs ∨ SqT K H a xs := match b, h with
  | true, h => .inr (TupF.sq h)
  | false, h => .inl (SqL.of h)
theorem SqAt.l {K : PySem.W.Frag} {H : Hp} {a : Addr} {xs : List V} (h : SqAt false H a xs) : SqL K H a xs := SqL.of (show H a = some (.lst xs) from h)
theorem SqAt.t {K : PySem.W.Frag} {H : Hp} {a : Addr} {xs : List V} (h : SqAt true H a xs) : SqT K H a xs := TupF.sq h
theorem SqAt.tyl {K : PySem.W.Frag} {H : Hp} {a : Addr} {xs : List V} (h : SqAt false H a xs) : TyX K H (.ref a) (.type "list") := .base (.lst (show H a = some (.lst xs) from h))
theorem SqAt.tyt {K : PySem.W.Frag} {H : Hp} {a : Addr} {xs : List V} (h : SqAt true H a xs) : TyX K H (.ref a) (.type "tuple") := let ⟨_, _, e⟩ := h; .fTuple e
/-- a list or a tuple, to be read -/
def SeqR (H : Hp) (a : Addr) (xs : List V) : Prop := H a = some (.lst xs) ∨ H a = some (.tup xs) ∨ TupF H a xs
theorem SeqR.same {H H' : Hp} {a : Addr} {xs : List V} (h : SeqR H a xs) (s : Same H H') : SeqR H' a xs := h.imp (s _ _ ·) (Or.imp (s _ _ ·) (·.same s))
theorem SeqR.seq {K : PySem.W.Frag} {H : Hp} {a : Addr} {xs : List V} (h : SeqR H a xs) : SqL K H a xs ∨ SqT K H a xs := h.imp SqL.of (·.elim SqT.of TupF.sq)
theorem SqAt.rd {b : Bool} {H : Hp} {a : Addr} {xs : List V} (h : SqAt b H a xs) : SeqR H a xs := match b, h with
  | true, h => .inr (.inr h)
  | false, h => .inl h
theorem TupF.mod {S C p : Addr} {H H' : Hp} {xs : List V} (m : TupF H p xs) (s : Mod S C H H') (st : StOk H S C) : TupF H' p xs := let ⟨o, d, e⟩ := m; ⟨o, d, s.other st e (fun _ z => nomatch z)⟩
theorem slF {K : PySem.W.Frag} {H : Hp} {a : Addr} {xs : List V} {lo hi : Option Int} {Q : VK} (ha : TupF H a xs) (q : ∀ H' p, Same H H' → TupF H' p (cutV xs lo hi) → Q (.ref p) H') : rSlF K (.ref a) lo hi H Q := by
  refine ⟨a, xs, rfl, ha.sq, fun ⟨h1, h2⟩ => q H a (fun _ _ h => h) ?_, fun _ p o np e => q _ p (same_new np) ⟨o, e, upd_same⟩⟩
  unfold cutV
  rw [h1, h2, List.drop_zero, Nat.sub_zero, List.take_length]
  exact ha
theorem slF' {K : PySem.W.Frag} {H : Hp} {a : Addr} {xs : List V} {lo hi : Option Int} {Q : VK} (ha : SqT K H a xs) (hw : ¬ (HT.sIx xs.length 0 lo = 0 ∧ HT.sIx xs.length xs.length hi = xs.length)) (q : ∀ H' p, Same H H' → H p = none → TupF H' p (cutV xs lo hi) → Q (.ref p) H') : rSlF K (.ref a) lo hi H Q :=
  ⟨a, xs, rfl, ha, fun e => absurd e hw, fun _ p o np e => q _ p (same_new np) np ⟨o, e, upd_same⟩⟩
theorem slA {K : PySem.W.Frag} {H : Hp} {a : Addr} {xs : List V} {lo hi : Option Int} {Q : VK} (ha : H a = some (.tup xs)) (q : ∀ H' p, Same H H' → H' p = some (.tup (cutV xs lo hi)) → Q (.ref p) H') : rSlA K (.ref a) lo hi H Q := by
  refine ⟨a, xs, rfl, SqT.of ha, fun ⟨h1, h2⟩ => q H a (fun _ _ h => h) ?_, fun _ p np => q _ p (same_new np) upd_same⟩
  rw [ha]
  unfold cutV
  rw [h1, h2, List.drop_zero, Nat.sub_zero, List.take_length]
theorem catA {K : PySem.W.Frag} {H : Hp} {a b : Addr} {xs ys : List V} {Q : VK} (ha : H a = some (.tup xs)) (hb : H b = some (.tup ys)) (hl : xs.length + ys.length ≤ sizeLine) (q : ∀ H' p, Same H H' → H' p = some (.tup (xs ++ ys)) → Q (.ref p) H') : rCatA K (.ref a) (.ref b) H Q := by
  refine ⟨a, b, xs, ys, rfl, rfl, SqT.of ha, SqT.of hb, hl, fun e => q H b (fun _ _ h => h) ?_, fun _ e => q H a (fun _ _ h => h) ?_, fun _ _ p np => q _ p (same_new np) upd_same⟩
  · rw [hb, e]; rfl
  · rw [ha, e, List.append_nil]
theorem catF {K : PySem.W.Frag} {H : Hp} {a b : Addr} {xs ys : List V} {Q : VK} (ha : TupF H a xs) (hb : TupF H b ys) (hl : xs.length + ys.length ≤ sizeLine) (q : ∀ H' p, Same H H' → TupF H' p (xs ++ ys) → Q (.ref p) H') : rCatF K (.ref a) (.ref b) H Q := by
  refine ⟨a, b, xs, ys, rfl, rfl, ha.sq, hb.sq, hl, fun e => q H b (fun _ _ h => h) ?_, fun _ e => q H a (fun _ _ h => h) ?_, fun _ _ p o np d => q _ p (same_new np) ⟨o, d, upd_same⟩⟩
  · rw [e]; exact hb
  · rw [e, List.append_nil]; exact ha
theorem ixSeq {K : PySem.W.Frag} {H : Hp} {a : Addr} {xs : List V} {i : Int} {v : V} {Q : VK} (ha : SeqR H a xs) (e : atI xs i = some v) (q : Q v H) : rIx K (.ref a) (.int i) H Q :=
  (ha.seq (K := K)).elim (fun h => .inl ⟨a, xs, i, v, rfl, rfl, h, e, q⟩) (fun h => .inr (.inl ⟨a, xs, i, v, rfl, rfl, h, e, q⟩))
def spIsNames : Sp := fun vs H Q _ => ∃ (c : Bool) (a : Addr) (ns : List Str), vs = [.ref a] ∧ SqAt c H a (ns.map V.str) ∧ GoodNs ns ∧ ∀ H', Same H H' → Q (.bl true) H'
def spChkNames : Sp := fun vs H Q _ => ∃ (c : Bool) (a : Addr) (ns : List Str), vs = [.ref a] ∧ SqAt c H a (ns.map V.str) ∧ GoodNs ns ∧ ∀ H', Same H H' → Q .non H'
def spChkName : Sp := fun vs H Q _ => ∃ (c : Bool) (a : Addr) (ns : List Str) (x : Str), vs = [.ref a, .str x] ∧ SqAt c H a (ns.map V.str) ∧ x ∈ ns ∧ Q .non H
def spIsSlips : Sp := fun vs H Q _ => ∃ (a d : Addr) (ns : List Str) (sl : Str → Int), vs = [.ref a, .ref d] ∧ H a = some (.lst (ns.map V.str)) ∧ SlipsAt H d ns sl ∧ ns.length ≤ 100 ∧ ∀ H', Same H H' → Q (.bl true) H'
def spBehind : Sp := fun vs H Q _ => ∃ (c : Bool) (a : Addr) (ns : List Str) (x : Str), vs = [.ref a, .str x] ∧ SqAt c H a (ns.map V.str) ∧ ns.length ≤ 100 ∧ x ∈ ns ∧ ∀ H' p, Same H H' → SqAt c H' p ((rot ns x).map V.str) → Q (.ref p) H'
def spSit : Sp := fun vs H Q _ => ∃ (c : Bool) (a g : Addr) (ns found : List Str) (x : Str), vs = [.ref a, .ref g] ∧ SqAt c H a (ns.map V.str) ∧ SeqR H g ((found ++ [x]).map V.str) ∧ ns.length ≤ 100 ∧ x ∈ ns ∧
  ∀ H' p, Same H H' → H p = none → H' p = some (.lst ((sitting ns (found ++ [x]) x).map V.str)) → Q (.ref p) H'
def spInit (aR : Addr) : Sp := fun vs H Q _ => ∃ (p dx a d : Addr) (ns : List Str) (sl : Str → Int), vs = [.ref p, .ref a, .ref d] ∧ H p = some (.ins aR dx []) ∧ H a = some (.lst (ns.map V.str)) ∧ SlipsAt H d ns sl ∧ GoodNs ns ∧
  ∀ H', (∀ b o, H b = some o → b ≠ p → H' b = some o) → RingAt aR H' p ns sl → Q .non H'
def spCounted (aR : Addr) : Sp := fun vs H Q _ => ∃ (p r : Addr) (ns row : List Str) (sl : Str → Int) (g : Str), vs = [.ref p, .str g, .ref r] ∧ RingAt aR H p ns sl ∧ g ∈ ns ∧ H r = some (.lst (row.map V.str)) ∧ row ≠ [] ∧ row.length ≤ 100 ∧
  Q (.str (row.getD (sl g % (row.length : Int)).toNat Str.empty)) H
def spROrder (aR : Addr) : Sp := fun vs H Q _ => ∃ (p : Addr) (ns : List Str) (sl : Str → Int) (b : Str), vs = [.ref p, .str b] ∧ RingAt aR H p ns sl ∧ b ∈ ns ∧ ∀ H' t, Same H H' → H t = none → H' t = some (.tup ((orderOf ns sl b).map V.str)) → Q (.ref t) H'
def spWith (aR : Addr) : Sp := fun vs H Q _ => ∃ (p : Addr) (ns : List Str) (sl : Str → Int) (n : Str) (z : Int), vs = [.ref p, .str n, .int z] ∧ RingAt aR H p ns sl ∧ n ∈ ns ∧ ∀ H' q, Same H H' → H q = none → RingAt aR H' q ns (setSl sl n z) → Q (.ref q) H'
theorem rot_len {ns : List Str} {x : Str} : (rot ns x).length = ns.length := by
  unfold rot
  rw [List.length_append, List.length_drop, List.length_take]
  omega
theorem sitting_len {ns goers : List Str} {x : Str} : (sitting ns goers x).length ≤ ns.length := by
  unfold sitting
  exact Nat.le_trans (List.length_filter_le _ _) (Nat.le_of_eq rot_len)
theorem all_true {α : Type} (f : α → Bool) : ∀ xs : List α, (∀ x ∈ xs, f x = true) → (xs.map f).all id = true
  | [], _ => rfl
  | x :: r, h => by
    rw [List.map_cons, List.all_cons, h x List.mem_cons_self, all_true f r fun y hy => h y (List.mem_cons_of_mem _ hy)]
    rfl
theorem all_rep (n : Nat) : (List.replicate n true).all id = true := by
  rw [List.all_eq_true]
  intro x hx
  exact List.eq_of_mem_replicate hx
theorem nexts_mem {sl : Str → Int} : ∀ (n : Nat) (g : Str) (row : List Str), row.length = n → ∀ y ∈ nexts sl n g row, y ∈ row
  | 0, _, _, _, y, h => nomatch h
  | n + 1, g, row, hl, y, h => by
    have hne : row ≠ [] := fun e => by rw [e] at hl; cases hl
    obtain ⟨j, ej, hj, hjn, hget⟩ := spot (sl g) hne
    rw [nexts_step hjn] at h
    rcases List.mem_cons.mp h with rfl | h
    · exact List.mem_of_getElem? hget
    · have := nexts_mem n _ _ (by rw [cut_len hj]; omega) y h
      rcases List.mem_append.mp this with h | h
      · exact List.mem_of_mem_drop h
      · exact List.mem_of_mem_take h
theorem order_mem {ns : List Str} {sl : Str → Int} {b : Str} (hb : b ∈ ns) : ∀ y ∈ orderOf ns sl b, y ∈ ns := fun y hy => by
  rcases List.mem_cons.mp hy with rfl | hy
  · exact hb
  · have := nexts_mem _ b (behind ns b) (behind_len hb) y hy
    unfold behind at this
    rcases List.mem_append.mp this with h | h
    · exact List.mem_of_mem_drop h
    · exact List.mem_of_mem_take h
theorem GoodNs.ostr {ns : List Str} (g : GoodNs ns) {sl : Str → Int} {b : Str} (hb : b ∈ ns) : ∀ y ∈ orderOf ns sl b, PyData.strOk y = true := fun y hy => g.str y (order_mem hb y hy)
theorem RingAt.noM {aR p : Addr} {H : Hp} {ns : List Str} {sl : Str → Int} (h : RingAt aR H p ns sl) {m : Str} (h1 : ¬ m = "_names") (h2 : ¬ m = "_slips") : ∃ dx fs, H p = some (.ins aR dx fs) ∧ fs.lookup m = none := by
  obtain ⟨⟨dx, nl, sd, e, _⟩, _⟩ := h
  exact ⟨dx, _, e, rflds_no nl sd h1 h2⟩
end GL
/-! Who begins next; sorted lists of names. -/
namespace GL
open PySem PySem.Spec PyProof.Rows L2
def leS (a b : Str) : Prop := ltCps b.cps.toList a.cps.toList = false
theorem leS_iff {a b : Str} : leS a b ↔ a.cps.toList ≤ b.cps.toList := by
  unfold leS
  rw [ltCps_eq, decide_eq_false_iff_not, List.not_lt]
theorem str_ext {a b : Str} (h : a.cps.toList = b.cps.toList) : a = b := by
  cases a
  cases b
  exact congrArg Str.mk (Array.ext' h)
theorem rising_pair : ∀ (p : Str) (l : List Str), risingS p l = true → (p :: l).Pairwise leS
  | p, [], _ => List.pairwise_cons.mpr ⟨(fun _ h => nomatch h), List.Pairwise.nil⟩
  | p, x :: r, h => by
    have h' : (!ltCps x.cps.toList p.cps.toList && risingS x r) = true := h
    rw [Bool.and_eq_true, Bool.not_eq_true'] at h'
    have ih := rising_pair x r h'.2
    refine List.pairwise_cons.mpr ⟨fun y hy => ?_, ih⟩
    have px : leS p x := h'.1
    rcases List.mem_cons.mp hy with rfl | hy
    · exact px
    · have xy := (List.pairwise_cons.mp ih).1 y hy
      rw [leS_iff] at *
      exact List.le_trans px xy
theorem sorted_pair {l : List Str} (h : sortedS l = true) : l.Pairwise leS := by
  cases l with
  | nil => exact List.Pairwise.nil
  | cons x r => exact rising_pair x r h
theorem sorted_one {l m : List Str} (h1 : sortedS l = true) (h2 : sortedS m = true) (p : l.Perm m) : l = m :=
  List.Perm.eq_of_pairwise (le := leS) (fun a b _ _ x y => str_ext (List.le_antisymm (leS_iff.mp x) (leS_iff.mp y))) (sorted_pair h1) (sorted_pair h2) p
/-! ### the last one, and who begins next -/
theorem nexts_perm {sl : Str → Int} : ∀ (n : Nat) (g : Str) (row : List Str), row.length = n → (nexts sl n g row).Perm row
  | 0, g, row, h => by rw [List.eq_nil_of_length_eq_zero h]; exact .refl _
  | n + 1, g, row, h => by
    have hne : row ≠ [] := fun e => by rw [e] at h; cases h
    obtain ⟨j, ej, hj, hjn, hget⟩ := spot (sl g) hne
    rw [nexts_step hjn]
    have ih := nexts_perm (sl := sl) n (row.getD j Str.empty) (row.drop (j + 1) ++ row.take j) (by rw [cut_len hj]; omega)
    have e : row = row.take j ++ row.getD j Str.empty :: row.drop (j + 1) := by
      obtain ⟨h1, e1⟩ := List.getElem?_eq_some_iff.mp hget
      rw [← e1, List.getElem_cons_drop, List.take_append_drop]
    refine (ih.cons _).trans ?_
    refine ((List.perm_append_comm.cons _)).trans ?_
    refine List.perm_middle.symm.trans ?_
    rw [← e]
theorem behind_perm {ns : List Str} {b : Str} (hb : b ∈ ns) : (b :: behind ns b).Perm ns := by
  have e : ns = ns.take (ns.idxOf b) ++ b :: ns.drop (ns.idxOf b + 1) := by
    have h1 := idx_lt hb
    have h2 : ns[ns.idxOf b] = b := List.getElem_idxOf h1
    conv => rhs; rw [← h2]
    rw [h2, show b :: ns.drop (ns.idxOf b + 1) = ns.drop (ns.idxOf b) by rw [← List.getElem_cons_drop h1, h2], List.take_append_drop]
  unfold behind
  refine (List.perm_append_comm.cons _).trans ?_
  refine List.perm_middle.symm.trans ?_
  rw [← e]
theorem order_perm {ns : List Str} {sl : Str → Int} {b : Str} (hb : b ∈ ns) : (orderOf ns sl b).Perm ns :=
  ((nexts_perm _ b (behind ns b) (behind_len hb)).cons b).trans (behind_perm hb)
def lastOf (ns : List Str) (sl : Str → Int) (b : Str) : Str := (orderOf ns sl b).getLast (List.cons_ne_nil _ _)
theorem order_split (ns : List Str) (sl : Str → Int) (b : Str) : (orderOf ns sl b).dropLast ++ [lastOf ns sl b] = orderOf ns sl b := List.dropLast_concat_getLast _
theorem order_last (ns : List Str) (sl : Str → Int) (b : Str) : atI ((orderOf ns sl b).map V.str) (-1) = some (.str (lastOf ns sl b)) := by
  rw [← order_split]
  exact last_s _ _
theorem last_mem {ns : List Str} {sl : Str → Int} {b : Str} (hb : b ∈ ns) : lastOf ns sl b ∈ ns := order_mem hb _ (List.getLast_mem _)
def ledOf (ns : List Str) (x : Str) (z : Int) : Str := (rot ns x).getD (z % (ns.length : Int)).toNat Str.empty
def nextOf (ns : List Str) (sl : Str → Int) (b : Str) : Str := ledOf ns (lastOf ns sl b) (sl (lastOf ns sl b))
theorem nexts_off {sl sl' : Str → Int} {x : Str} (hs : ∀ y, y ≠ x → sl' y = sl y) : ∀ (n : Nat) (g : Str) (row : List Str), x ∉ (g :: nexts sl n g row).dropLast → nexts sl' n g row = nexts sl n g row
  | 0, g, row, _ => rfl
  | n + 1, g, row, h => by
    have e : nexts sl (n + 1) g row = row.getD (sl g % (row.length : Int)).toNat Str.empty :: nexts sl n (row.getD (sl g % (row.length : Int)).toNat Str.empty) (row.drop ((sl g % (row.length : Int)).toNat + 1) ++ row.take (sl g % (row.length : Int)).toNat) := rfl
    rw [e, List.dropLast_cons₂, List.mem_cons, not_or] at h
    have hg := hs g (fun z => h.1 z.symm)
    rw [e, nexts_step (sl := sl') (j := (sl g % (row.length : Int)).toNat) (by rw [hg]), nexts_off hs n _ _ h.2]
theorem order_off {ns : List Str} {sl sl' : Str → Int} {b : Str} (hn : ns.Nodup) (hb : b ∈ ns) (hs : ∀ y, y ≠ lastOf ns sl b → sl' y = sl y) : orderOf ns sl' b = orderOf ns sl b := by
  have nd : (orderOf ns sl b).Nodup := (order_perm hb).nodup_iff.mpr hn
  rw [← order_split, List.nodup_append] at nd
  have : lastOf ns sl b ∉ (orderOf ns sl b).dropLast := fun h => nd.2.2 _ h _ (List.mem_singleton.mpr rfl) rfl
  unfold orderOf at this ⊢
  rw [nexts_off hs _ _ _ this]
theorem last_off {ns : List Str} {sl sl' : Str → Int} {b : Str} (hn : ns.Nodup) (hb : b ∈ ns) (hs : ∀ y, y ≠ lastOf ns sl b → sl' y = sl y) : lastOf ns sl' b = lastOf ns sl b := by
  unfold lastOf
  have e := order_off hn hb hs
  simp only [e]
theorem setSl_off {sl : Str → Int} {x : Str} {z : Int} : ∀ y, y ≠ x → setSl sl x z y = sl y := fun y h => if_neg h
theorem setSl_at {sl : Str → Int} {x : Str} {z : Int} : setSl sl x z x = z := if_pos rfl
theorem next_set {ns : List Str} {sl : Str → Int} {b : Str} {z : Int} (hn : ns.Nodup) (hb : b ∈ ns) : nextOf ns (setSl sl (lastOf ns sl b) z) b = ledOf ns (lastOf ns sl b) z := by
  unfold nextOf
  rw [last_off hn hb setSl_off, setSl_at]
theorem rot_at {ns : List Str} {x : Str} {j : Nat} (hx : x ∈ ns) (hj : j < ns.length) : (rot ns x)[j]? = ns[(ns.idxOf x + 1 + j) % ns.length]? := by
  have hi := idx_lt hx
  unfold rot
  by_cases h : j < ns.length - (ns.idxOf x + 1)
  · rw [List.getElem?_append_left (by rw [List.length_drop]; exact h), List.getElem?_drop, Nat.mod_eq_of_lt (by omega)]
  · rw [List.getElem?_append_right (by rw [List.length_drop]; omega), List.length_drop, List.getElem?_take, if_pos (by omega)]
    have : (ns.idxOf x + 1 + j) % ns.length = ns.idxOf x + 1 + j - ns.length := by
      rw [Nat.mod_eq_sub_mod (by omega), Nat.mod_eq_of_lt (by omega)]
    rw [this]
    congr 1
    omega
theorem led_at {ns : List Str} {x : Str} {z : Int} (hx : x ∈ ns) : ∃ k : Nat, z % (ns.length : Int) = (k : Int) ∧ k < ns.length ∧ ns[(ns.idxOf x + 1 + k) % ns.length]? = some (ledOf ns x z) := by
  have hi := idx_lt hx
  have h0 := Int.emod_nonneg z (show (ns.length : Int) ≠ 0 by omega)
  have h1 := Int.emod_lt_of_pos z (show (0 : Int) < (ns.length : Int) by omega)
  obtain ⟨k, hk⟩ := Int.eq_ofNat_of_zero_le h0
  refine ⟨k, hk, by omega, ?_⟩
  unfold ledOf
  rw [← rot_at hx (by omega), hk, Int.toNat_natCast, List.getD_eq_getElem?_getD, List.getElem?_eq_getElem (by rw [rot_len]; omega)]
  rfl
theorem led_range {ns : List Str} {x : Str} (hx : x ∈ ns) : ((List.range ns.length).map fun k => ledOf ns x ((k : Nat) : Int)) = rot ns x := by
  have hi := idx_lt hx
  refine List.ext_getElem? fun i => ?_
  by_cases h : i < ns.length
  · rw [List.getElem?_map, List.getElem?_range h]
    show some (ledOf ns x (i : Int)) = _
    unfold ledOf
    rw [Int.emod_eq_of_lt (by omega) (by omega), Int.toNat_natCast, List.getD_eq_getElem?_getD, List.getElem?_eq_getElem (by rw [rot_len]; exact h)]
    rfl
  · rw [List.getElem?_eq_none (by rw [List.length_map, List.length_range]; omega), List.getElem?_eq_none (by rw [rot_len]; omega)]
theorem rot_perm {ns : List Str} {x : Str} : (rot ns x).Perm ns := by
  unfold rot
  refine List.perm_append_comm.trans ?_
  rw [List.take_append_drop]
theorem rot_last {ns : List Str} {x : Str} (hx : x ∈ ns) : ∃ A, rot ns x = A ++ [x] := by
  refine ⟨ns.drop (ns.idxOf x + 1) ++ ns.take (ns.idxOf x), ?_⟩
  unfold rot
  rw [take_snoc (idx_at hx), List.append_assoc]
theorem led_mem {ns : List Str} {x : Str} {z : Int} (hx : x ∈ ns) : ledOf ns x z ∈ ns := by
  obtain ⟨k, _, _, h⟩ := led_at (z := z) hx
  exact List.mem_of_getElem? h
theorem next_mem {ns : List Str} {sl : Str → Int} {b : Str} (hb : b ∈ ns) : nextOf ns sl b ∈ ns := led_mem (last_mem hb)
/-! ### promises -/
def spNext (aR : Addr) : Sp := fun vs H Q _ => ∃ (p : Addr) (ns : List Str) (sl : Str → Int) (b : Str), vs = [.ref p, .str b] ∧ RingAt aR H p ns sl ∧ b ∈ ns ∧ ∀ H', Same H H' → Q (.str (nextOf ns sl b)) H'
def spSlipOf (aR : Addr) : Sp := fun vs H Q _ => ∃ (p : Addr) (ns : List Str) (sl : Str → Int) (b : Str), vs = [.ref p, .str b] ∧ RingAt aR H p ns sl ∧ b ∈ ns ∧ Q (.int (sl b)) H
def spSlipsOf (aR : Addr) : Sp := fun vs H Q _ => ∃ (p : Addr) (ns : List Str) (sl : Str → Int), vs = [.ref p] ∧ RingAt aR H p ns sl ∧ ∀ H' d, Same H H' → H d = none → SlipsAt H' d ns sl → Q (.ref d) H'
def spLed : Sp := fun vs H Q _ => ∃ (a : Addr) (ns : List Str) (x : Str) (z : Int), vs = [.ref a, .str x, .int z] ∧ H a = some (.lst (ns.map V.str)) ∧ ns.length ≤ 100 ∧ x ∈ ns ∧ Q (.str (ledOf ns x z)) H
end GL
/-! Rings turned, renamed, with other slips that leave the same, mirrored. -/
namespace GL
open PySem PySem.Spec PyProof.Rows L2
theorem rot_behind {ns : List Str} {x : Str} (hn : ns.Nodup) (hx : x ∈ ns) : rot ns x = behind ns x ++ [x] := by
  obtain ⟨U, V, rfl⟩ := List.append_of_mem hx
  obtain ⟨hU, _⟩ := nd_mid hn
  rw [rot_mid hU, behind_mid hU]
/-! ### turned -/
theorem behind_cyc {A B : List Str} {x : Str} (hn : (A ++ B).Nodup) (hx : x ∈ A ++ B) : behind (B ++ A) x = behind (A ++ B) x := by
  have hd := (List.nodup_append.mp hn).2.2
  rcases List.mem_append.mp hx with h | h
  · obtain ⟨U, V, rfl⟩ := List.append_of_mem h
    have hxB : x ∉ B := fun hb => hd x h x hb rfl
    have hxU : x ∉ U := (nd_mid (List.nodup_append.mp hn).1).1
    rw [← List.append_assoc, behind_mid (U := B ++ U) (by rw [List.mem_append, not_or]; exact ⟨hxB, hxU⟩), List.append_assoc, List.cons_append, behind_mid hxU, List.append_assoc]
  · obtain ⟨U, V, rfl⟩ := List.append_of_mem h
    have hxA : x ∉ A := fun ha => hd x ha x h rfl
    have hxU : x ∉ U := (nd_mid (List.nodup_append.mp hn).2.1).1
    rw [← List.append_assoc, behind_mid (U := A ++ U) (by rw [List.mem_append, not_or]; exact ⟨hxA, hxU⟩), List.append_assoc, List.cons_append, behind_mid hxU, List.append_assoc]
theorem nd_cyc {A B : List Str} (hn : (A ++ B).Nodup) : (B ++ A).Nodup := List.perm_append_comm.nodup_iff.mpr hn
theorem order_cyc {A B : List Str} {sl : Str → Int} {b : Str} (hn : (A ++ B).Nodup) (hb : b ∈ A ++ B) : orderOf (B ++ A) sl b = orderOf (A ++ B) sl b := by
  unfold orderOf
  rw [behind_cyc hn hb, List.length_append, List.length_append, Nat.add_comm]
theorem last_eq {ns ms : List Str} {sl sl' : Str → Int} {b c : Str} (e : orderOf ns sl b = orderOf ms sl' c) : lastOf ns sl b = lastOf ms sl' c := by
  unfold lastOf
  simp only [e]
theorem led_cyc {A B : List Str} {x : Str} {z : Int} (hn : (A ++ B).Nodup) (hx : x ∈ A ++ B) : ledOf (B ++ A) x z = ledOf (A ++ B) x z := by
  have hx' : x ∈ B ++ A := List.mem_append.mpr (List.mem_append.mp hx).symm
  unfold ledOf
  rw [rot_behind (nd_cyc hn) hx', rot_behind hn hx, behind_cyc hn hx, List.length_append, List.length_append, Nat.add_comm]
theorem next_cyc {A B : List Str} {sl : Str → Int} {b : Str} (hn : (A ++ B).Nodup) (hb : b ∈ A ++ B) : nextOf (B ++ A) sl b = nextOf (A ++ B) sl b := by
  unfold nextOf
  rw [last_eq (order_cyc (sl := sl) hn hb), led_cyc hn (last_mem hb)]
/-! ### renamed -/
theorem getD_map {f : Str → Str} {row : List Str} {j : Nat} (h : j < row.length) : (row.map f).getD j Str.empty = f (row.getD j Str.empty) := by
  rw [List.getD_eq_getElem?_getD, List.getD_eq_getElem?_getD, List.getElem?_map, List.getElem?_eq_getElem h]
  rfl
theorem getD_in {row : List Str} {j : Nat} (h : j < row.length) : row.getD j Str.empty ∈ row := by
  rw [List.getD_eq_getElem?_getD, List.getElem?_eq_getElem h]
  exact List.getElem_mem h
theorem cut_in {row : List Str} {j : Nat} {y : Str} (h : y ∈ row.drop (j + 1) ++ row.take j) : y ∈ row := by
  rcases List.mem_append.mp h with h | h
  · exact List.mem_of_mem_drop h
  · exact List.mem_of_mem_take h
theorem ne_nil {row : List Str} {n : Nat} (h : n + 1 ≤ row.length) : row ≠ [] := fun e => by rw [e] at h; exact absurd h (Nat.not_succ_le_zero n)
theorem nexts_map {f : Str → Str} {sl sl' : Str → Int} : ∀ (n : Nat) (g : Str) (row : List Str), n ≤ row.length → sl' (f g) = sl g → (∀ y ∈ row, sl' (f y) = sl y) → nexts sl' n (f g) (row.map f) = (nexts sl n g row).map f
  | 0, _, _, _, _, _ => rfl
  | n + 1, g, row, hl, hg, hr => by
    obtain ⟨j, _, hj, ej, _⟩ := spot (sl g) (ne_nil hl)
    rw [nexts_step ej, nexts_step (sl := sl') (j := j) (by rw [hg, List.length_map]; exact ej), getD_map hj, List.map_cons]
    congr 1
    rw [← List.map_drop, ← List.map_take, ← List.map_append]
    exact nexts_map n _ _ (by rw [cut_len hj]; omega) (hr _ (getD_in hj)) fun y hy => hr y (cut_in hy)
theorem behind_map {f : Str → Str} {ns : List Str} {b : Str} (hn : ns.Nodup) (hb : b ∈ ns) (hf : ∀ x ∈ ns, ∀ y ∈ ns, f x = f y → x = y) : behind (ns.map f) (f b) = (behind ns b).map f := by
  obtain ⟨U, V, rfl⟩ := List.append_of_mem hb
  obtain ⟨hU, _⟩ := nd_mid hn
  have hfU : f b ∉ U.map f := fun h => by
    obtain ⟨u, hu, e⟩ := List.mem_map.mp h
    have := hf u (List.mem_append_left _ hu) b hb e
    exact hU (this ▸ hu)
  rw [List.map_append, List.map_cons, behind_mid hfU, behind_mid hU, List.map_append]
theorem behind_in {ns : List Str} {b y : Str} (h : y ∈ behind ns b) : y ∈ ns := by
  unfold behind at h
  rcases List.mem_append.mp h with h | h
  · exact List.mem_of_mem_drop h
  · exact List.mem_of_mem_take h
theorem order_map {f : Str → Str} {ns : List Str} {sl sl' : Str → Int} {b : Str} (hn : ns.Nodup) (hb : b ∈ ns) (hf : ∀ x ∈ ns, ∀ y ∈ ns, f x = f y → x = y) (hs : ∀ y ∈ ns, sl' (f y) = sl y) : orderOf (ns.map f) sl' (f b) = (orderOf ns sl b).map f := by
  unfold orderOf
  rw [behind_map hn hb hf, List.length_map, List.map_cons, nexts_map _ _ _ (by rw [behind_len hb]; exact Nat.le_refl _) (hs b hb) fun y hy => hs y (behind_in hy)]
theorem last_map {f : Str → Str} {ns : List Str} {sl sl' : Str → Int} {b : Str} (hn : ns.Nodup) (hb : b ∈ ns) (hf : ∀ x ∈ ns, ∀ y ∈ ns, f x = f y → x = y) (hs : ∀ y ∈ ns, sl' (f y) = sl y) : lastOf (ns.map f) sl' (f b) = f (lastOf ns sl b) := by
  unfold lastOf
  simp only [order_map hn hb hf hs]
  rw [List.getLast_map]
theorem next_map {f : Str → Str} {ns : List Str} {sl sl' : Str → Int} {b : Str} (hn : ns.Nodup) (hb : b ∈ ns) (hf : ∀ x ∈ ns, ∀ y ∈ ns, f x = f y → x = y) (hs : ∀ y ∈ ns, sl' (f y) = sl y) : nextOf (ns.map f) sl' (f b) = f (nextOf ns sl b) := by
  have hm := last_mem (sl := sl) hb
  have hnm : (ns.map f).Nodup := by
    rw [List.nodup_iff_pairwise_ne, List.pairwise_map]
    exact (List.pairwise_iff_forall_sublist.mpr fun {x y} h => fun e => by
      have hx : x ∈ ns := h.subset List.mem_cons_self
      have hy : y ∈ ns := h.subset (List.mem_cons_of_mem _ List.mem_cons_self)
      have exy := hf x hx y hy e
      have := hn.sublist h
      rw [exy] at this
      simp at this)
  unfold nextOf
  rw [last_map hn hb hf hs, hs _ hm]
  unfold ledOf
  have e : rot (ns.map f) (f (lastOf ns sl b)) = (rot ns (lastOf ns sl b)).map f := by
    rw [rot_behind hnm (List.mem_map_of_mem hm), rot_behind hn hm, behind_map hn hm hf, List.map_append]
    rfl
  have hp : 0 < ns.length := List.length_pos_iff.mpr fun e => by rw [e] at hb; cases hb
  have h0 := Int.emod_nonneg (sl (lastOf ns sl b)) (show (ns.length : Int) ≠ 0 by omega)
  have h1 := Int.emod_lt_of_pos (sl (lastOf ns sl b)) (show (0 : Int) < (ns.length : Int) by omega)
  rw [e, List.length_map, getD_map (by rw [rot_len]; omega)]
/-! ### other slips that leave the same -/
theorem nexts_mod {sl sl' : Str → Int} : ∀ (n : Nat) (g : Str) (row : List Str), n ≤ row.length → (∀ k : Nat, 1 ≤ k → k ≤ row.length → sl' g % (k : Int) = sl g % (k : Int)) → (∀ y ∈ row, ∀ k : Nat, 1 ≤ k → k ≤ row.length → sl' y % (k : Int) = sl y % (k : Int)) → nexts sl' n g row = nexts sl n g row
  | 0, _, _, _, _, _ => rfl
  | n + 1, g, row, hl, hg, hr => by
    obtain ⟨j, _, hj, ej, _⟩ := spot (sl g) (ne_nil hl)
    have hc := cut_len hj
    rw [nexts_step ej, nexts_step (sl := sl') (j := j) (by rw [hg _ (by omega) (Nat.le_refl _)]; exact ej)]
    congr 1
    exact nexts_mod n _ _ (by rw [hc]; omega) (fun k a b => hr _ (getD_in hj) k a (by rw [hc] at b; omega)) fun y hy k a b => hr y (cut_in hy) k a (by rw [hc] at b; omega)
theorem order_mod {ns : List Str} {sl sl' : Str → Int} {b : Str} (hb : b ∈ ns) (h : ∀ y ∈ ns, ∀ k : Nat, 1 ≤ k → k ≤ ns.length → sl' y % (k : Int) = sl y % (k : Int)) : orderOf ns sl' b = orderOf ns sl b := by
  have hl := behind_len hb
  unfold orderOf
  rw [nexts_mod _ _ _ (by rw [hl]; exact Nat.le_refl _) (fun k a c => h b hb k a (by rw [hl] at c; omega)) fun y hy k a c => h y (behind_in hy) k a (by rw [hl] at c; omega)]
theorem next_mod {ns : List Str} {sl sl' : Str → Int} {b : Str} (hb : b ∈ ns) (h : ∀ y ∈ ns, ∀ k : Nat, 1 ≤ k → k ≤ ns.length → sl' y % (k : Int) = sl y % (k : Int)) : nextOf ns sl' b = nextOf ns sl b := by
  have hp : 0 < ns.length := List.length_pos_iff.mpr fun e => by rw [e] at hb; cases hb
  unfold nextOf
  rw [last_eq (order_mod hb h)]
  unfold ledOf
  rw [h _ (last_mem hb) _ hp (Nat.le_refl _)]
/-! ### mirrored -/
theorem neg_mod {z k : Int} (hk : 0 < k) : (-1 - z) % k = k - 1 - z % k := by
  have h0 := Int.emod_nonneg z (show k ≠ 0 by omega)
  have h1 := Int.emod_lt_of_pos z hk
  have e := Int.emod_add_mul_ediv z k
  have e2 : -1 - z = (k - 1 - z % k) + k * (-(z / k) - 1) := by rw [Int.mul_sub, Int.mul_neg]; omega
  rw [e2, Int.add_mul_emod_self_left]
  exact Int.emod_eq_of_lt (by omega) (by omega)
theorem nexts_rev {sl : Str → Int} : ∀ (n : Nat) (g : Str) (row : List Str), n ≤ row.length → nexts (fun y => -1 - sl y) n g row.reverse = nexts sl n g row
  | 0, _, _, _ => rfl
  | n + 1, g, row, hl => by
    obtain ⟨j, ez, hj, ej, _⟩ := spot (sl g) (ne_nil hl)
    have hp : (0 : Int) < (row.length : Int) := by omega
    rw [nexts_step ej, nexts_step (sl := fun y => -1 - sl y) (j := row.length - 1 - j) (by rw [List.length_reverse, neg_mod hp, ez]; omega)]
    have e1 : row.reverse.getD (row.length - 1 - j) Str.empty = row.getD j Str.empty := by
      rw [List.getD_eq_getElem?_getD, List.getD_eq_getElem?_getD, List.getElem?_reverse (by omega)]
      congr 2
      omega
    have e2 : row.reverse.drop (row.length - 1 - j + 1) ++ row.reverse.take (row.length - 1 - j) = (row.drop (j + 1) ++ row.take j).reverse := by
      rw [List.drop_reverse, List.take_reverse, List.reverse_append]
      congr 3 <;> omega
    rw [e1, e2, nexts_rev n _ _ (by rw [cut_len hj]; omega)]
theorem behind_rev {ns : List Str} {b : Str} (hn : ns.Nodup) (hb : b ∈ ns) : behind ns.reverse b = (behind ns b).reverse := by
  obtain ⟨U, V, rfl⟩ := List.append_of_mem hb
  obtain ⟨hU, hV⟩ := nd_mid hn
  have e : (U ++ b :: V).reverse = V.reverse ++ b :: U.reverse := by
    rw [List.reverse_append, List.reverse_cons, List.append_assoc]
    rfl
  rw [e, behind_mid (fun h => hV (List.mem_reverse.mp h)), behind_mid hU, List.reverse_append]
theorem order_rev {ns : List Str} {sl : Str → Int} {b : Str} (hn : ns.Nodup) (hb : b ∈ ns) : orderOf ns.reverse (fun y => -1 - sl y) b = orderOf ns sl b := by
  unfold orderOf
  rw [behind_rev hn hb, List.length_reverse, nexts_rev _ _ _ (by rw [behind_len hb]; exact Nat.le_refl _)]
theorem led_rev {ns : List Str} {x : Str} {z : Int} (hn : ns.Nodup) (hx : x ∈ ns) : ledOf ns.reverse x (-2 - z) = ledOf ns x z := by
  have hp : (0 : Int) < (ns.length : Int) := by
    have : 0 < ns.length := List.length_pos_iff.mpr fun e => by rw [e] at hx; cases hx
    omega
  have hl := behind_len hx
  have hx' : x ∈ ns.reverse := List.mem_reverse.mpr hx
  have hn' : ns.reverse.Nodup := (List.reverse_perm ns).nodup_iff.mpr hn
  have h0 := Int.emod_nonneg z (show (ns.length : Int) ≠ 0 by omega)
  have h1 := Int.emod_lt_of_pos z hp
  have e0 := Int.emod_add_mul_ediv z (ns.length : Int)
  unfold ledOf
  rw [rot_behind hn' hx', rot_behind hn hx, behind_rev hn hx, List.length_reverse]
  generalize behind ns x = R at *
  by_cases c : z % (ns.length : Int) = (ns.length : Int) - 1
  · have e : (-2 - z) % (ns.length : Int) = (ns.length : Int) - 1 := by
      have e2 : -2 - z = ((ns.length : Int) - 1) + (ns.length : Int) * (-(z / (ns.length : Int)) - 2) := by rw [Int.mul_sub, Int.mul_neg]; omega
      rw [e2, Int.add_mul_emod_self_left]
      exact Int.emod_eq_of_lt (by omega) (by omega)
    rw [e, c, List.getD_eq_getElem?_getD, List.getD_eq_getElem?_getD, List.getElem?_append_right (by rw [List.length_reverse]; omega), List.getElem?_append_right (by omega), List.length_reverse]
  · have e : (-2 - z) % (ns.length : Int) = (ns.length : Int) - 2 - z % (ns.length : Int) := by
      have e2 : -2 - z = ((ns.length : Int) - 2 - z % (ns.length : Int)) + (ns.length : Int) * (-(z / (ns.length : Int)) - 1) := by rw [Int.mul_sub, Int.mul_neg]; omega
      rw [e2, Int.add_mul_emod_self_left]
      exact Int.emod_eq_of_lt (by omega) (by omega)
    rw [e, List.getD_eq_getElem?_getD, List.getD_eq_getElem?_getD, List.getElem?_append_left (by rw [List.length_reverse]; omega), List.getElem?_append_left (by omega), List.getElem?_reverse (by omega)]
    congr 2
    omega
theorem mirror {ns : List Str} {sl sl' : Str → Int} {b : Str} (hn : ns.Nodup) (hb : b ∈ ns) (h1 : ∀ y, y ≠ lastOf ns sl b → sl' y = -1 - sl y) (h2 : sl' (lastOf ns sl b) = -2 - sl (lastOf ns sl b)) : orderOf ns.reverse sl' b = orderOf ns sl b ∧ nextOf ns.reverse sl' b = nextOf ns sl b := by
  have hn' : ns.reverse.Nodup := (List.reverse_perm ns).nodup_iff.mpr hn
  have hb' : b ∈ ns.reverse := List.mem_reverse.mpr hb
  have el : lastOf ns.reverse (fun y => -1 - sl y) b = lastOf ns sl b := last_eq (order_rev hn hb)
  have eo : orderOf ns.reverse sl' b = orderOf ns sl b := by
    rw [order_off hn' hb' (sl := fun y => -1 - sl y) (sl' := sl') (fun y hy => h1 y (by rwa [el] at hy)), order_rev hn hb]
  refine ⟨eo, ?_⟩
  unfold nextOf
  rw [last_eq eo, h2, led_rev hn (last_mem hb)]
end GL
/-! Own rule: dict(zip(a, b)), two lists of one length. -/
namespace L2
open PySem PySem.Spec PyProof.Rows
variable {X : Cx}
theorem zip_kv {P : Program} {w : World} : ∀ {ks : List Key} {xs : List V} {us vs : List Value}, Vals (ks.map kV) us → Vals xs vs → ks.length = xs.length →
    KV (ks.zip xs) (ks.zip vs) ∧ (ks.zip vs).length = ks.length ∧ us.length = ks.length ∧ vs.length = ks.length ∧ ∀ (i : Nat) (u v : Value), us[i]? = some u → vs[i]? = some v → ∃ k, (ks.zip vs)[i]? = some (k, v) ∧ (mixKind P w).is k u = true
  | [], [], _, _, .nil, .nil, _ => ⟨.nil, rfl, rfl, rfl, fun i u v e _ => by simp at e⟩
  | k :: ks, x :: xs, _, _, .cons (b := u) (l₂ := us) r1 t1, .cons (b := v) (l₂ := vs) r2 t2, h => by
    obtain ⟨a, b, b1, b2, c⟩ := zip_kv (P := P) (w := w) t1 t2 (by simpa using h)
    refine ⟨.cons ⟨rfl, r2⟩ a, by simpa using b, by simpa using b1, by simpa using b2, fun i u' v' e1 e2 => ?_⟩
    cases i with
    | zero =>
      have e1 : u = u' := Option.some.inj e1
      have e2 : v = v' := Option.some.inj e2
      subst e1
      subst e2
      exact ⟨k, rfl, kV_is (P := P) (w := w) r1⟩
    | succ i =>
      obtain ⟨k', d1, d2⟩ := c i u' v' (by simpa using e1) (by simpa using e2)
      exact ⟨k', by simpa using d1, d2⟩
  | [], _ :: _, _, _, _, _, h => by simp at h
  | _ :: _, [], _, _, _, _, h => by simp at h
def tDictZip (K : PySem.W.Frag) (ta : TA) : TE := fun σ H Q => ta σ H fun vs H1 => ∃ (a b : Addr) (ks : List Key) (xs : List V), vs = [.ref a, .ref b] ∧ SqL K H1 a (ks.map kV) ∧ SqL K H1 b xs ∧ ks.length = xs.length ∧ ∀ q, H1 q = none → Q (.ref q) (upd H1 q (.dK (mergeK [] (ks.zip xs))))
theorem pe_dictZip {e e2 : Expr} {ta : TA} {p p2 pos pos2 : Pos} (hc : X.calm = true) (hm : X.mg "dict" = none) (hm2 : X.mg "zip" = none) (ha : PA X [e, e2] ta) (hg : Gl X "dict" := by rfl) (hg2 : Gl X "zip" := by rfl)
    (hs : starEach [e, e2] X.env = (false, eval e X.env) :: starEach [e2] X.env := by rfl) (hpl : (backTo pos2 (starEach [e2] X.env)).any (·.1) = false := by rfl)
    (na : starEach [.Call (.Name "zip" p2) [e, e2] [] pos2] X.env = (false, eval (.Call (.Name "zip" p2) [e, e2] [] pos2) X.env) :: starEach [] X.env := by rfl) :
    PE X (.Call (.Name "dict" p) [.Call (.Name "zip" p2) [e, e2] [] pos2] [] pos) (tDictZip X.K ta) := by
  refine ⟨fun pins s σ H Q I h => ?_⟩
  have hr : wpAny (model X.prog X.w) X.A (eval (.Call (.Name "zip" p2) [e, e2] [] pos2) X.env) (fun x s' => ∃ (s1 : Shared) (h' : Heap) (a b : Addr) (ks : List Key) (xs : List V) (us vs : List Value) (H1 : Hp), x = .ref (s1.heap.objs.size + 4) ∧ s' = { s1 with heap := h' } ∧ Inv X pins σ H1 s1 ∧
      (∀ c o, s1.heap.get? c = some o → h'.get? c = some o) ∧ s1.heap.objs.size + 5 ≤ h'.objs.size ∧
      ZipApart (s1.heap.objs.size + 4) (s1.heap.objs.size + 2) (s1.heap.objs.size + 3) s1.heap.objs.size (s1.heap.objs.size + 1) a b ∧
      (IsZip h' (s1.heap.objs.size + 4) (s1.heap.objs.size + 2) (s1.heap.objs.size + 3) .none ∧ IsPair h' (s1.heap.objs.size + 2) (.ref s1.heap.objs.size) (.ref (s1.heap.objs.size + 1)) ∧ (∃ y z, IsPair h' (s1.heap.objs.size + 3) y z) ∧ h'.IsListIter s1.heap.objs.size a 0 ∧ h'.IsListIter (s1.heap.objs.size + 1) b 0 ∧ h'.IsList a us.toArray ∧ h'.IsList b vs.toArray) ∧
      Vals (ks.map kV) us ∧ Vals xs vs ∧ ks.length = xs.length ∧ xs.length ≤ sizeLine ∧ ∀ q, H1 q = none → Q (.ref q) (upd H1 q (.dK (mergeK [] (ks.zip xs))))) X.xe s := by
    refine Call_ (ld_blt I hg2 hm2 PyProof.Rows.boot_zip (PyProof.Rows.callWith_type1 (thn (ha.run pos2 pins s σ H _ I h) fun us s1 ⟨vs, H1, I1, r1, q1⟩ => ?_) hs hpl))
    obtain ⟨a, b, ks, xs, ex, hqx, hqy, hlen, q⟩ := q1
    subst ex
    cases r1 with
    | cons r rr =>
      cases rr with
      | cons r' rr =>
        cases rr
        cases r
        cases r'
        obtain ⟨its, rv, p1, _⟩ := I1.list hqx
        obtain ⟨its2, rv2, q2, z2⟩ := I1.list hqy
        have la : a < s1.heap.objs.size := p1.lt
        have lb : b < s1.heap.objs.size := q2.lt
        refine call_zip_2 p1.isList q2.isList fun h' hz hTI hTO h1 h2 hsz hk => ?_
        refine ⟨s1, h', a, b, ks, xs, its, its2, H1, rfl, rfl, I1, hk, ?_, PySem.W.ktu_apart s1.heap.objs.size a b la lb, ⟨hz, hTI, ⟨_, _, hTO⟩, h1, h2, p1.isList.at fun o e => hk _ o e, q2.isList.at fun o e => hk _ o e⟩, rv, rv2, hlen, z2, q⟩
        exact Heap.lt_size hz
  refine Call_ (ld_blt I hg hm boot_dict (callWith_type1 (args_cons (thn hr fun x s' ⟨s1, h', a, b, ks, xs, us, vs, H1, ex, es, I1, hk, hsz, D, ok, rv, rv2, hlen, z2, q⟩ => args_nil ?_) na) na))
  subst ex
  subst es
  obtain ⟨kv, kl, ul, vl, have'⟩ := zip_kv (P := X.prog) (w := X.w) rv rv2 hlen
  have I2 : Inv X pins σ H1 { s1 with heap := h' } := I1.kept (t' := s1.toks) hk
  have hn : min us.toArray.size vs.toArray.size = ks.length := by rw [List.size_toArray, List.size_toArray, ul, vl, Nat.min_self]
  refine PySem.call_dict_pairs (knd := mixKind X.prog X.w) (kvs := ks.zip vs) (PySem.PairArg.zip _ _ _ _ _ a b D us.toArray vs.toArray) (I2.ok.hd hc) ok ⟨by rw [hn]; exact kl, fun i key v ⟨e1, e2⟩ => have' i key v (by simpa using e1) (by simpa using e2)⟩ (by rw [hn, hlen]; exact z2) fun h'' tk hd' keep => ?_
  have hle : s1.heap.objs.size ≤ h'.objs.size := by omega
  have hm' : (h'.objs.size == sysModules) = false := beq_eq_false_iff_ne.mpr (Nat.ne_of_gt I2.big)
  have hlen' : (mergeK [] (ks.zip xs)).length ≤ sizeLine := by
    refine Nat.le_trans (length_mergeK _ []) ?_
    rw [List.length_nil, Nat.zero_add, List.length_zip]
    exact Nat.le_trans (Nat.min_le_right _ _) z2
  refine ⟨.ref h'.objs.size, upd H1 h'.objs.size (.dK (mergeK [] (ks.zip xs))), I1.laid (t' := tk) (fun c o e => keep c o (fun hw => ?_) (hk c o e)) hle (show ObjOk X.prog X.w _ _ _ (.dK (mergeK [] (ks.zip xs))) from ⟨hlen', hm', merged [] (ks.zip vs), KV.merge kv .nil, hd'⟩), rfl, q _ (I1.hok.fresh hle)⟩
  have lt := Heap.lt_size e
  simp only [List.mem_cons, List.not_mem_nil, or_false] at hw
  rcases hw with z | z | z | z
  · exact absurd lt (Nat.not_lt_of_le (by rw [z]; exact Nat.le_add_right _ _))
  · exact absurd lt (Nat.not_lt_of_le (by rw [z]; exact Nat.le_add_right _ _))
  · exact absurd lt (Nat.not_lt_of_le (by rw [z]; exact Nat.le_refl _))
  · exact absurd lt (Nat.not_lt_of_le (by rw [z]; exact Nat.le_add_right _ _))
end L2
/-! Rounds told: pairs of an order and of who begins next. -/
namespace GL
open PySem PySem.Spec PyProof.Rows L2
theorem upd_of {H : Hp} {p : Addr} {o : HO} (h : H p = none) : upd H p o p = some o := upd_same
def RoundsAt (H : Hp) (l : Addr) (rs : List (List Str × Str)) : Prop := ∃ ps : List Addr, H l = some (.lst (ps.map V.ref)) ∧ Paired (fun (p : Addr) (x : List Str × Str) => ∃ o, H p = some (.tup [.ref o, .str x.2]) ∧ H o = some (.tup (x.1.map V.str))) ps rs
theorem RoundsAt.same {H H' : Hp} {l : Addr} {rs : List (List Str × Str)} (h : RoundsAt H l rs) (s : Same H H') : RoundsAt H' l rs := by
  obtain ⟨ps, a, b⟩ := h
  exact ⟨ps, s _ _ a, Paired.mapF (fun p x ⟨o, c, d⟩ => ⟨o, s _ _ c, s _ _ d⟩) b⟩
theorem RoundsAt.mod {H H' : Hp} {l S C : Addr} {rs : List (List Str × Str)} (h : RoundsAt H l rs) (s : Mod S C H H') (st : StOk H S C) (n1 : l ≠ S) (n2 : l ≠ C) : RoundsAt H' l rs := by
  obtain ⟨ps, a, b⟩ := h
  exact ⟨ps, s _ _ a n1 n2, Paired.mapF (fun p x ⟨o, c, d⟩ => ⟨o, s.other st c (fun _ z => nomatch z), s.other st d (fun _ z => nomatch z)⟩) b⟩
def rdD (x : List Str × Str) : PyData := .tuple [.tuple (x.1.map PyData.str), .str x.2]
theorem dp_rounds_all {K : PySem.W.Frag} {H : Hp} : ∀ {ps : List Addr} {rs : List (List Str × Str)}, Paired (fun (p : Addr) (x : List Str × Str) => ∃ o, H p = some (.tup [.ref o, .str x.2]) ∧ H o = some (.tup (x.1.map V.str))) ps rs → DpAll K H (ps.map V.ref) (rs.map rdD)
  | _, _, .nil => .nil
  | _, _, .cons ⟨o, a, b⟩ r => .cons (.tup (SqT.of a) (.cons (dp_tup b) (.cons (.str _) .nil))) (dp_rounds_all r)
theorem dp_rounds {K : PySem.W.Frag} {H : Hp} {l : Addr} {rs : List (List Str × Str)} (h : RoundsAt H l rs) : Dp K H (.ref l) (.list (rs.map rdD)) := by
  obtain ⟨ps, a, b⟩ := h
  exact .lst (SqL.of a) (dp_rounds_all b)
theorem rdD_self (x : List Str × Str) : PyData.eqv (rdD x) (rdD x) = true := by
  unfold rdD
  rw [PyData.eqv, PyData.eqvAll, eqv_tups, PyData.eqvAll, PyData.eqvAll]
  simp [PyData.eqv]
theorem rounds_self : ∀ rs : List (List Str × Str), PyData.eqvAll (rs.map rdD) (rs.map rdD) = true
  | [] => by simp [PyData.eqvAll]
  | x :: r => by rw [List.map_cons, PyData.eqvAll, rdD_self, rounds_self r]; rfl
theorem rounds_eqv (rs : List (List Str × Str)) : PyData.eqv (.list (rs.map rdD)) (.list (rs.map rdD)) = true := by rw [PyData.eqv, rounds_self]
def OkR (x : List Str × Str) : Prop := (∀ y ∈ x.1, PyData.strOk y = true) ∧ PyData.strOk x.2 = true
theorem rdD_can {x : List Str × Str} (h : OkR x) : PyData.canLay0 (rdD x) = true := by
  have a := can_strs x.1 h.1
  unfold rdD
  simp [PyData.canLay0, PyData.canLayAll0, a, h.2]
theorem rounds_can : ∀ rs : List (List Str × Str), (∀ x ∈ rs, OkR x) → PyData.canLayAll0 (rs.map rdD) = true
  | [], _ => by simp [PyData.canLayAll0]
  | x :: r, h => by rw [List.map_cons, PyData.canLayAll0, rdD_can (h x List.mem_cons_self), rounds_can r fun y hy => h y (List.mem_cons_of_mem _ hy)]; rfl
theorem rdD_depth (x : List Str × Str) : PyData.depth (rdD x) ≤ 3 := by
  have a := depth_strs x.1
  unfold rdD
  simp [PyData.depth, PyData.depthAll, a]
theorem rounds_depth : ∀ rs : List (List Str × Str), PyData.depthAll (rs.map rdD) ≤ 3
  | [] => by simp [PyData.depthAll]
  | x :: r => by
    have a := rdD_depth x
    have b := rounds_depth r
    rw [List.map_cons, PyData.depthAll]
    exact Nat.max_le.mpr ⟨a, b⟩
theorem rounds_shaped {rs : List (List Str × Str)} (h : ∀ x ∈ rs, OkR x) : SeqAt.shaped (.list (rs.map rdD)) = true := by
  have a := rounds_can rs h
  have b := rounds_depth rs
  unfold SeqAt.shaped
  rw [Bool.and_eq_true, decide_eq_true_eq]
  refine ⟨by rw [PyData.canLay0]; exact a, ?_⟩
  rw [PyData.depth]
  omega
theorem iteM {d e : PyData} {A B : Prop} (h : PyData.eqv d e = true) (b : B) : if (!PyData.eqv d e) = true then A else B := by
  rw [h]
  exact iteF b
def roundsOf (ns : List Str) (sl : Str → Int) (names : List Str) : List (List Str × Str) := names.map fun b => (orderOf ns sl b, nextOf ns sl b)
theorem rounds_ok {ns names : List Str} {sl : Str → Int} (g : GoodNs ns) (h : ∀ b ∈ names, b ∈ ns) : ∀ x ∈ roundsOf ns sl names, OkR x := by
  intro x hx
  obtain ⟨b, hb, rfl⟩ := List.mem_map.mp hx
  exact ⟨g.ostr (h b hb), g.str _ (next_mem (h b hb))⟩
/-! ### promises -/
def spMult : Sp := fun vs H Q _ => ∃ n : Int, vs = [.int n] ∧ 2 ≤ n ∧ n ≤ 12 ∧ ∀ M : Int, (∀ k : Nat, 1 ≤ k → (k : Int) ≤ n → (k : Int) ∣ M) → Q (.int M) H
def spRounds (aR : Addr) : Sp := fun vs H Q _ => ∃ (p a : Addr) (ns names : List Str) (sl : Str → Int), vs = [.ref p, .ref a] ∧ RingAt aR H p ns sl ∧ H a = some (.lst (names.map V.str)) ∧ names.length ≤ 12 ∧ (∀ b ∈ names, b ∈ ns) ∧ ∀ H' l, Same H H' → H l = none → RoundsAt H' l (roundsOf ns sl names) → Q (.ref l) H'
def FreshAt (H : Hp) (d : Addr) (ns : List Str) (f : Str → Str) : Prop := ∃ kvs : List (Key × V), H d = some (.dK kvs) ∧ ∀ n ∈ ns, valV kvs (Sum.inr n : Key) = some (.str (f n))
theorem FreshAt.same {H H' : Hp} {d : Addr} {ns : List Str} {f : Str → Str} (h : FreshAt H d ns f) (s : Same H H') : FreshAt H' d ns f := by
  obtain ⟨kvs, a, b⟩ := h
  exact ⟨kvs, s _ _ a, b⟩
theorem FreshAt.mod {H H' : Hp} {d S C : Addr} {ns : List Str} {f : Str → Str} (h : FreshAt H d ns f) (s : Mod S C H H') (st : StOk H S C) : FreshAt H' d ns f := by
  obtain ⟨kvs, a, b⟩ := h
  exact ⟨kvs, s.other st a (fun _ z => nomatch z), b⟩
def spRenamed : Sp := fun vs H Q _ => ∃ (l d : Addr) (rs : List (List Str × Str)) (ns : List Str) (f : Str → Str), vs = [.ref l, .ref d] ∧ RoundsAt H l rs ∧ rs.length ≤ 12 ∧ FreshAt H d ns f ∧ (∀ x ∈ rs, x.1.length ≤ 12 ∧ (∀ y ∈ x.1, y ∈ ns) ∧ x.2 ∈ ns) ∧
  ∀ H' l', Same H H' → H l' = none → RoundsAt H' l' (rs.map fun x => (x.1.map f, f x.2)) → Q (.ref l') H'
def spMirror (aR : Addr) : Sp := fun vs H Q _ => ∃ (p a : Addr) (ns : List Str) (sl : Str → Int) (b : Str), vs = [.ref p, .ref a, .str b] ∧ RingAt aR H p ns sl ∧ H a = some (.lst (ns.map V.str)) ∧ GoodNs ns ∧ b ∈ ns ∧ ∀ H', Same H H' → Q (.bl true) H'
end GL
namespace L2
open PySem PySem.Spec PyProof.Rows
def rTupOf (K : PySem.W.Frag) : List V → Hp → VK → Prop := fun xs H Q => ∃ p ys, xs = [.ref p] ∧ ((SqL K H p ys ∧ ∀ l, H l = none → Q (.ref l) (upd H l (.tup ys))) ∨ (SqT K H p ys ∧ Q (.ref p) H))
theorem call_tupOf {X : Cx} : CallR X (.type "tuple") (rTupOf X.K) := call_tuple_of
end L2
namespace GL
open PySem PySem.Spec PyProof.Rows L2
theorem SlipsAt.perm {H : Hp} {d : Addr} {ns ms : List Str} {sl : Str → Int} (h : SlipsAt H d ns sl) (p : ms.Perm ns) : SlipsAt H d ms sl := by
  obtain ⟨kvs, a, b, c, e⟩ := h
  exact ⟨kvs, a, by rw [b, p.length_eq], c, fun n hn => e n (p.mem_iff.mp hn)⟩
theorem GoodNs.perm {ns ms : List Str} (h : GoodNs ns) (p : ms.Perm ns) : GoodNs ms :=
  ⟨by rw [p.length_eq]; exact h.two, by rw [p.length_eq]; exact h.twelve, p.nodup_iff.mpr h.nd, fun y hy => h.ok y (p.mem_iff.mp hy)⟩
/-- a row of pairs name, number -/
def slRow (sl : Str → Int) (ys : List Str) : List (Key × V) := ys.map fun y => (Sum.inr y, V.int (sl y))
theorem slRow_keys (sl : Str → Int) (ys : List Str) : (slRow sl ys).map (·.1) = ys.map Sum.inr := by
  unfold slRow
  rw [List.map_map]
  rfl
theorem slRow_nd {sl : Str → Int} {ys : List Str} (h : ys.Nodup) : ((slRow sl ys).map (·.1)).Nodup := by
  rw [slRow_keys]
  exact nodup_map (fun a b e => Sum.inr.inj e) h
theorem slRow_val {sl : Str → Int} : ∀ {ys : List Str}, ∀ y ∈ ys, valV (slRow sl ys) (Sum.inr y : Key) = some (.int (sl y))
  | z :: r, y, hy => by
    unfold slRow valV
    rw [List.map_cons, List.find?_cons]
    by_cases e : z = y
    · subst e
      simp
    · have hy' : y ∈ r := (List.mem_cons.mp hy).resolve_left fun e' => e e'.symm
      have ne : ¬ (Sum.inr z : Key) = Sum.inr y := fun e' => e (Sum.inr.inj e')
      rw [show decide ((Sum.inr z : Key) = Sum.inr y) = false from decide_eq_false ne]
      exact slRow_val y hy'
theorem slRow_at {H : Hp} {d : Addr} {sl : Str → Int} {ys ns : List Str} (hd : H d = some (.dK (mergeK [] (slRow sl ys)))) (hn : ys.Nodup) (p : ys.Perm ns) : SlipsAt H d ns sl := by
  refine ⟨slRow sl ys, ?_, ?_, slRow_nd hn, fun n hm => slRow_val n (p.mem_iff.mpr hm)⟩
  · rw [hd, merge_new (slRow sl ys) [] (by rw [List.nil_append]; exact slRow_nd hn), List.nil_append]
  · unfold slRow
    rw [List.length_map, p.length_eq]
end GL
namespace K13
open PySem PySem.Spec PyProof.Rows L2
def topS (i : Nat) : Stmt := PySem.Challenge.pw_goersay_k13_whole_rings_turned.main.body.getD i (.Pass ⟨0, 0, 0, 0⟩)
abbrev s_is_number : Stmt := topS 8
abbrev N_is_number : List Str := ["thing"]
abbrev P_is_number : List Str := ["thing"]
theorem sc_is_number : FnScope N_is_number P_is_number (defScope s_is_number) := ⟨rfl, rfl, rfl, by decide +kernel, rfl, by decide +kernel, by decide +kernel⟩
abbrev s_is_name : Stmt := topS 9
abbrev N_is_name : List Str := ["thing", "sign"]
abbrev P_is_name : List Str := ["thing"]
theorem sc_is_name : FnScope N_is_name P_is_name (defScope s_is_name) := ⟨rfl, rfl, rfl, by decide +kernel, rfl, by decide +kernel, by decide +kernel⟩
abbrev s_is_names : Stmt := topS 13
abbrev N_is_names : List Str := ["thing", "name"]
abbrev P_is_names : List Str := ["thing"]
theorem sc_is_names : FnScope N_is_names P_is_names (defScope s_is_names) := ⟨rfl, rfl, rfl, by decide +kernel, rfl, by decide +kernel, by decide +kernel⟩
abbrev s_check_names : Stmt := topS 14
abbrev N_check_names : List Str := ["thing"]
abbrev P_check_names : List Str := ["thing"]
theorem sc_check_names : FnScope N_check_names P_check_names (defScope s_check_names) := ⟨rfl, rfl, rfl, by decide +kernel, rfl, by decide +kernel, by decide +kernel⟩
abbrev s_check_name : Stmt := topS 15
abbrev N_check_name : List Str := ["names", "thing"]
abbrev P_check_name : List Str := ["names", "thing"]
theorem sc_check_name : FnScope N_check_name P_check_name (defScope s_check_name) := ⟨rfl, rfl, rfl, by decide +kernel, rfl, by decide +kernel, by decide +kernel⟩
abbrev s_is_slips : Stmt := topS 16
abbrev N_is_slips : List Str := ["names", "thing", "name"]
abbrev P_is_slips : List Str := ["names", "thing"]
theorem sc_is_slips : FnScope N_is_slips P_is_slips (defScope s_is_slips) := ⟨rfl, rfl, rfl, by decide +kernel, rfl, by decide +kernel, by decide +kernel⟩
abbrev s_listed_behind : Stmt := topS 17
abbrev N_listed_behind : List Str := ["names", "name", "seat"]
abbrev P_listed_behind : List Str := ["names", "name"]
theorem sc_listed_behind : FnScope N_listed_behind P_listed_behind (defScope s_listed_behind) := ⟨rfl, rfl, rfl, by decide +kernel, rfl, by decide +kernel, by decide +kernel⟩
abbrev s_who_sit : Stmt := topS 18
abbrev N_who_sit : List Str := ["names", "goers", "name"]
abbrev P_who_sit : List Str := ["names", "goers"]
theorem sc_who_sit : FnScope N_who_sit P_who_sit (defScope s_who_sit) := ⟨rfl, rfl, rfl, by decide +kernel, rfl, by decide +kernel, by decide +kernel⟩
abbrev s_l_state : Stmt := topS 21
abbrev N_l_state : List Str := ["_law_script", "_law_cells", "_law_cell"]
abbrev P_l_state : List Str := ["_law_script"]
theorem sc_l_state : FnScope N_l_state P_l_state (defScope s_l_state) := ⟨rfl, rfl, rfl, by decide +kernel, rfl, by decide +kernel, by decide +kernel⟩
abbrev s_l_draw : Stmt := topS 22
abbrev N_l_draw : List Str := ["_law_state_here", "_law_size_most", "_law_at", "_law_cell"]
abbrev P_l_draw : List Str := ["_law_state_here", "_law_size_most"]
theorem sc_l_draw : FnScope N_l_draw P_l_draw (defScope s_l_draw) := ⟨rfl, rfl, rfl, by decide +kernel, rfl, by decide +kernel, by decide +kernel⟩
abbrev s_l_pick : Stmt := topS 23
abbrev N_l_pick : List Str := ["_law_state_here", "_law_some"]
abbrev P_l_pick : List Str := ["_law_state_here", "_law_some"]
theorem sc_l_pick : FnScope N_l_pick P_l_pick (defScope s_l_pick) := ⟨rfl, rfl, rfl, by decide +kernel, rfl, by decide +kernel, by decide +kernel⟩
abbrev s_l_mixed : Stmt := topS 24
abbrev N_l_mixed : List Str := ["_law_state_here", "_law_some", "_law_left", "_law_found"]
abbrev P_l_mixed : List Str := ["_law_state_here", "_law_some"]
theorem sc_l_mixed : FnScope N_l_mixed P_l_mixed (defScope s_l_mixed) := ⟨rfl, rfl, rfl, by decide +kernel, rfl, by decide +kernel, by decide +kernel⟩
abbrev s_l_names : Stmt := topS 25
abbrev N_l_names : List Str := ["_law_state_here", "_law_size", "_law_found", "_law_letters", "_law_k", "_law_word", "_law_some", "_law_sign", "_law_one"]
abbrev P_l_names : List Str := ["_law_state_here", "_law_size"]
theorem sc_l_names : FnScope N_l_names P_l_names (defScope s_l_names) := ⟨rfl, rfl, rfl, by decide +kernel, rfl, by decide +kernel, by decide +kernel⟩
abbrev s_l_slip : Stmt := topS 26
abbrev N_l_slip : List Str := ["_law_state_here", "_law_way", "_law_small", "_law_great"]
abbrev P_l_slip : List Str := ["_law_state_here"]
theorem sc_l_slip : FnScope N_l_slip P_l_slip (defScope s_l_slip) := ⟨rfl, rfl, rfl, by decide +kernel, rfl, by decide +kernel, by decide +kernel⟩
abbrev s_l_slips : Stmt := topS 27
abbrev N_l_slips : List Str := ["_law_state_here", "_law_names_here", "_law_name"]
abbrev P_l_slips : List Str := ["_law_state_here", "_law_names_here"]
theorem sc_l_slips : FnScope N_l_slips P_l_slips (defScope s_l_slips) := ⟨rfl, rfl, rfl, by decide +kernel, rfl, by decide +kernel, by decide +kernel⟩
abbrev s_l_multiple : Stmt := topS 28
abbrev N_l_multiple : List Str := ["_law_size", "_law_found", "_law_number", "_law_much"]
abbrev P_l_multiple : List Str := ["_law_size"]
theorem sc_l_multiple : FnScope N_l_multiple P_l_multiple (defScope s_l_multiple) := ⟨rfl, rfl, rfl, by decide +kernel, rfl, by decide +kernel, by decide +kernel⟩
abbrev s_l_rounds : Stmt := topS 29
abbrev N_l_rounds : List Str := ["_law_ring", "_law_names_here", "_law_name"]
abbrev P_l_rounds : List Str := ["_law_ring", "_law_names_here"]
theorem sc_l_rounds : FnScope N_l_rounds P_l_rounds (defScope s_l_rounds) := ⟨rfl, rfl, rfl, by decide +kernel, rfl, by decide +kernel, by decide +kernel⟩
abbrev s_l_renamed : Stmt := topS 30
abbrev N_l_renamed : List Str := ["_law_rounds_here", "_law_fresh", "_law_order", "_law_later", "_law_name"]
abbrev P_l_renamed : List Str := ["_law_rounds_here", "_law_fresh"]
theorem sc_l_renamed : FnScope N_l_renamed P_l_renamed (defScope s_l_renamed) := ⟨rfl, rfl, rfl, by decide +kernel, rfl, by decide +kernel, by decide +kernel⟩
abbrev s_l_mirrored_right : Stmt := topS 31
abbrev N_l_mirrored_right : List Str := ["_law_ring", "_law_names_here", "_law_begin", "_law_order", "_law_places", "_law_other", "_law_name"]
abbrev P_l_mirrored_right : List Str := ["_law_ring", "_law_names_here", "_law_begin"]
theorem sc_l_mirrored_right : FnScope N_l_mirrored_right P_l_mirrored_right (defScope s_l_mirrored_right) := ⟨rfl, rfl, rfl, by decide +kernel, rfl, by decide +kernel, by decide +kernel⟩
abbrev s_law : Stmt := topS 32
abbrev N_law : List Str := ["_law_script", "_law_state_here", "_law_turn", "_law_size", "_law_names_here", "_law_slips_here", "_law_at", "_law_ring", "_law_rounds_here", "_law_fresh", "_law_other", "_law_more", "_law_name"]
abbrev P_law : List Str := ["_law_script"]
theorem sc_law : FnScope N_law P_law (defScope s_law) := ⟨rfl, rfl, rfl, by decide +kernel, rfl, by decide +kernel, by decide +kernel⟩
abbrev s_Ring_init : Stmt := inClass (topS 19) 0
abbrev N_Ring_init : List Str := ["self", "names", "slips", "name"]
abbrev P_Ring_init : List Str := ["self", "names", "slips"]
theorem sc_Ring_init : FnScope N_Ring_init P_Ring_init (defScope s_Ring_init) := ⟨rfl, rfl, rfl, by decide +kernel, rfl, by decide +kernel, by decide +kernel⟩
abbrev s_Ring_slip : Stmt := inClass (topS 19) 3
abbrev N_Ring_slip : List Str := ["self", "name"]
abbrev P_Ring_slip : List Str := ["self", "name"]
theorem sc_Ring_slip : FnScope N_Ring_slip P_Ring_slip (defScope s_Ring_slip) := ⟨rfl, rfl, rfl, by decide +kernel, rfl, by decide +kernel, by decide +kernel⟩
abbrev s_Ring_order : Stmt := inClass (topS 19) 4
abbrev N_Ring_order : List Str := ["self", "begin", "goers"]
abbrev P_Ring_order : List Str := ["self", "begin"]
theorem sc_Ring_order : FnScope N_Ring_order P_Ring_order (defScope s_Ring_order) := ⟨rfl, rfl, rfl, by decide +kernel, rfl, by decide +kernel, by decide +kernel⟩
abbrev s_Ring_next_of : Stmt := inClass (topS 19) 5
abbrev N_Ring_next_of : List Str := ["self", "begin", "last"]
abbrev P_Ring_next_of : List Str := ["self", "begin"]
theorem sc_Ring_next_of : FnScope N_Ring_next_of P_Ring_next_of (defScope s_Ring_next_of) := ⟨rfl, rfl, rfl, by decide +kernel, rfl, by decide +kernel, by decide +kernel⟩
abbrev s_Ring_counted_on : Stmt := inClass (topS 19) 9
abbrev N_Ring_counted_on : List Str := ["self", "goer", "row"]
abbrev P_Ring_counted_on : List Str := ["self", "goer", "row"]
theorem sc_Ring_counted_on : FnScope N_Ring_counted_on P_Ring_counted_on (defScope s_Ring_counted_on) := ⟨rfl, rfl, rfl, by decide +kernel, rfl, by decide +kernel, by decide +kernel⟩
/-- what the top has written -/
structure Tx (K : PySem.W.Frag) (mg : Str → Option Value) where
  a_Ring : Addr
  cl_Ring : Cls K a_Ring
  g_Ring : mg "Ring" = some (.ref a_Ring)
  n_Ring__names : NoAttr K a_Ring "_names"
  n_Ring__slips : NoAttr K a_Ring "_slips"
  a_is_number : Addr
  fd_is_number : FuncData
  F_is_number : Fun K "is_number" "is_number" s_is_number a_is_number fd_is_number
  b_is_number : Binds K fd_is_number P_is_number []
  g_is_number : mg "is_number" = some (.ref a_is_number)
  a_is_name : Addr
  fd_is_name : FuncData
  F_is_name : Fun K "is_name" "is_name" s_is_name a_is_name fd_is_name
  b_is_name : Binds K fd_is_name P_is_name []
  g_is_name : mg "is_name" = some (.ref a_is_name)
  a_is_names : Addr
  fd_is_names : FuncData
  F_is_names : Fun K "is_names" "is_names" s_is_names a_is_names fd_is_names
  b_is_names : Binds K fd_is_names P_is_names []
  g_is_names : mg "is_names" = some (.ref a_is_names)
  a_check_names : Addr
  fd_check_names : FuncData
  F_check_names : Fun K "check_names" "check_names" s_check_names a_check_names fd_check_names
  b_check_names : Binds K fd_check_names P_check_names []
  g_check_names : mg "check_names" = some (.ref a_check_names)
  a_check_name : Addr
  fd_check_name : FuncData
  F_check_name : Fun K "check_name" "check_name" s_check_name a_check_name fd_check_name
  b_check_name : Binds K fd_check_name P_check_name []
  g_check_name : mg "check_name" = some (.ref a_check_name)
  a_is_slips : Addr
  fd_is_slips : FuncData
  F_is_slips : Fun K "is_slips" "is_slips" s_is_slips a_is_slips fd_is_slips
  b_is_slips : Binds K fd_is_slips P_is_slips []
  g_is_slips : mg "is_slips" = some (.ref a_is_slips)
  a_listed_behind : Addr
  fd_listed_behind : FuncData
  F_listed_behind : Fun K "listed_behind" "listed_behind" s_listed_behind a_listed_behind fd_listed_behind
  b_listed_behind : Binds K fd_listed_behind P_listed_behind []
  g_listed_behind : mg "listed_behind" = some (.ref a_listed_behind)
  a_who_sit : Addr
  fd_who_sit : FuncData
  F_who_sit : Fun K "who_sit" "who_sit" s_who_sit a_who_sit fd_who_sit
  b_who_sit : Binds K fd_who_sit P_who_sit []
  g_who_sit : mg "who_sit" = some (.ref a_who_sit)
  a_l_state : Addr
  fd_l_state : FuncData
  F_l_state : Fun K "_law_state" "_law_state" s_l_state a_l_state fd_l_state
  b_l_state : Binds K fd_l_state P_l_state []
  g_l_state : mg "_law_state" = some (.ref a_l_state)
  a_l_draw : Addr
  fd_l_draw : FuncData
  F_l_draw : Fun K "_law_draw" "_law_draw" s_l_draw a_l_draw fd_l_draw
  b_l_draw : Binds K fd_l_draw P_l_draw []
  g_l_draw : mg "_law_draw" = some (.ref a_l_draw)
  a_l_pick : Addr
  fd_l_pick : FuncData
  F_l_pick : Fun K "_law_pick" "_law_pick" s_l_pick a_l_pick fd_l_pick
  b_l_pick : Binds K fd_l_pick P_l_pick []
  g_l_pick : mg "_law_pick" = some (.ref a_l_pick)
  a_l_mixed : Addr
  fd_l_mixed : FuncData
  F_l_mixed : Fun K "_law_mixed" "_law_mixed" s_l_mixed a_l_mixed fd_l_mixed
  b_l_mixed : Binds K fd_l_mixed P_l_mixed []
  g_l_mixed : mg "_law_mixed" = some (.ref a_l_mixed)
  a_l_names : Addr
  fd_l_names : FuncData
  F_l_names : Fun K "_law_names" "_law_names" s_l_names a_l_names fd_l_names
  b_l_names : Binds K fd_l_names P_l_names []
  g_l_names : mg "_law_names" = some (.ref a_l_names)
  a_l_slip : Addr
  fd_l_slip : FuncData
  F_l_slip : Fun K "_law_slip" "_law_slip" s_l_slip a_l_slip fd_l_slip
  b_l_slip : Binds K fd_l_slip P_l_slip []
  g_l_slip : mg "_law_slip" = some (.ref a_l_slip)
  a_l_slips : Addr
  fd_l_slips : FuncData
  F_l_slips : Fun K "_law_slips" "_law_slips" s_l_slips a_l_slips fd_l_slips
  b_l_slips : Binds K fd_l_slips P_l_slips []
  g_l_slips : mg "_law_slips" = some (.ref a_l_slips)
  a_l_multiple : Addr
  fd_l_multiple : FuncData
  F_l_multiple : Fun K "_law_multiple" "_law_multiple" s_l_multiple a_l_multiple fd_l_multiple
  b_l_multiple : Binds K fd_l_multiple P_l_multiple []
  g_l_multiple : mg "_law_multiple" = some (.ref a_l_multiple)
  a_l_rounds : Addr
  fd_l_rounds : FuncData
  F_l_rounds : Fun K "_law_rounds" "_law_rounds" s_l_rounds a_l_rounds fd_l_rounds
  b_l_rounds : Binds K fd_l_rounds P_l_rounds []
  g_l_rounds : mg "_law_rounds" = some (.ref a_l_rounds)
  a_l_renamed : Addr
  fd_l_renamed : FuncData
  F_l_renamed : Fun K "_law_renamed" "_law_renamed" s_l_renamed a_l_renamed fd_l_renamed
  b_l_renamed : Binds K fd_l_renamed P_l_renamed []
  g_l_renamed : mg "_law_renamed" = some (.ref a_l_renamed)
  a_l_mirrored_right : Addr
  fd_l_mirrored_right : FuncData
  F_l_mirrored_right : Fun K "_law_mirrored_right" "_law_mirrored_right" s_l_mirrored_right a_l_mirrored_right fd_l_mirrored_right
  b_l_mirrored_right : Binds K fd_l_mirrored_right P_l_mirrored_right []
  g_l_mirrored_right : mg "_law_mirrored_right" = some (.ref a_l_mirrored_right)
  a_law : Addr
  fd_law : FuncData
  F_law : Fun K "law" "law" s_law a_law fd_law
  b_law : Binds K fd_law P_law []
  g_law : mg "law" = some (.ref a_law)
  a_Ring_init : Addr
  fd_Ring_init : FuncData
  F_Ring_init : Fun K "__init__" "Ring.__init__" s_Ring_init a_Ring_init fd_Ring_init
  b_Ring_init : Binds K fd_Ring_init P_Ring_init []
  M_Ring : Mk K a_Ring a_Ring_init
  a_Ring_slip : Addr
  fd_Ring_slip : FuncData
  F_Ring_slip : Fun K "slip" "Ring.slip" s_Ring_slip a_Ring_slip fd_Ring_slip
  b_Ring_slip : Binds K fd_Ring_slip P_Ring_slip []
  mt_Ring_slip : Meth K a_Ring "slip" a_Ring_slip
  a_Ring_order : Addr
  fd_Ring_order : FuncData
  F_Ring_order : Fun K "order" "Ring.order" s_Ring_order a_Ring_order fd_Ring_order
  b_Ring_order : Binds K fd_Ring_order P_Ring_order []
  mt_Ring_order : Meth K a_Ring "order" a_Ring_order
  a_Ring_next_of : Addr
  fd_Ring_next_of : FuncData
  F_Ring_next_of : Fun K "next_of" "Ring.next_of" s_Ring_next_of a_Ring_next_of fd_Ring_next_of
  b_Ring_next_of : Binds K fd_Ring_next_of P_Ring_next_of []
  mt_Ring_next_of : Meth K a_Ring "next_of" a_Ring_next_of
  a_Ring_counted_on : Addr
  fd_Ring_counted_on : FuncData
  F_Ring_counted_on : Fun K "_counted_on" "Ring._counted_on" s_Ring_counted_on a_Ring_counted_on fd_Ring_counted_on
  b_Ring_counted_on : Binds K fd_Ring_counted_on P_Ring_counted_on []
  mt_Ring_counted_on : Meth K a_Ring "_counted_on" a_Ring_counted_on
  tk_LETTERS : Tok
  g_LETTERS : mg "LETTERS" = some (.str "abcdefghijklmnopqrstuvwxyz" tk_LETTERS)
  tk_LONGEST_NAME : Tok
  g_LONGEST_NAME : mg "LONGEST_NAME" = some (.int 8 tk_LONGEST_NAME)
  tk_FEWEST : Tok
  g_FEWEST : mg "FEWEST" = some (.int 2 tk_FEWEST)
  tk_MOST : Tok
  g_MOST : mg "MOST" = some (.int 12 tk_MOST)
  m_abs : mg "abs" = none
  m_all : mg "all" = none
  m_bool : mg "bool" = none
  m_dict : mg "dict" = none
  m_int : mg "int" = none
  m_isinstance : mg "isinstance" = none
  m_len : mg "len" = none
  m_list : mg "list" = none
  m_min : mg "min" = none
  m_range : mg "range" = none
  m_set : mg "set" = none
  m_str : mg "str" = none
  m_tuple : mg "tuple" = none
  m_zip : mg "zip" = none
end K13
namespace K13
open PySem PySem.Spec PyProof.Rows L2 GL
section
variable {P : Program} {w : World} {K : PySem.W.Frag} {mg : Str → Option Value} {base : Heap}
theorem ok_l_draw (T : Tx K mg) : FnOk P w K mg base CX0 1 T.a_l_draw T.fd_l_draw P_l_draw spDraw := by
  refine T.F_l_draw.ok sc_l_draw (fun vs H Q E h => ?_) (fun cdv A outer s H vs Q E hr h => ?_)
  · obtain ⟨S, C, n, rfl, _⟩ := h
    rfl
  · obtain ⟨S, C, n, rfl, hn, hn2, hst, q⟩ := h
    have hSC := hst.ne
    obtain ⟨cells, k, m, hS, hC, hc0, hc63, hpos, hk, hm, hm2⟩ := hst
    have hz : (0 : Int) < ((cells.map V.int).length : Int) := by rw [List.length_map]; omega
    have b1 := Int.emod_nonneg k (Int.ne_of_gt hz)
    have b2 := Int.emod_lt_of_pos k hz
    obtain ⟨j, c, ej, hj, _, hcj, hcm⟩ := cell_at (xs := cells) b1 (by rw [List.length_map] at b2 ⊢; exact b2)
    have c0 := hpos c hcm
    refine ⟨_, (pss_cons (ps_set (i := 2) sc_l_draw.nd rfl (.inl rfl) (pe_op op_mod (pe_ix ix_list (pv 0) pe_int (fun _ _ => rfl)) (pe_callB call_len_seq (by rfl) T.m_len (by decide +kernel) (pa_cons (pe_ix ix_list (pv 0) pe_int (fun _ _ => rfl)) pa_nil))))
      (pss_cons (ps_set (i := 3) sc_l_draw.nd rfl (.inl rfl) (pe_ix ix_list (pe_ix ix_list (pv 0) pe_int (fun _ _ => rfl)) (pv 2) (fun _ _ => rfl)))
      (pss_cons (ps_if (pt_cmpR op_ge (pv 3) (pe_op op_pow pe_int pe_int) (nomark _))
       (pss_cons (ps_asg (pe_op op_fdivW (pv 3) (pv 1)) (pg_sub (pe_ix ix_list (pv 0) pe_int (fun _ _ => rfl)) (pv 2) set_list))
        (pss_one (ps_ret (pe_op op_mod (pv 3) (pv 1)))))
       pss_nil)
      (pss_cons (ps_asg (pe_op op_add (pe_ix ix_list (pv 0) pe_int (fun _ _ => rfl)) pe_int) (pg_sub (pv 0) pe_int set_list))
      (pss_cons (ps_asg (pe_op op_mod (pe_op op_add (pe_op op_add (pe_op op_mul (pe_ix ix_list (pv 0) pe_int (fun _ _ => rfl)) pe_int) (pv 3)) pe_int) pe_int) (pg_sub (pv 0) pe_int set_list))
      (pss_one (ps_ret (pe_op op_mod (pe_op op_fdiv (pe_op op_mod (pe_op op_mul (pe_ix ix_list (pv 0) pe_int (fun _ _ => rfl)) (pe_ix ix_list (pv 0) pe_int (fun _ _ => rfl))) pe_int) pe_int) (pv 1))))))))), ?_⟩
    refine ⟨_, rfl, _, _, _, _, rfl, rfl, SqL.of hS, rfl, _, rfl, _, _, _, _, rfl, rfl, SqL.of hS, rfl, C, _, rfl, .inl (SqL.of hC), _, _, rfl, rfl, hz, ?_⟩
    refine ⟨_, rfl, _, _, _, _, rfl, rfl, SqL.of hS, rfl, _, rfl, _, _, _, _, rfl, rfl, SqL.of hC, at_of ej hcj, ?_⟩
    refine ⟨_, rfl, _, _, rfl, rfl, ⟨by decide, by decide, by decide⟩, _, _, rfl, rfl, _, rfl, ite2 (fun hbig => ?_) (fun hsmall => ?_)⟩
    · refine ⟨_, rfl, _, rfl, _, _, rfl, rfl, wide_div hn hn2 (by decide) (by decide), _, rfl, _, _, _, _, rfl, rfl, SqL.of hS, rfl, _, rfl, C, _, _, j, rfl, rfl, hC, ixN_of ej (by rw [List.length_map]; exact hj), ?_⟩
      refine ⟨_, rfl, _, rfl, _, _, rfl, rfl, hn, ?_⟩
      refine q _ _ (fun b o e n1 n2 => by rw [upd_ne n2]; exact e) ⟨cells.set j (c / n), k, m, by rw [upd_ne hSC]; exact hS, by rw [upd_same, List.map_set], by rw [List.length_set]; exact hc0, by rw [List.length_set]; exact hc63, fun x hx => ?_, hk, hm, hm2⟩ (Int.emod_nonneg _ (Int.ne_of_gt hn)) (Int.emod_lt_of_pos _ hn)
      rcases List.mem_or_eq_of_mem_set hx with hx | rfl
      · exact hpos x hx
      · exact Int.ediv_nonneg c0 (Int.le_of_lt hn)
    · refine ⟨_, rfl, _, _, _, _, rfl, rfl, SqL.of hS, rfl, _, _, rfl, rfl, _, rfl, S, _, _, 1, rfl, rfl, hS, rfl, ?_⟩
      refine ⟨_, rfl, _, _, _, _, rfl, rfl, SqL.of upd_same, rfl, _, _, rfl, rfl, .inl (by omega), _, rfl, _, _, rfl, rfl, _, _, rfl, rfl, _, _, rfl, rfl, (by show (0 : Int) < 2147483647; decide), _, rfl, S, _, _, 2, rfl, rfl, upd_same, rfl, ?_⟩
      have n1 := Int.emod_nonneg (m * 48271 + c + 12345) (show (2147483647 : Int) ≠ 0 by decide)
      have n2 := Int.emod_lt_of_pos (m * 48271 + c + 12345) (show (0 : Int) < 2147483647 by decide)
      refine ⟨_, rfl, _, _, _, _, rfl, rfl, SqL.of upd_same, rfl, _, rfl, _, _, _, _, rfl, rfl, SqL.of upd_same, rfl, _, _, rfl, rfl, .inl (by omega), _, _, rfl, rfl, (by show (0 : Int) < 2147483629; decide), _, _, rfl, rfl, ⟨by decide, by decide⟩, _, rfl, _, _, rfl, rfl, hn, ?_⟩
      refine q _ _ (fun b o e n1 n2 => by rw [upd_ne n1, upd_ne n1]; exact e) ⟨cells, k + 1, _, upd_same, by rw [upd_ne hSC.symm, upd_ne hSC.symm]; exact hC, hc0, hc63, hpos, by omega, n1, n2⟩ (Int.emod_nonneg _ (Int.ne_of_gt hn)) (Int.emod_lt_of_pos _ hn)
theorem ok_l_pick (T : Tx K mg) : FnOk P w K mg base CX0 2 T.a_l_pick T.fd_l_pick P_l_pick spPick := by
  refine T.F_l_pick.ok sc_l_pick (fun vs H Q E h => ?_) (fun cdv A outer s H vs Q E hr h => ?_)
  · obtain ⟨S, C, n, rfl, _⟩ := h
    rfl
  · obtain ⟨S, C, x, rfl, hst, h⟩ := h
    refine ⟨_, (pss_one (ps_ret (pe_ix ix_seq (pv 1) (pe_call (ok_l_draw T) (hr.mono (by decide)) (by rfl) T.g_l_draw T.F_l_draw.kp T.b_l_draw .nil pass0 (pa_cons (pv 0) (pa_cons (pe_callB call_len (by rfl) T.m_len (by decide +kernel) (pa_cons (pv 1) pa_nil)) pa_nil))) (fun _ _ => rfl)))), ?_⟩
    rcases h with ⟨a, xs, rfl, na, nc, ha, h0, hl, q⟩ | ⟨z, rfl, h0, hl, q⟩
    · refine ⟨_, rfl, _, rfl, _, rfl, _, xs.length, rfl, .inl ⟨xs, SqL.of ha, rfl⟩, S, C, _, rfl, by omega, small_nat (by omega), hst, fun H' d m st d0 d1 => ?_⟩
      obtain ⟨j, v, ej, hj, hv⟩ := at_some d0 d1
      exact .inl ⟨a, xs, d, v, rfl, rfl, SqL.of (m _ _ ha na nc), atI_at ej hj, q _ _ m st hv⟩
    · have hz : z.cps.toList.length = z.length := Array.length_toList
      refine ⟨_, rfl, _, rfl, _, rfl, _, z.length, rfl, ⟨Nat.le_trans hl (by decide), rfl⟩, S, C, _, rfl, by omega, small_nat (by omega), hst, fun H' d m st d0 d1 => ?_⟩
      obtain ⟨j, v, ej, hj, hv⟩ := at_some (xs := z.cps.toList) d0 (by omega)
      exact .inr (.inr ⟨z, d, v, rfl, rfl, Nat.le_trans hl (by decide), atI_at ej hj, q _ _ m st hv⟩)
def WMixed (S C a l f : Addr) (ns : List Str) (H : Hp) (m : Nat) (σ : L2.St) (H1 : Hp) : Prop := ∃ ls fs : List Str, m = ls.length ∧ σ = [some (.ref S), some (.ref a), some (.ref l), some (.ref f)] ∧ Mod S C H H1 ∧ StOk H1 S C ∧
  H1 l = some (.lst (ls.map V.str)) ∧ H1 f = some (.lst (fs.map V.str)) ∧ (fs ++ ls).Perm ns
theorem ok_l_mixed (T : Tx K mg) : FnOk P w K mg base CX0 2 T.a_l_mixed T.fd_l_mixed P_l_mixed spMixed := by
  refine T.F_l_mixed.ok sc_l_mixed (fun vs H Q E h => ?_) (fun cdv A outer s H vs Q E hr h => ?_)
  · obtain ⟨S, C, a, n, rfl, _⟩ := h
    rfl
  · obtain ⟨S, C, a, ns, rfl, hst, ha, hl, hok, q⟩ := h
    refine ⟨_, (pss_cons (ps_par (i := 2) (j := 3) (by rfl) sc_l_mixed.nd rfl rfl (by decide) rfl rfl (pa_cons (pe_callTy call_list_of (by rfl) T.m_list (by decide +kernel) (pa_cons (pv 1) pa_nil)) (pa_cons (pe_lst pa_nil) pa_nil)) (by rfl))
      (pss_cons (ps_while PassesOwn.never (pt_cmpR (op_neD hr.units) (pv 2) (pe_lst pa_nil) (nomark _))
       (pss_one (ps_expr (pe_bm PySem.F.plainAttrs_list PySem.F.slot_list_append PySem.F.type_list_append mt_append (pv 3) (pa_cons (pe_bm PySem.F.plainAttrs_list PySem.F.slot_list_pop PySem.F.type_list_pop mt_popAt (pv 2) (pa_cons (pe_call (ok_l_draw T) (hr.mono (by decide)) (by rfl) T.g_l_draw T.F_l_draw.kp T.b_l_draw .nil pass0 (pa_cons (pv 0) (pa_cons (pe_callB call_len_seq (by rfl) T.m_len (by decide +kernel) (pa_cons (pv 2) pa_nil)) pa_nil))) pa_nil)) pa_nil)))))
      (pss_one (ps_ret (pv 3))))), ?_⟩
    refine ⟨_, rfl, a, _, rfl, .inl (SqL.of ha), fun l nl => ?_⟩
    refine ⟨Nat.zero_le _, fun f nf => ?_⟩
    have nfl : f ≠ l := fun e => by rw [e, upd_same] at nf; cases nf
    have nf0 : H f = none := by rw [upd_ne nfl] at nf; exact nf
    refine ⟨_, _, rfl, WMixed S C a l f ns H, ⟨ns.length, ns, [], rfl, rfl, (Mod.of (same_new nl)).own nf0, (hst.same (same_new nl)).same (same_new nf), by rw [upd_ne nfl.symm, upd_same], upd_same, .refl _⟩, fun m σ H1 hW => ?_⟩
    obtain ⟨ls, fs, rfl, rfl, m1, st1, hl1, hf1, pm⟩ := hW
    have hlen : fs.length + ls.length = ns.length := by rw [← List.length_append]; exact pm.length_eq
    have okl : ∀ y ∈ ls, PyData.strOk y = true := fun y hy => hok y (pm.mem_iff.mp (List.mem_append_right _ hy))
    refine ⟨_, rfl, Nat.zero_le _, fun e ne => ?_⟩
    have hl2 : (upd H1 e (.lst [])) l = some (.lst (ls.map V.str)) := same_new ne _ _ hl1
    have hf2 : (upd H1 e (.lst [])) f = some (.lst (fs.map V.str)) := same_new ne _ _ hf1
    have m2 : Mod S C H (upd H1 e (.lst [])) := m1.trans (Mod.of (same_new ne))
    have st2 : StOk (upd H1 e (.lst [])) S C := st1.same (same_new ne)
    refine ⟨_, .list [], dp_list hl2, .lst (SqL.of upd_same) .nil, shaped_list okl, shaped_list (ys := []) (fun _ h => nomatch h), _, rfl, ?_⟩
    rw [show PyData.list [] = .list (([] : List Str).map PyData.str) from rfl, eqv_lists]
    by_cases hne : ls = []
    · rw [decide_eq_true hne]
      refine iteF ?_
      subst hne
      rw [List.append_nil] at pm
      exact ⟨_, rfl, q _ f fs m2 st2 nf0 hf2 pm⟩
    · rw [decide_eq_false hne]
      have hp : 0 < ls.length := List.length_pos_iff.mpr hne
      refine iteT ⟨fun σ' H' => ∃ m', m' < ls.length ∧ WMixed S C a l f ns H m' σ' H', fun _ _ h => h, ?_⟩
      refine ⟨_, rfl, .inl ⟨rfl, _, SqL.of hf2⟩, _, rfl, .inl ⟨rfl, _, SqL.of hl2⟩, _, rfl, _, rfl, l, _, rfl, .inl (SqL.of hl2), S, C, _, rfl, by rw [List.length_map]; omega, by rw [List.length_map]; exact small_nat (by omega), st2, fun H3 d m3 st3 d0 d1 => ?_⟩
      rw [List.length_map] at d1
      obtain ⟨j, v, ej, hj, hv⟩ := at_some d0 d1
      have hl3 := m3.strs st2 hl2
      have hf3 := m3.strs st2 hf2
      have hlf : l ≠ f := nfl.symm
      have hjl := (List.getElem?_eq_some_iff.mp hj).1
      refine ⟨l, _, d, j, .str v, rfl, rfl, hl3, by omega, by omega, ?_, strs_at hj, ?_⟩
      · subst ej
        rw [List.length_map, seqIndex_of d0 d1]
        rfl
      · refine ⟨f, _, .str v, rfl, rfl, by rw [upd_ne nfl]; exact hf3, by rw [List.length_map]; exact small_lt (by omega), ?_⟩
        have ofl := st3.offS hl3
        have off := st3.offS hf3
        refine ⟨(ls.eraseIdx j).length, by rw [List.length_eraseIdx, if_pos hjl]; omega, ls.eraseIdx j, fs ++ [v], rfl, rfl, ((m2.trans m3).own nl).own nf0, (st3.upd ofl.1 ofl.2).upd off.1 off.2, ?_, ?_, ?_⟩
        · rw [upd_ne hlf, upd_same, erase_map]
        · rw [upd_same, List.map_append]
          rfl
        · rw [List.append_assoc]
          exact ((List.Perm.refl fs).append (erase_perm hj)).trans pm
theorem ok_l_slip (T : Tx K mg) : FnOk P w K mg base CX0 2 T.a_l_slip T.fd_l_slip P_l_slip spSlip := by
  refine T.F_l_slip.ok sc_l_slip (fun vs H Q E h => ?_) (fun cdv A outer s H vs Q E hr h => ?_)
  · obtain ⟨S, C, rfl, _⟩ := h
    rfl
  · obtain ⟨S, C, rfl, hst, q⟩ := h
    refine ⟨_, (pss_cons (ps_par (i := 1) (j := 2) (by rfl) sc_l_slip.nd rfl rfl (by decide) rfl rfl (pa_cons (pe_call (ok_l_draw T) (hr.mono (by decide)) (by rfl) T.g_l_draw T.F_l_draw.kp T.b_l_draw .nil pass0 (pa_cons (pv 0) (pa_cons pe_int pa_nil))) (pa_cons (pe_op op_sub (pe_call (ok_l_draw T) (hr.mono (by decide)) (by rfl) T.g_l_draw T.F_l_draw.kp T.b_l_draw .nil pass0 (pa_cons (pv 0) (pa_cons pe_int pa_nil))) pe_int) pa_nil)) (by rfl))
      (pss_cons (ps_if (pt_cmpR op_lt (pv 1) pe_int (nomark _))
       (pss_one (ps_ret (pv 2)))
       pss_nil)
      (pss_cons (ps_if (pt_cmpR op_eq (pv 1) pe_int (nomark _))
       (pss_one (ps_ret (pe_op op_add (pe_op op_mul pe_int (pe_op op_sub (pe_call (ok_l_draw T) (hr.mono (by decide)) (by rfl) T.g_l_draw T.F_l_draw.kp T.b_l_draw .nil pass0 (pa_cons (pv 0) (pa_cons pe_int pa_nil))) pe_int)) (pv 2))))
       pss_nil)
      (pss_cons (ps_set (i := 3) sc_l_slip.nd rfl (.inl rfl) (pe_call (ok_l_draw T) (hr.mono (by decide)) (by rfl) T.g_l_draw T.F_l_draw.kp T.b_l_draw .nil pass0 (pa_cons (pv 0) (pa_cons (pe_op op_pow pe_int pe_int) pa_nil))))
      (pss_one (ps_ret (pe_ix ix_list (pe_lst (pa_cons (pv 3) (pa_cons (pe_op op_sub pe_int (pv 3)) pa_nil))) (pe_op op_sub (pv 1) pe_int) (fun _ _ => rfl)))))))), ?_⟩
    refine ⟨_, rfl, S, C, _, rfl, by decide, by decide, hst, fun H1 way m1 st1 w0 w1 => ?_⟩
    refine ⟨_, rfl, S, C, _, rfl, by decide, by decide, st1, fun H2 sm m2 st2 s0 s1 => ?_⟩
    refine ⟨_, _, rfl, rfl, _, _, rfl, ?_⟩
    have m12 := m1.trans m2
    refine ⟨_, rfl, _, _, rfl, rfl, _, rfl, ite2 (fun hw => ?_) (fun hw => ?_)⟩
    · exact ⟨_, rfl, q _ _ m12 st2 (Nat.lt_of_lt_of_le (show (sm - 9).natAbs < 100 by omega) (by decide))⟩
    · refine ⟨_, rfl, rfl, _, rfl, ite2 (fun h3 => ?_) (fun h3 => ?_)⟩
      · refine ⟨_, rfl, S, C, _, rfl, by decide, by decide, st2, fun H3 d m3 st3 d0 d1 => ?_⟩
        exact ⟨_, _, rfl, rfl, _, _, rfl, rfl, .inl ⟨by decide, by decide⟩, _, rfl, _, _, rfl, rfl, q _ _ (m12.trans m3) st3 (Nat.lt_of_lt_of_le (show (27720 * (d - 4) + (sm - 9)).natAbs < 1000000 by omega) (by decide))⟩
      · have hw3 : way ≠ 3 := fun e => h3 (decide_eq_true (by rw [e]))
        have hlt : ¬ way < 3 := fun e => hw (decide_eq_true e)
        refine ⟨_, rfl, _, _, rfl, rfl, ⟨by decide, by decide, by decide⟩, S, C, _, rfl, by decide, by decide, st2, fun H3 d m3 st3 d0 d1 => ?_⟩
        refine ⟨_, rfl, _, rfl, _, _, rfl, rfl, (by show 2 ≤ sizeLine; decide), fun p np => ?_⟩
        have hd : d.natAbs < 10 ^ 58 := by
          have e : (10 : Int) ^ (57 : Int).toNat = 10 ^ 57 := rfl
          rw [e] at d1
          have : (10 : Int) ^ 57 < ((10 ^ 58 : Nat) : Int) := by decide
          omega
        have hd2 : (0 - d).natAbs < 10 ^ 58 := by rw [Int.zero_sub, Int.natAbs_neg]; exact hd
        have m4 := (m12.trans m3).trans (Mod.of (same_new (o := .lst [.int d, .int (0 - d)]) np))
        refine ⟨_, rfl, _, _, rfl, rfl, ?_⟩
        rcases (show way = 4 ∨ way = 5 by omega) with rfl | rfl
        · exact ⟨p, _, 0, .int d, rfl, rfl, SqL.of upd_same, rfl, q _ _ m4 (st3.same (same_new np)) hd⟩
        · exact ⟨p, _, 1, .int (0 - d), rfl, rfl, SqL.of upd_same, rfl, q _ _ m4 (st3.same (same_new np)) hd2⟩
theorem ok_l_state (T : Tx K mg) : FnOk P w K mg base CX0 1 T.a_l_state T.fd_l_state P_l_state (spState K) := by
  refine T.F_l_state.ok sc_l_state (fun vs H Q E h => ?_) (fun cdv A outer s H vs Q E hr h => ?_)
  · obtain ⟨a, ns, rfl, _⟩ := h
    rfl
  · obtain ⟨a, ns, rfl, ha, hl, q⟩ := h
    refine ⟨_, (pss_cons (ps_setLc (i := 1) (own := [("_law_cell", 2)]) (g := gName 2) (tt := tYes) rfl sc_l_state.nd rfl rfl (sw_true rfl rfl rfl (by decide +kernel)) (pi_list (pe_slice sl_list (pv 0) po_none (po_some pe_int))) (blkOk_by (N := N_l_state) (sc := defScope s_l_state) (by decide +kernel)) (fun _ _ _ _ _ => pg_name (i := 2) sc_l_state.nd rfl (Or.inl rfl)) (fun _ _ _ _ _ => pts_nil) (fun _ _ _ _ _ => (pe_callB call_abs (by rfl) T.m_abs (by decide +kernel) (pa_cons (pv 2) pa_nil))))
      (pss_cons (ps_if (pt_cmpR (op_eqD hr.units) (pv 1) (pe_lst pa_nil) (nomark _))
       (pss_one (ps_set (i := 1) sc_l_state.nd rfl (.inl rfl) (pe_lst (pa_cons pe_int pa_nil))))
       pss_nil)
      (pss_one (ps_ret (pe_lst (pa_cons (pv 1) (pa_cons pe_int (pa_cons pe_int pa_nil)))))))), ?_⟩
    refine ⟨_, rfl, 63, rfl, a, _, rfl, ha, fun c nc => ?_⟩
    rw [show cutV (ns.map V.int) none (some 63) = ns.map V.int from (cut_take _ 63).trans (List.take_of_length_le (by rw [List.length_map]; exact hl))]
    have Dn : ∀ D, (upd H c (.lst (ns.map V.int))) D = none → D ≠ c ∧ H D = none := fun D nD => by
      have k : D ≠ c := fun e => by rw [e, upd_same] at nD; cases nD
      exact ⟨k, by rw [upd_ne k] at nD; exact nD⟩
    refine ⟨c, rfl, ⟨_, SqL.of upd_same⟩, fun D nD => ?_⟩
    obtain ⟨nDc, nD0⟩ := Dn D nD
    refine lc_list (K := K) (a := c) (xs := ns.map V.int) (fun i H' => Same H H' ∧ H' c = some (.lst (ns.map V.int)) ∧ H' D = some (.lst (((ns.take i).map fun n => if n < 0 then -n else n).map V.int))) ⟨(same_new nc).own nD0, by rw [upd_ne nDc.symm, upd_same], upd_same⟩ (fun i H' _ p => SqL.of p.2.1) (fun i x H' hx p => ?_) (fun H' p => ?_)
    · obtain ⟨sm, hc, hD⟩ := p
      obtain ⟨z, hz, rfl⟩ := of_ints_at hx
      have hlt := (List.getElem?_eq_some_iff.mp hz).1
      refine ⟨rfl, ?_⟩
      refine ⟨_, rfl, z, rfl, _, hD, by rw [List.length_map, List.length_map, List.length_take]; exact small_lt (by omega), ?_⟩
      refine ⟨L2.Same.own sm nD0, by rw [upd_ne nDc.symm]; exact hc, ?_⟩
      rw [upd_same, take_snoc hz, List.map_append, List.map_append]
      rfl
    · obtain ⟨sm, hc, hD⟩ := p
      rw [List.length_map, List.take_length] at hD
      generalize hcs : (ns.map fun n => if n < 0 then -n else n) = cs at hD
      have hpos : ∀ z ∈ cs, 0 ≤ z := fun z hz => by
        rw [← hcs] at hz
        obtain ⟨n, _, rfl⟩ := List.mem_map.mp hz
        split <;> omega
      have hcl : cs.length ≤ 63 := by rw [← hcs, List.length_map]; exact hl
      refine ⟨_, rfl, Nat.zero_le _, fun e ne => ?_⟩
      have sm2 : Same H (upd H' e (.lst [])) := sm.trans (same_new ne)
      have hD2 := same_new (o := .lst []) ne _ _ hD
      refine ⟨_, .list [], .lst (SqL.of hD2) (dpi_all cs), .lst (SqL.of upd_same) .nil, shapedi_list cs, shapedi_list [], _, rfl, ?_⟩
      rw [show PyData.list [] = .list (([] : List Int).map PyData.int) from rfl, eqvi_lists]
      by_cases h0 : cs = []
      · rw [decide_eq_true h0]
        refine iteT ⟨by show 1 ≤ sizeLine; decide, fun p np => ?_⟩
        refine ⟨_, rfl, (by show 3 ≤ sizeLine; decide), fun S nS => ?_⟩
        have nSp : S ≠ p := fun z => by rw [z, upd_same] at nS; cases nS
        have nS0 : H S = none := sm2.free (by rw [upd_ne nSp] at nS; exact nS)
        exact q _ S p ((sm2.trans (same_new np)).trans (same_new nS)) nS0 (sm2.free np) ⟨[1], 0, 1, upd_same, by rw [upd_ne nSp.symm, upd_same]; rfl, by decide, by decide, by decide, by decide, by decide, by decide⟩
      · rw [decide_eq_false h0]
        refine iteF ?_
        refine ⟨_, rfl, (by show 3 ≤ sizeLine; decide), fun S nS => ?_⟩
        have nS0 : H S = none := sm2.free nS
        have hSD : S ≠ D := fun z => by rw [z, hD2] at nS; cases nS
        exact q _ S D (sm2.trans (same_new nS)) nS0 nD0 ⟨cs, 0, 1, upd_same, by rw [upd_ne hSD.symm]; exact hD2, List.length_pos_iff.mpr h0, hcl, hpos, by decide, by decide, by decide⟩
end
end K13
namespace K13
open PySem PySem.Spec PyProof.Rows L2 GL
section
variable {P : Program} {w : World} {K : PySem.W.Frag} {mg : Str → Option Value} {base : Heap}
theorem ok_l_names (T : Tx K mg) : FnOk P w K mg base CX0 3 T.a_l_names T.fd_l_names P_l_names spNames := by
  refine T.F_l_names.ok sc_l_names (fun vs H Q E h => ?_) (fun cdv A outer s H vs Q E hr h => ?_)
  · obtain ⟨S, C, n, rfl, _⟩ := h
    rfl
  · obtain ⟨S, C, n, rfl, hn0, hn1, hst, q⟩ := h
    refine ⟨_, (pss_cons (ps_asg (pe_tup (pa_cons (pe_lst pa_nil) (pa_cons pe_str pa_nil))) (pg_tup (by rfl) (pgs_cons (pg_name (i := 2) sc_l_names.nd rfl (.inr rfl)) (pgs_cons (pg_name (i := 3) sc_l_names.nd rfl (.inr rfl)) pgs_nil))))
      (pss_cons (ps_for PassesOwn.never rfl (pi_range1 (by rfl) T.m_range (pa_cons (pv 1) pa_nil)) (pg_name (i := 4) sc_l_names.nd rfl (.inl rfl))
       (pss_cons (ps_set (i := 5) sc_l_names.nd rfl (.inr rfl) (pe_join pe_str (pe_lc (own := [("_law_sign", 7)]) (g := gName 7) (tt := tYes) rfl sc_l_names.nd (pi_range1 (by rfl) T.m_range (pa_cons (pe_op op_add pe_int (pe_call (ok_l_draw T) (hr.mono (by decide)) (by rfl) T.g_l_draw T.F_l_draw.kp T.b_l_draw .nil pass0 (pa_cons (pv 0) (pa_cons pe_int pa_nil)))) pa_nil)) (blkOk_by (N := N_l_names) (sc := defScope s_l_names) (by decide +kernel)) (fun _ _ _ _ _ => pg_name (i := 7) sc_l_names.nd rfl (Or.inl rfl)) (fun _ _ _ _ _ => pts_nil) (fun _ _ _ _ _ => (pe_call (ok_l_pick T) (hr.mono (by decide)) (by rfl) T.g_l_pick T.F_l_pick.kp T.b_l_pick .nil pass0 (pa_cons (pv 0) (pa_cons (pv 3) pa_nil)))))))
        (pss_cons (ps_set (i := 5) sc_l_names.nd rfl (.inr rfl) (pe_call (ok_l_pick T) (hr.mono (by decide)) (by rfl) T.g_l_pick T.F_l_pick.kp T.b_l_pick .nil pass0 (pa_cons (pv 0) (pa_cons (pe_lst (pa_cons (pv 5) (pa_cons (pv 5) (pa_cons pe_str (pa_cons pe_str (pa_cons pe_str (pa_cons pe_str (pa_cons pe_str (pa_cons pe_str (pa_cons pe_str (pa_cons pe_str pa_nil))))))))))) pa_nil))))
        (pss_cons (ps_set (i := 6) sc_l_names.nd rfl (.inl rfl) (pe_op op_cat (pe_lst (pa_cons (pv 5) pa_nil)) (pe_lc (own := [("_law_sign", 7)]) (g := gName 7) (tt := tYes) rfl sc_l_names.nd (pi_str (pv 3)) (blkOk_by (N := N_l_names) (sc := defScope s_l_names) (by decide +kernel)) (fun _ _ _ _ _ => pg_name (i := 7) sc_l_names.nd rfl (Or.inl rfl)) (fun _ _ _ _ _ => pts_nil) (fun _ _ _ _ _ => (pe_op op_add_str (pe_slice sl_str (pv 5) po_none (po_some pe_int)) (pv 7))))))
        (pss_one (ps_expr (pe_bm PySem.F.plainAttrs_list PySem.F.slot_list_append PySem.F.type_list_append mt_append (pv 2) (pa_cons (pe_ix ix_list (pe_lc (own := [("_law_one", 8)]) (g := gName 8)  rfl sc_l_names.nd (pi_list (pv 6)) (blkOk_by (N := N_l_names) (sc := defScope s_l_names) (by decide +kernel)) (fun _ _ _ _ _ => pg_name (i := 8) sc_l_names.nd rfl (Or.inl rfl)) (fun _ _ _ _ _ => pts_one (pt_cmpR (show OpR _ (compareOp .NotIn) (rIn K true) from op_notIn_seq) (pv 8) (pv 2) (by rfl))) (fun _ _ _ _ _ => (pv 8))) pe_int (fun _ _ => rfl)) pa_nil))))))))
      (pss_one (ps_ret (pv 2))))), ?_⟩
    refine ⟨Nat.zero_le _, fun f nf => ⟨(by show 2 ≤ sizeLine; decide), fun t nt => ?_⟩⟩
    refine ⟨t, _, rfl, SqT.of upd_same, rfl, _, _, rfl, _, _, rfl, rfl, ?_⟩
    have ntf : t ≠ f := fun e => by rw [e, upd_same] at nt; cases nt
    refine ⟨_, rfl, n, rfl, by omega, by omega, ?_⟩
    have st0 : StOk (upd (upd H f (.lst [])) t (.tup [.ref f, .str abc])) S C := (hst.same (same_new nf)).same (same_new nt)
    have nt0 : H t = none := by rw [upd_ne ntf] at nt; exact nt
    refine for_range (lo := 0) (n := n.toNat) (fun i σ H1 => (∃ a b c, σ = [some (.ref S), some (.int n), some (.ref f), some (.str abc), a, b, c, none, none]) ∧ Mod S C H H1 ∧ StOk H1 S C ∧ ∃ ys : List Str, H1 f = some (.lst (ys.map V.str)) ∧ ys.length = i ∧ ys.Nodup ∧ ∀ y ∈ ys, NameOk y)
      ⟨⟨none, none, none, rfl⟩, (Mod.of (same_new nf)).own nt0, st0, [], by rw [upd_ne ntf.symm, upd_same]; rfl, rfl, List.nodup_nil, fun _ h => nomatch h⟩ (fun i σ H1 hi hP => ?_) (fun σ H1 hP => ?_)
    · obtain ⟨⟨a, b, c, rfl⟩, m1, st1, ys, hf, hlen, hnd, hok⟩ := hP
      have hi14 : i < 14 := by omega
      -- a word
      refine ⟨⟨_, rfl⟩, _, rfl, S, C, _, rfl, by decide, by decide, st1, fun H2 d m2 st2 d0 d1 => ?_⟩
      refine ⟨_, _, rfl, rfl, _, rfl, by omega, by omega, fun D nD => ?_⟩
      have hf2 := m2.strs st1 hf
      refine lc_range (lo := 0) (n := (1 + d).toNat) (fun j H3 => Mod S C H2 H3 ∧ StOk H3 S C ∧ ∃ cs : List Nat, cs.length = j ∧ (∀ x ∈ cs, 97 ≤ x ∧ x ≤ 122) ∧ H3 D = some (.lst ((cs.map one).map V.str)))
        ⟨Mod.of (same_new nD), st2.same (same_new nD), [], rfl, (fun _ h => nomatch h), upd_same⟩ (fun j H3 hj hP => ?_) (fun H3 hP => ?_)
      · obtain ⟨m3, st3, cs, hcl, hcs, hD⟩ := hP
        refine ⟨rfl, _, rfl, _, rfl, S, C, _, rfl, st3, .inr ⟨abc, rfl, by decide +kernel, by decide +kernel, fun H4 x m4 st4 hx => ?_⟩⟩
        have hD4 := m4.strs st3 hD
        have off := st4.offS hD4
        refine ⟨_, hD4, by rw [List.length_map, List.length_map]; exact small_lt (by omega), (m3.trans m4).own nD, st4.upd off.1 off.2, cs ++ [x], by rw [List.length_append, hcl]; rfl, fun y hy => ?_, ?_⟩
        · rcases List.mem_append.mp hy with hy | hy
          · exact hcs y hy
          · rw [List.mem_singleton] at hy
            rw [hy]
            exact abc_mem.mp hx
        · rw [upd_same, List.map_append, List.map_append]
          rfl
      · obtain ⟨m3, st3, cs, hcl, hcs, hD⟩ := hP
        have hcl8 : cs.length ≤ 8 := by omega
        refine ⟨_, D, cs.map one, rfl, rfl, .inl (SqL.of hD), by rw [ones_len]; show cs.length + (cs.map one).length * 0 ≤ 16777216; omega, ?_⟩
        have hw : NameOk (Txt.join ("" : Str) (cs.map one)) := by
          rw [show ("" : Str) = ⟨#[]⟩ by decide +kernel]
          unfold NameOk
          rw [glue_ones]
          exact ⟨by omega, hcl8, hcs⟩
        generalize Txt.join ("" : Str) (cs.map one) = z at hw ⊢
        have hf3 := m3.strs st2 hf2
        have m13 : Mod S C H H3 := (m1.trans m2).trans m3
        -- one of the words
        refine ⟨_, rfl, _, rfl, _, rfl, (by show 10 ≤ sizeLine; decide), fun l nl => ?_⟩
        refine ⟨S, C, _, rfl, st3.same (same_new nl), .inl ⟨l, _, rfl, st3.neS nl, st3.neC nl, upd_same, (by show 0 < 10; decide), (by show 10 ≤ 1000; decide), fun H4 v m4 st4 hv => ?_⟩⟩
        obtain ⟨y, rfl, hy⟩ : ∃ y, v = .str y ∧ NameOk y := by
          simp only [List.mem_cons, List.not_mem_nil, or_false] at hv
          rcases hv with rfl | rfl | rfl | rfl | rfl | rfl | rfl | rfl | rfl | rfl
          · exact ⟨_, rfl, hw⟩
          · exact ⟨_, rfl, hw⟩
          all_goals exact ⟨_, rfl, by decide +kernel⟩
        have st3l := st3.same (same_new (o := .lst [.str z, .str z, .str "ring", .str "may", .str "sure", .str "far", .str "more", .str "go", .str "come", .str "seat"]) nl)
        have hf4 := m4.strs st3l (same_new nl _ _ hf3)
        have m14 : Mod S C H H4 := (m13.trans (Mod.of (same_new nl))).trans m4
        clear hw hv
        -- its turns
        refine ⟨_, rfl, (by show 1 ≤ sizeLine; decide), fun l1 nl1 => ?_⟩
        refine ⟨_, rfl, _, rfl, fun D2 nD2 => ?_⟩
        have st4a := st4.same (same_new (o := .lst [.str y]) nl1)
        refine lc_it (walk_str (z := abc)) (fun j H5 => Same (upd H4 l1 (.lst [.str y])) H5 ∧ H5 D2 = some (.lst (((abc.cps.toList.take j).map (w7 y)).map V.str))) ⟨same_new nD2, by rw [upd_same]; rfl⟩ (fun _ _ _ _ => trivial) (fun j x H5 H6 hj hP hY => ?_) (fun H5 hP => ?_)
        · obtain ⟨sm5, hD2⟩ := hP
          obtain ⟨rfl, ch, hch, rfl⟩ := hY
          have hch2 : abc.cps.toList[j]? = some ch := by rw [Array.getElem?_toList]; exact hch
          refine ⟨rfl, _, rfl, 7, rfl, y, rfl, Nat.le_trans hy.len (by decide), _, rfl, _, _, rfl, rfl, ?_, _, hD2, ?_, sm5.own nD2, ?_⟩
          · have := cutS_length y none (some 7)
            have h8 := hy.len
            show (cutS y none (some 7)).length + 1 ≤ sizeLine
            exact small_sz (by omega)
          · rw [List.length_map, List.length_map, List.length_take]
            exact small_lt (by have : abc.cps.toList.length = 26 := by decide +kernel
                               omega)
          · rw [upd_same, take_snoc hch2, List.map_append, List.map_append]
            rfl
        · obtain ⟨sm5, hD2⟩ := hP
          have e26 : abc.cps.size = 26 := by decide +kernel
          have e26' : abc.cps.toList.length = 26 := by decide +kernel
          rw [List.take_of_length_le (by omega)] at hD2
          have hl1 := sm5 _ _ (show (upd H4 l1 (.lst [.str y])) l1 = _ from upd_same)
          refine ⟨l1, D2, _, _, rfl, rfl, hl1, hD2, ?_, fun p np => ?_⟩
          · rw [List.length_map, List.length_map, e26']
            show 1 + 26 ≤ sizeLine
            decide
          have ep : (([V.str y] : List V) ++ (abc.cps.toList.map (w7 y)).map V.str) = (turns27 y).map V.str := rfl
          rw [ep]
          have sm6 : Same H4 (upd H5 p (.lst ((turns27 y).map V.str))) := (same_new nl1).trans (sm5.trans (same_new np))
          have hp : (upd H5 p (.lst ((turns27 y).map V.str))) p = some (.lst ((turns27 y).map V.str)) := upd_same
          generalize upd H5 p (.lst ((turns27 y).map V.str)) = H7 at sm6 hp ⊢
          have hf7 := sm6 _ _ hf4
          have st7 := st4.same sm6
          have m17 : Mod S C H H7 := m14.trans (Mod.of sm6)
          clear sm5 np hD2 hl1
          -- one that is not there yet
          refine ⟨_, rfl, .inl ⟨rfl, _, SqL.of hf7⟩, _, rfl, p, rfl, ⟨_, SqL.of hp⟩, fun D3 nD3 => ?_⟩
          have t27 : (turns27 y).length = 27 := by show (abc.cps.toList.map (w7 y)).length + 1 = 27; rw [List.length_map, e26']
          refine lc_list (K := K) (a := p) (xs := (turns27 y).map V.str) (fun j H8 => Same H7 H8 ∧ H8 D3 = some (.lst ((((turns27 y).take j).filter fun x => !decide (x ∈ ys)).map V.str))) ⟨same_new nD3, upd_same⟩ (fun j H8 _ hP => SqL.of (hP.1 _ _ hp)) (fun j x H8 hx hP => ?_) (fun H8 hP => ?_)
          · obtain ⟨sm8, hD3⟩ := hP
            obtain ⟨x, hx2, rfl⟩ := of_strs_at hx
            refine ⟨rfl, _, rfl, _, rfl, f, _, rfl, .inl (SqL.of (sm8 _ _ hf7)), rfl, flat_strs ys, _, rfl, ?_⟩
            show if (!inV (.str x) (ys.map V.str)) = true then _ else _
            rw [inV_strs]
            by_cases hxy : x ∈ ys
            · rw [decide_eq_true hxy]
              refine iteF ⟨sm8, ?_⟩
              rw [hD3, take_snoc hx2, List.filter_append, List.filter_cons, decide_eq_true hxy]
              simp
            · rw [decide_eq_false hxy]
              refine ⟨_, rfl, _, hD3, ?_, sm8.own nD3, ?_⟩
              · rw [List.length_map]
                refine small_lt (Nat.lt_of_le_of_lt (List.length_filter_le _ _) ?_)
                rw [List.length_take]
                omega
              · rw [upd_same, take_snoc hx2, List.filter_append, List.filter_cons, decide_eq_false hxy]
                simp
          · obtain ⟨sm8, hD3⟩ := hP
            rw [List.length_map, List.take_length] at hD3
            have hne := fresh_one (z := y) (found := ys) (by omega)
            cases hfl : (turns27 y).filter (fun x => !decide (x ∈ ys)) with
            | nil => exact absurd hfl hne
            | cons x r =>
              rw [hfl] at hD3
              have hxm : x ∈ (turns27 y).filter (fun x => !decide (x ∈ ys)) := by rw [hfl]; exact List.mem_cons_self
              obtain ⟨hx1, hx2⟩ := List.mem_filter.mp hxm
              have hxy : x ∉ ys := by simpa using hx2
              have hf8 := sm8 _ _ hf7
              have st8 := st7.same sm8
              have off := st8.offS hf8
              refine ⟨D3, _, 0, .str x, rfl, rfl, SqL.of hD3, atI_nat (j := 0) rfl, f, _, _, rfl, rfl, hf8, by rw [List.length_map]; exact small_lt (by omega), ?_⟩
              refine ⟨⟨_, _, _, rfl⟩, (m17.trans (Mod.of sm8)).own nf, st8.upd off.1 off.2, ys ++ [x], by rw [upd_same, List.map_append]; rfl, by rw [List.length_append, hlen]; rfl, ?_, fun u hu => ?_⟩
              · rw [List.nodup_append]
                refine ⟨hnd, List.nodup_cons.mpr ⟨List.not_mem_nil, List.nodup_nil⟩, fun u hu v hv e => ?_⟩
                rw [List.mem_singleton] at hv
                rw [e, hv] at hu
                exact hxy hu
              · rcases List.mem_append.mp hu with hu | hu
                · exact hok u hu
                · rw [List.mem_singleton] at hu
                  rw [hu]
                  exact turns27_ok hy x hx1
    · obtain ⟨⟨a, b, c, rfl⟩, m1, st1, ys, hf, hlen, hnd, hok⟩ := hP
      exact ⟨_, rfl, q H1 f ys m1 st1 nf hf hlen hnd hok⟩
end
end K13
namespace K13
open PySem PySem.Spec PyProof.Rows L2 GL
section
variable {P : Program} {w : World} {K : PySem.W.Frag} {mg : Str → Option Value} {base : Heap}
theorem ok_l_slips (T : Tx K mg) : FnOk P w K mg base CX0 3 T.a_l_slips T.fd_l_slips P_l_slips spSlips := by
  refine T.F_l_slips.ok sc_l_slips (fun vs H Q E h => ?_) (fun cdv A outer s H vs Q E hr h => ?_)
  · obtain ⟨S, C, a, n, rfl, _⟩ := h
    rfl
  · obtain ⟨S, C, a, ns, rfl, hst, ha, hl, hnd, hok, q⟩ := h
    refine ⟨_, (pss_one (ps_ret (pe_callTy (call_dictP rfl) (by rfl) T.m_dict (by decide +kernel) (pa_cons (pe_lc (own := [("_law_name", 2)]) (g := gName 2) (tt := tYes) rfl sc_l_slips.nd (pi_list (pe_call (ok_l_mixed T) (hr.mono (by decide)) (by rfl) T.g_l_mixed T.F_l_mixed.kp T.b_l_mixed .nil pass0 (pa_cons (pv 0) (pa_cons (pv 1) pa_nil)))) (blkOk_by (N := N_l_slips) (sc := defScope s_l_slips) (by decide +kernel)) (fun _ _ _ _ _ => pg_name (i := 2) sc_l_slips.nd rfl (Or.inl rfl)) (fun _ _ _ _ _ => pts_nil) (fun _ _ _ _ _ => (pe_tup (pa_cons (pv 2) (pa_cons (pe_call (ok_l_slip T) (hr.mono (by decide)) (by rfl) T.g_l_slip T.F_l_slip.kp T.b_l_slip .nil pass0 (pa_cons (pv 0) pa_nil)) pa_nil))))) pa_nil)))), ?_⟩
    refine ⟨_, rfl, _, rfl, S, C, a, ns, rfl, hst, ha, hl, hok, fun H1 l ys m1 st1 nl hl1 pm => ⟨l, rfl, ⟨_, SqL.of hl1⟩, fun D nD => ?_⟩⟩
    have hylen : ys.length ≤ 100 := by rw [pm.length_eq]; exact hl
    refine lc_list (K := K) (a := l) (xs := ys.map V.str) (fun j H2 => Mod S C H1 H2 ∧ StOk H2 S C ∧ ∃ (ps : List Addr) (kvs : List (Key × V)), H2 D = some (.lst (ps.map V.ref)) ∧ Paired (fun p (kv : Key × V) => H2 p = some (.tup [kV kv.1, kv.2])) ps kvs ∧ kvs.map (·.1) = (ys.take j).map Sum.inr ∧
        (∀ kv ∈ kvs, ∃ z, kv.2 = .int z ∧ Int.natAbs z < 10 ^ 58) ∧ ps.length = j)
      ⟨Mod.of (same_new nD), st1.same (same_new nD), [], [], upd_same, .nil, rfl, (fun _ h => nomatch h), rfl⟩ (fun j H2 _ hP => SqL.of (hP.1.strs st1 hl1)) (fun j x H2 hx hP => ?_) (fun H2 hP => ?_)
    · obtain ⟨m2, st2, ps, kvs, hD, hps, hk, hz, hpl⟩ := hP
      obtain ⟨y, hy, rfl⟩ := of_strs_at hx
      have hjl := (List.getElem?_eq_some_iff.mp hy).1
      refine ⟨rfl, _, rfl, _, rfl, S, C, rfl, st2, fun H3 z m3 st3 hzb => ?_⟩
      refine ⟨(by show 2 ≤ sizeLine; decide), fun t nt => ?_⟩
      have nDS := st1.neS nD
      have nDC := st1.neC nD
      have hD3 := m3 _ _ hD nDS nDC
      have ntD : D ≠ t := ne_of_none hD3 nt
      refine ⟨_, by rw [upd_ne ntD]; exact hD3, by rw [List.length_map]; exact small_lt (by omega), ((m2.trans m3).trans (Mod.of (same_new nt))).own nD, (st3.same (same_new nt)).upd nDS nDC, ps ++ [t], kvs ++ [(Sum.inr y, .int z)], ?_, ?_, ?_, ?_, ?_⟩
      · rw [upd_same, List.map_append]
        rfl
      · refine Paired.snoc (Paired.mapF (fun p kv e => ?_) hps) ?_
        · have h3 := m3.other st2 e (fun _ z => nomatch z)
          rw [upd_ne (ne_of h3 hD3 (fun z => nomatch z)), upd_ne (ne_of_none h3 nt)]
          exact h3
        · rw [upd_ne ntD.symm, upd_same]
          rfl
      · rw [List.map_append, hk, take_snoc hy, List.map_append]
        rfl
      · intro kv hkv
        rcases List.mem_append.mp hkv with hkv | hkv
        · exact hz kv hkv
        · rw [List.mem_singleton] at hkv
          rw [hkv]
          exact ⟨z, rfl, hzb⟩
      · rw [List.length_append, hpl]
        rfl
    · obtain ⟨m2, st2, ps, kvs, hD, hps, hk, hz, hpl⟩ := hP
      rw [List.length_map, List.take_length] at hk
      have hkn : (kvs.map (·.1)).Nodup := by
        rw [hk]
        exact nodup_map (fun a b e => Sum.inr.inj e) (pm.nodup_iff.mpr hnd)
      have hkl : kvs.length = ns.length := by
        have := congrArg List.length hk
        rw [List.length_map, List.length_map] at this
        rw [this, pm.length_eq]
      refine ⟨D, ps, kvs, rfl, SqL.of hD, Paired.mapF (fun p kv e => SqT.of e) hps, fun p np => ?_⟩
      rw [merge_new kvs [] hkn, List.nil_append]
      have sm : ∀ n ∈ ns, valV kvs (Sum.inr n : Key) = some (.int (slOf kvs n)) ∧ Int.natAbs (slOf kvs n) < 10 ^ 58 := fun n hn => by
        have : (Sum.inr n : Key) ∈ kvs.map (·.1) := by
          rw [hk]
          exact List.mem_map.mpr ⟨n, pm.mem_iff.mpr hn, rfl⟩
        obtain ⟨v, h1, h2⟩ := valV_mem this
        obtain ⟨z, e, hb⟩ := hz _ h2
        have e : v = .int z := e
        subst e
        unfold slOf
        rw [h1]
        exact ⟨rfl, hb⟩
      have nl2 : H p = none := by
        cases hh : H p with
        | none => rfl
        | some o =>
          by_cases c1 : p = S
          · obtain ⟨c, k, m, h1, h2, r⟩ := st2
            rw [c1, h1] at np
            cases np
          · by_cases c2 : p = C
            · obtain ⟨c, k, m, h1, h2, r⟩ := st2
              rw [c2, h2] at np
              cases np
            · rw [m2 _ _ (m1 _ _ hh c1 c2) c1 c2] at np
              cases np
      exact q _ p (slOf kvs) (m1.trans (m2.trans (Mod.of (same_new np)))) (st2.same (same_new np)) nl2 ⟨kvs, upd_same, hkl, hkn, fun n hn => (sm n hn).1⟩ fun n hn => (sm n hn).2
end
end K13
namespace K13
open PySem PySem.Spec PyProof.Rows L2 GL
section
variable {P : Program} {w : World} {K : PySem.W.Frag} {mg : Str → Option Value} {base : Heap}
theorem ok_is_number (T : Tx K mg) : FnOk P w K mg base CX0 1 T.a_is_number T.fd_is_number P_is_number spIsNumber := by
  refine T.F_is_number.ok sc_is_number (fun vs H Q E h => ?_) (fun cdv A outer s H vs Q E hr h => ?_)
  · obtain ⟨z, rfl, _⟩ := h
    rfl
  · obtain ⟨z, rfl, q⟩ := h
    refine ⟨_, (pss_one (ps_ret (pe_and (pe_callB call_isi (by rfl) T.m_isinstance (by decide +kernel) (pa_cons (pv 0) (pa_cons (pe_bltn (v := .ty "int") (by rfl) T.m_int (by decide +kernel) rfl) pa_nil))) (pe_one (pe_not (pe_callB call_isi (by rfl) T.m_isinstance (by decide +kernel) (pa_cons (pv 0) (pa_cons (pe_bltn (v := .ty "bool") (by rfl) T.m_bool (by decide +kernel) rfl) pa_nil)))))))), ?_⟩
    refine ⟨_, rfl, _, _, _, _, true, rfl, .ty _, .base (.int z), kit_ty (by decide +kernel), true, rfl, ?_⟩
    exact ⟨_, rfl, _, _, _, _, false, rfl, .ty _, .base (.int z), kit_ty (by decide +kernel), false, rfl, q⟩
theorem ok_is_name (T : Tx K mg) : FnOk P w K mg base CX0 1 T.a_is_name T.fd_is_name P_is_name spIsName := by
  refine T.F_is_name.ok sc_is_name (fun vs H Q E h => ?_) (fun cdv A outer s H vs Q E hr h => ?_)
  · obtain ⟨z, rfl, _⟩ := h
    rfl
  · obtain ⟨z, rfl, hz, q⟩ := h
    refine ⟨_, (pss_cons (ps_if (PW.pt (pw_or (pt_not (pt_val (pe_callB call_isi (by rfl) T.m_isinstance (by decide +kernel) (pa_cons (pv 0) (pa_cons (pe_bltn (v := .ty "str") (by rfl) T.m_str (by decide +kernel) rfl) pa_nil))))) (pw_or1 (pt_not (pt_chain op_le op_le pe_int (pe_callB call_len_str (by rfl) T.m_len (by decide +kernel) (pa_cons (pv 0) pa_nil)) (pe_glob (v := .int 8) rfl T.g_LONGEST_NAME ⟨_, rfl⟩))))))
       (pss_one (ps_ret pe_bl))
       pss_nil)
      (pss_one (ps_ret (pe_callB (cr_all rfl) (by rfl) T.m_all (by decide +kernel) (pa_cons (pe_lc (own := [("sign", 1)]) (g := gName 1) (tt := tYes) rfl sc_is_name.nd (pi_str (pv 0)) (blkOk_by (N := N_is_name) (sc := defScope s_is_name) (by decide +kernel)) (fun _ _ _ _ _ => pg_name (i := 1) sc_is_name.nd rfl (Or.inl rfl)) (fun _ _ _ _ _ => pts_nil) (fun _ _ _ _ _ => (pe_cmpR op_in_sign (pv 1) (pe_glob (v := .str "abcdefghijklmnopqrstuvwxyz") rfl T.g_LETTERS ⟨_, rfl⟩) (by rfl)))) pa_nil))))), ?_⟩
    have l1 := hz.len1
    have l8 := hz.len
    have h1 : decide ((1 : Int) ≤ (z.length : Int)) = true := decide_eq_true (by omega)
    have h2 : decide ((z.length : Int) ≤ 8) = true := decide_eq_true (by omega)
    refine ⟨_, rfl, _, _, _, _, true, rfl, .ty _, .base (.str z), kit_ty (by decide +kernel), true, rfl, ?_⟩
    refine ⟨_, rfl, z, rfl, small_sz (by omega), _, _, rfl, rfl, _, rfl, ?_⟩
    rw [h1]
    refine ⟨_, _, rfl, rfl, _, rfl, ?_⟩
    rw [h2]
    refine ⟨_, rfl, _, rfl, fun D nD => ?_⟩
    refine lc_it (walk_str (z := z)) (fun j H1 => Same H H1 ∧ H1 D = some (.lst ((List.replicate j true).map V.bl))) ⟨same_new nD, upd_same⟩ (fun _ _ _ _ => trivial) (fun j x H1 H2 hj hP hY => ?_) (fun H1 hP => ?_)
    · obtain ⟨sm, hD⟩ := hP
      obtain ⟨rfl, c, hc, rfl⟩ := hY
      have hj8 : j < 8 := by have : z.cps.size = z.length := rfl
                             omega
      have hcm : c ∈ abc.cps.toList := abc_mem.mpr (hz.2.2 c (by rw [← Array.getElem?_toList] at hc; exact List.mem_of_getElem? hc))
      refine ⟨rfl, _, rfl, c, abc, rfl, rfl, _, hD, by rw [List.length_map, List.length_replicate]; exact small_lt (by omega), sm.own nD, ?_⟩
      rw [upd_same, decide_eq_true hcm, List.replicate_succ', List.map_append]
      rfl
    · obtain ⟨sm, hD⟩ := hP
      refine ⟨D, _, rfl, SqL.of hD, ?_⟩
      rw [all_rep]
      exact q _ sm
theorem ok_is_names (T : Tx K mg) : FnOk P w K mg base CX0 2 T.a_is_names T.fd_is_names P_is_names spIsNames := by
  refine T.F_is_names.ok sc_is_names (fun vs H Q E h => ?_) (fun cdv A outer s H vs Q E hr h => ?_)
  · obtain ⟨c, a, ns, rfl, _⟩ := h
    rfl
  · obtain ⟨c, a, ns, rfl, ha, g, q⟩ := h
    refine ⟨_, (pss_cons (ps_if (PW.pt (pw_or (pt_not (pt_val (pe_callB call_isiT (by rfl) T.m_isinstance (by decide +kernel) (pa_cons (pv 0) (pa_cons (pe_tup (pa_cons (pe_bltn (v := .ty "list") (by rfl) T.m_list (by decide +kernel) rfl) (pa_cons (pe_bltn (v := .ty "tuple") (by rfl) T.m_tuple (by decide +kernel) rfl) pa_nil))) pa_nil))))) (pw_or1 (pt_not (pt_chain op_le op_le (pe_glob (v := .int 2) rfl T.g_FEWEST ⟨_, rfl⟩) (pe_callB call_len_seq (by rfl) T.m_len (by decide +kernel) (pa_cons (pv 0) pa_nil)) (pe_glob (v := .int 12) rfl T.g_MOST ⟨_, rfl⟩))))))
       (pss_one (ps_ret pe_bl))
       pss_nil)
      (pss_cons (ps_if (pt_not (pt_val (pe_callB (cr_all rfl) (by rfl) T.m_all (by decide +kernel) (pa_cons (pe_lc (own := [("name", 1)]) (g := gName 1) (tt := tYes) rfl sc_is_names.nd (pi_either (pi_list (pv 0)) (pi_tup (pv 0))) (blkOk_by (N := N_is_names) (sc := defScope s_is_names) (by decide +kernel)) (fun _ _ _ _ _ => pg_name (i := 1) sc_is_names.nd rfl (Or.inl rfl)) (fun _ _ _ _ _ => pts_nil) (fun _ _ _ _ _ => (pe_call (ok_is_name T) (hr.mono (by decide)) (by rfl) T.g_is_name T.F_is_name.kp T.b_is_name .nil pass0 (pa_cons (pv 1) pa_nil)))) pa_nil))))
       (pss_one (ps_ret pe_bl))
       pss_nil)
      (pss_one (ps_ret (pe_cmpR op_eq (pe_lenSetS rfl T.m_len T.m_set (pv 0)) (pe_callB call_len_seq (by rfl) T.m_len (by decide +kernel) (pa_cons (pv 0) pa_nil)) (nomark _)))))), ?_⟩
    have l2 := g.two
    have l12 := g.twelve
    have h1 : decide ((2 : Int) ≤ ((ns.map V.str).length : Int)) = true := decide_eq_true (by rw [List.length_map]; omega)
    have h2 : decide (((ns.map V.str).length : Int) ≤ 12) = true := decide_eq_true (by rw [List.length_map]; omega)
    refine ⟨_, rfl, (by show 2 ≤ sizeLine; decide), fun t nt => ?_⟩
    cases c
    · have ha1 := SqAt.same ha (same_new (o := .tup [.ty "list", .ty "tuple"]) nt)
      refine ⟨_, t, _, _, _, true, rfl, upd_same, .cons (.ty _) (.cons (.ty _) .nil), SqAt.tyl ha1, kitAny_cons (b := true) (kit_ty (by decide +kernel)) (fun h => nomatch h) (fun _ => rfl), true, rfl, ?_⟩
      refine ⟨_, rfl, a, _, rfl, .inl (SqAt.l ha1), _, _, rfl, rfl, _, rfl, ?_⟩
      rw [h1]
      refine ⟨_, _, rfl, rfl, _, rfl, ?_⟩
      rw [h2]
      refine .inl ⟨_, rfl, a, rfl, ⟨_, SqAt.l ha1⟩, fun D nD => ?_⟩
      refine lc_list (K := K) (a := a) (xs := ns.map V.str) (fun j H1 => Same H H1 ∧ H1 D = some (.lst ((List.replicate j true).map V.bl))) ⟨(same_new nt).trans (same_new nD), upd_same⟩ (fun j H1 _ hP => SqAt.l (ha.same hP.1)) (fun j x H1 hx hP => ?_) (fun H1 hP => ?_)
      · obtain ⟨sm, hD⟩ := hP
        obtain ⟨y, hy, rfl⟩ := of_strs_at hx
        have hj := (List.getElem?_eq_some_iff.mp hy).1
        refine ⟨rfl, _, rfl, y, rfl, g.ok y (List.mem_of_getElem? hy), fun H2 sm2 => ?_⟩
        refine ⟨_, sm2 _ _ hD, by rw [List.length_map, List.length_replicate]; exact small_lt (by omega), (sm.trans sm2).own ((same_new nt).free nD), ?_⟩
        rw [upd_same, List.replicate_succ', List.map_append]
        rfl
      · obtain ⟨sm, hD⟩ := hP
        refine ⟨D, _, rfl, SqL.of hD, ?_⟩
        rw [all_rep]
        refine ⟨_, rfl, ?_⟩
        refine ⟨_, rfl, a, ns, rfl, .inl (SqAt.l (ha.same sm)), by omega, _, rfl, a, _, rfl, .inl (SqAt.l (ha.same sm)), rfl, ?_⟩
        rw [GSet.firsts_of_nodup g.nd, List.length_map, decide_eq_true rfl]
        exact q _ sm
    · have ha1 := SqAt.same ha (same_new (o := .tup [.ty "list", .ty "tuple"]) nt)
      refine ⟨_, t, _, _, _, true, rfl, upd_same, .cons (.ty _) (.cons (.ty _) .nil), SqAt.tyt ha1, kitAny_cons (b := false) (kit_ty (by decide +kernel)) (fun _ => kitAny_cons (b := true) (kit_ty (by decide +kernel)) (fun h => nomatch h) (fun _ => rfl)) (fun h => nomatch h), true, rfl, ?_⟩
      refine ⟨_, rfl, a, _, rfl, .inr (SqAt.t ha1), _, _, rfl, rfl, _, rfl, ?_⟩
      rw [h1]
      refine ⟨_, _, rfl, rfl, _, rfl, ?_⟩
      rw [h2]
      refine .inr ⟨_, rfl, a, rfl, ⟨_, SqAt.t ha1⟩, fun D nD => ?_⟩
      refine lc_tup (K := K) (a := a) (xs := ns.map V.str) (fun j H1 => Same H H1 ∧ H1 D = some (.lst ((List.replicate j true).map V.bl))) ⟨(same_new nt).trans (same_new nD), upd_same⟩ (fun j H1 _ hP => SqAt.t (ha.same hP.1)) (fun j x H1 hx hP => ?_) (fun H1 hP => ?_)
      · obtain ⟨sm, hD⟩ := hP
        obtain ⟨y, hy, rfl⟩ := of_strs_at hx
        have hj := (List.getElem?_eq_some_iff.mp hy).1
        refine ⟨rfl, _, rfl, y, rfl, g.ok y (List.mem_of_getElem? hy), fun H2 sm2 => ?_⟩
        refine ⟨_, sm2 _ _ hD, by rw [List.length_map, List.length_replicate]; exact small_lt (by omega), (sm.trans sm2).own ((same_new nt).free nD), ?_⟩
        rw [upd_same, List.replicate_succ', List.map_append]
        rfl
      · obtain ⟨sm, hD⟩ := hP
        refine ⟨D, _, rfl, SqL.of hD, ?_⟩
        rw [all_rep]
        refine ⟨_, rfl, ?_⟩
        refine ⟨_, rfl, a, ns, rfl, .inr (SqAt.t (ha.same sm)), by omega, _, rfl, a, _, rfl, .inr (SqAt.t (ha.same sm)), rfl, ?_⟩
        rw [GSet.firsts_of_nodup g.nd, List.length_map, decide_eq_true rfl]
        exact q _ sm
theorem ok_check_names (T : Tx K mg) : FnOk P w K mg base CX0 3 T.a_check_names T.fd_check_names P_check_names spChkNames := by
  refine T.F_check_names.ok sc_check_names (fun vs H Q E h => ?_) (fun cdv A outer s H vs Q E hr h => ?_)
  · obtain ⟨c, a, ns, rfl, _⟩ := h
    rfl
  · obtain ⟨c, a, ns, rfl, ha, g, q⟩ := h
    refine ⟨_, (pss_one (ps_if (pt_not (pt_val (pe_call (ok_is_names T) (hr.mono (by decide)) (by rfl) T.g_is_names T.F_is_names.kp T.b_is_names .nil pass0 (pa_cons (pv 0) pa_nil))))
       (pss_one ps_never)
       pss_nil)), ?_⟩
    exact ⟨_, rfl, c, a, ns, rfl, ha, g, fun H1 sm1 => ⟨true, rfl, q _ sm1⟩⟩
theorem ok_check_name (T : Tx K mg) : FnOk P w K mg base CX0 1 T.a_check_name T.fd_check_name P_check_name spChkName := by
  refine T.F_check_name.ok sc_check_name (fun vs H Q E h => ?_) (fun cdv A outer s H vs Q E hr h => ?_)
  · obtain ⟨c, a, ns, x, rfl, _⟩ := h
    rfl
  · obtain ⟨c, a, ns, x, rfl, ha, hx, q⟩ := h
    refine ⟨_, (pss_one (ps_if (pt_cmpR op_notIn_seq (pv 1) (pv 0) (by rfl))
       (pss_one ps_never)
       pss_nil)), ?_⟩
    refine ⟨_, rfl, _, rfl, a, _, rfl, ha.seq, rfl, flat_strs ns, _, rfl, ?_⟩
    show if (!inV (.str x) (ns.map V.str)) = true then _ else _
    rw [inV_strs, decide_eq_true hx]
    exact iteF q
theorem ok_is_slips (T : Tx K mg) : FnOk P w K mg base CX0 2 T.a_is_slips T.fd_is_slips P_is_slips spIsSlips := by
  refine T.F_is_slips.ok sc_is_slips (fun vs H Q E h => ?_) (fun cdv A outer s H vs Q E hr h => ?_)
  · obtain ⟨a, d, ns, sl, rfl, _⟩ := h
    rfl
  · obtain ⟨a, d, ns, sl, rfl, ha, hd, hl, q⟩ := h
    have hu := hu_of hr
    refine ⟨_, (pss_cons (ps_if (PW.pt (pw_or (pt_not (pt_val (pe_callB call_isi (by rfl) T.m_isinstance (by decide +kernel) (pa_cons (pv 1) (pa_cons (pe_bltn (v := .ty "dict") (by rfl) T.m_dict (by decide +kernel) rfl) pa_nil))))) (pw_or1 (pt_cmpR op_ne (pe_callB call_lenD (by rfl) T.m_len (by decide +kernel) (pa_cons (pv 1) pa_nil)) (pe_callB call_len_seq (by rfl) T.m_len (by decide +kernel) (pa_cons (pv 0) pa_nil)) (nomark _)))))
       (pss_one (ps_ret pe_bl))
       pss_nil)
      (pss_one (ps_ret (pe_callB (cr_all rfl) (by rfl) T.m_all (by decide +kernel) (pa_cons (pe_lc (own := [("name", 2)]) (g := gName 2) (tt := tYes) rfl sc_is_slips.nd (pi_list (pv 0)) (blkOk_by (N := N_is_slips) (sc := defScope s_is_slips) (by decide +kernel)) (fun _ _ _ _ _ => pg_name (i := 2) sc_is_slips.nd rfl (Or.inl rfl)) (fun _ _ _ _ _ => pts_nil) (fun _ _ _ _ _ => (pe_and (pe_cmp (pc_din hu (pv 2) (pv 1)) rfl) (pe_one (pe_call (ok_is_number T) (hr.mono (by decide)) (by rfl) T.g_is_number T.F_is_number.kp T.b_is_number .nil pass0 (pa_cons (pe_dget hu (pv 1) (pv 2) (fun _ _ => rfl)) pa_nil)))))) pa_nil))))), ?_⟩
    obtain ⟨kvs, k1, k2, k3, k4⟩ := hd
    refine ⟨_, rfl, _, _, _, _, true, rfl, .ty _, .base (.dK k1), kit_ty (by decide +kernel), true, rfl, ?_⟩
    refine ⟨_, rfl, d, kvs, rfl, k1, _, rfl, a, _, rfl, .inl (SqL.of ha), rfl, _, rfl, ?_⟩
    rw [List.length_map, k2, decide_eq_true rfl]
    refine ⟨_, rfl, a, rfl, ⟨_, SqL.of ha⟩, fun D nD => ?_⟩
    refine lc_list (K := K) (a := a) (xs := ns.map V.str) (fun j H1 => Same H H1 ∧ H1 D = some (.lst ((List.replicate j true).map V.bl))) ⟨same_new nD, upd_same⟩ (fun j H1 _ hP => SqL.of (hP.1 _ _ ha)) (fun j x H1 hx hP => ?_) (fun H1 hP => ?_)
    · obtain ⟨sm, hD⟩ := hP
      obtain ⟨y, hy, rfl⟩ := of_strs_at hx
      have hj := (List.getElem?_eq_some_iff.mp hy).1
      have hv := k4 y (List.mem_of_getElem? hy)
      refine ⟨rfl, _, rfl, _, rfl, d, _, rfl, DGet.k (k := Sum.inr y) (sm _ _ k1), true, by rw [hv]; rfl, ?_⟩
      refine ⟨_, rfl, _, rfl, d, .int (sl y), rfl, by rw [← hv]; exact DGet.k (k := Sum.inr y) (sm _ _ k1), sl y, rfl, ?_⟩
      refine ⟨_, hD, by rw [List.length_map, List.length_replicate]; exact small_lt (by omega), sm.own nD, ?_⟩
      rw [upd_same, List.replicate_succ', List.map_append]
      rfl
    · obtain ⟨sm, hD⟩ := hP
      refine ⟨D, _, rfl, SqL.of hD, ?_⟩
      rw [all_rep]
      exact q _ sm
theorem ok_listed_behind (T : Tx K mg) : FnOk P w K mg base CX0 1 T.a_listed_behind T.fd_listed_behind P_listed_behind spBehind := by
  refine T.F_listed_behind.ok sc_listed_behind (fun vs H Q E h => ?_) (fun cdv A outer s H vs Q E hr h => ?_)
  · obtain ⟨c, a, ns, x, rfl, _⟩ := h
    rfl
  · obtain ⟨c, a, ns, b, rfl, ha, hl, hb, q⟩ := h
    have hib := idx_lt hb
    have hrl : ns.length = (ns.drop (ns.idxOf b + 1)).length + (ns.take (ns.idxOf b + 1)).length := by rw [List.length_drop, List.length_take]; omega
    cases c
    · replace ha : H a = some (.lst (ns.map V.str)) := ha
      refine ⟨_, (pss_cons (ps_set (i := 2) sc_listed_behind.nd rfl (.inl rfl) (pe_op op_add (pe_bm PySem.F.plainAttrs_list PySem.F.slot_list_index PySem.F.type_list_index mt_index (pv 0) (pa_cons (pv 1) pa_nil)) pe_int))
      (pss_one (ps_ret (pe_op op_cat (pe_slice sl_list (pv 0) (po_some (pv 2)) po_none) (pe_slice sl_list (pv 0) po_none (po_some (pv 2))))))), ?_⟩
      refine ⟨_, rfl, .inl ⟨rfl, _, SqL.of ha⟩, _, rfl, a, _, _, ns.idxOf b, .str b, rfl, rfl, SqL.of ha, rfl, flat_strs ns, strs_at (idx_at hb), beq_self_eq_true _, fun m z hm hz => ?_, ?_⟩
      · obtain ⟨y, hy, rfl⟩ := of_strs_at hz
        exact beq_eq_false_iff_ne.mpr fun e => idx_first hm (e ▸ hy)
      refine ⟨_, _, rfl, rfl, _, rfl, _, rfl, _, rfl, a, _, rfl, SqL.of ha, fun p1 n1 => ?_⟩
      rw [cut_drop_s]
      refine ⟨_, rfl, _, rfl, _, rfl, a, _, rfl, SqL.of (same_new n1 _ _ ha), fun p2 n2 => ?_⟩
      rw [show (some (((ns.idxOf b : Nat) : Int) + 1)) = some ((ns.idxOf b + 1 : Nat) : Int) from rfl, cut_take_s]
      have n21 : p2 ≠ p1 := fun e => by rw [e, upd_same] at n2; cases n2
      refine ⟨p1, p2, _, _, rfl, rfl, by rw [upd_ne n21.symm, upd_same], upd_same, by rw [← List.length_append, ← List.map_append]; exact len_s (by have : (rot ns b).length = ns.length := rot_len; unfold rot at this; omega), fun p3 n3 => ?_⟩
      rw [← List.map_append]
      exact q _ p3 (((same_new n1).trans (same_new n2)).trans (same_new n3)) upd_same
    · have ha : TupF H a (ns.map V.str) := ha
      refine ⟨_, (pss_cons (ps_set (i := 2) sc_listed_behind.nd rfl (.inl rfl) (pe_op op_add (pe_bmF PySem.F.slot_tuple_index PySem.F.type_tuple_index mt_tup_index (pv 0) (pa_cons (pv 1) pa_nil)) pe_int))
      (pss_one (ps_ret (pe_op op_catF (pe_slice sl_tupF (pv 0) (po_some (pv 2)) po_none) (pe_slice sl_tupF (pv 0) po_none (po_some (pv 2))))))), ?_⟩
      refine ⟨_, rfl, ⟨a, _, rfl, ha⟩, _, rfl, a, ns, b, ns.idxOf b, rfl, rfl, ha.sq, idx_at hb, fun m hm e => idx_first hm e, ?_⟩
      refine ⟨_, _, rfl, rfl, _, rfl, _, rfl, _, rfl, ?_⟩
      dsimp only [tNoPart]
      refine slF ha fun H1 p1 sm1 hp1 => ?_
      rw [cut_drop_s] at hp1
      refine ⟨_, rfl, _, rfl, _, rfl, ?_⟩
      dsimp only [tNoPart]
      refine slF (ha.same sm1) fun H2 p2 sm2 hp2 => ?_
      rw [show (some (((ns.idxOf b : Nat) : Int) + 1)) = some ((ns.idxOf b + 1 : Nat) : Int) from rfl, cut_take_s] at hp2
      refine catF (hp1.same sm2) hp2 (by rw [← List.length_append, ← List.map_append]; exact len_s (by have : (rot ns b).length = ns.length := rot_len; unfold rot at this; omega)) fun H3 p3 sm3 hp3 => ?_
      rw [← List.map_append] at hp3
      exact q _ p3 ((sm1.trans sm2).trans sm3) hp3
theorem ok_who_sit (T : Tx K mg) : FnOk P w K mg base CX0 2 T.a_who_sit T.fd_who_sit P_who_sit spSit := by
  refine T.F_who_sit.ok sc_who_sit (fun vs H Q E h => ?_) (fun cdv A outer s H vs Q E hr h => ?_)
  · obtain ⟨c, a, g, ns, found, x, rfl, _⟩ := h
    rfl
  · obtain ⟨c, a, g, ns, found, x, rfl, ha, hg, hl, hx, q⟩ := h
    refine ⟨_, (pss_one (ps_ret (pe_lc (own := [("name", 2)]) (g := gName 2)  rfl sc_who_sit.nd (pi_either (pi_list (pe_call (ok_listed_behind T) (hr.mono (by decide)) (by rfl) T.g_listed_behind T.F_listed_behind.kp T.b_listed_behind .nil pass0 (pa_cons (pv 0) (pa_cons (pe_ix ix_seq (pv 1) (pe_un un_neg pe_int) (fun _ _ => rfl)) pa_nil)))) (pi_tup (pe_call (ok_listed_behind T) (hr.mono (by decide)) (by rfl) T.g_listed_behind T.F_listed_behind.kp T.b_listed_behind .nil pass0 (pa_cons (pv 0) (pa_cons (pe_ix ix_seq (pv 1) (pe_un un_neg pe_int) (fun _ _ => rfl)) pa_nil))))) (blkOk_by (N := N_who_sit) (sc := defScope s_who_sit) (by decide +kernel)) (fun _ _ _ _ _ => pg_name (i := 2) sc_who_sit.nd rfl (Or.inl rfl)) (fun _ _ _ _ _ => pts_one (pt_cmpR (show OpR _ (compareOp .NotIn) (rIn K true) from op_notIn_seq) (pv 2) (pv 1) (by rfl))) (fun _ _ _ _ _ => (pv 2))))), ?_⟩
    cases c
    · refine .inl ⟨_, rfl, _, rfl, 1, rfl, ixSeq hg (last_s found x) ⟨false, a, ns, x, rfl, ha, hl, hx, fun H1 p sm1 hp => ?_⟩⟩
      refine ⟨p, rfl, ⟨_, SqAt.l hp⟩, fun D nD => ?_⟩
      refine lc_list (K := K) (a := p) (xs := (rot ns x).map V.str) (fun j H2 => Same H1 H2 ∧ H2 D = some (.lst ((((rot ns x).take j).filter fun y => !decide (y ∈ found ++ [x])).map V.str))) ⟨same_new nD, upd_same⟩ (fun j H2 _ hP => SqAt.l (hp.same hP.1)) (fun j v H2 hv hP => ?_) (fun H2 hP => ?_)
      · obtain ⟨sm2, hD⟩ := hP
        obtain ⟨y, hy, rfl⟩ := of_strs_at hv
        have hj := (List.getElem?_eq_some_iff.mp hy).1
        rw [rot_len] at hj
        refine ⟨rfl, _, rfl, _, rfl, g, _, rfl, ((hg.same sm1).same sm2).seq, rfl, flat_strs _, _, rfl, ?_⟩
        show if (!inV (.str y) ((found ++ [x]).map V.str)) = true then _ else _
        rw [inV_strs]
        by_cases hxy : y ∈ found ++ [x]
        · rw [decide_eq_true hxy]
          refine iteF ⟨sm2, ?_⟩
          rw [hD, take_snoc hy, List.filter_append, List.filter_cons, decide_eq_true hxy]
          simp
        · rw [decide_eq_false hxy]
          refine ⟨_, rfl, _, hD, ?_, sm2.own nD, ?_⟩
          · rw [List.length_map]
            refine small_lt (Nat.lt_of_le_of_lt (List.length_filter_le _ _) ?_)
            rw [List.length_take]
            omega
          · rw [upd_same, take_snoc hy, List.filter_append, List.filter_cons, decide_eq_false hxy]
            simp
      · obtain ⟨sm2, hD⟩ := hP
        rw [List.length_map, List.take_length] at hD
        exact q _ D (sm1.trans sm2) (sm1.free nD) hD
    · refine .inr ⟨_, rfl, _, rfl, 1, rfl, ixSeq hg (last_s found x) ⟨true, a, ns, x, rfl, ha, hl, hx, fun H1 p sm1 hp => ?_⟩⟩
      refine ⟨p, rfl, ⟨_, SqAt.t hp⟩, fun D nD => ?_⟩
      refine lc_tup (K := K) (a := p) (xs := (rot ns x).map V.str) (fun j H2 => Same H1 H2 ∧ H2 D = some (.lst ((((rot ns x).take j).filter fun y => !decide (y ∈ found ++ [x])).map V.str))) ⟨same_new nD, upd_same⟩ (fun j H2 _ hP => SqAt.t (hp.same hP.1)) (fun j v H2 hv hP => ?_) (fun H2 hP => ?_)
      · obtain ⟨sm2, hD⟩ := hP
        obtain ⟨y, hy, rfl⟩ := of_strs_at hv
        have hj := (List.getElem?_eq_some_iff.mp hy).1
        rw [rot_len] at hj
        refine ⟨rfl, _, rfl, _, rfl, g, _, rfl, ((hg.same sm1).same sm2).seq, rfl, flat_strs _, _, rfl, ?_⟩
        show if (!inV (.str y) ((found ++ [x]).map V.str)) = true then _ else _
        rw [inV_strs]
        by_cases hxy : y ∈ found ++ [x]
        · rw [decide_eq_true hxy]
          refine iteF ⟨sm2, ?_⟩
          rw [hD, take_snoc hy, List.filter_append, List.filter_cons, decide_eq_true hxy]
          simp
        · rw [decide_eq_false hxy]
          refine ⟨_, rfl, _, hD, ?_, sm2.own nD, ?_⟩
          · rw [List.length_map]
            refine small_lt (Nat.lt_of_le_of_lt (List.length_filter_le _ _) ?_)
            rw [List.length_take]
            omega
          · rw [upd_same, take_snoc hy, List.filter_append, List.filter_cons, decide_eq_false hxy]
            simp
      · obtain ⟨sm2, hD⟩ := hP
        rw [List.length_map, List.take_length] at hD
        exact q _ D (sm1.trans sm2) (sm1.free nD) hD
end
end K13
namespace K13
open PySem PySem.Spec PyProof.Rows L2 GL
section
variable {P : Program} {w : World} {K : PySem.W.Frag} {mg : Str → Option Value} {base : Heap}
theorem dc_list {K : PySem.W.Frag} {a : Addr} {xs : List V} {g : TG} {tt : TT} {tk tv : TE} {vs : List Nat} {σ : L2.St} {H1 : Hp} {D : Addr} {Qd : Hp → Prop} (Pv : Nat → Hp → Prop) (h0 : Pv 0 (upd H1 D (.dK []))) (hl : ∀ i H, i ≤ xs.length → Pv i H → SqL K H a xs)
    (hs : ∀ i x H, xs[i]? = some x → Pv i H → g x (wipe σ vs) H fun σ2 H2 => wipe σ2 vs = wipe σ vs ∧ tt σ2 H2 fun b H3 =>
      if b = true then tk σ2 H3 fun y H4 => tv σ2 H4 fun z H5 => ∃ kvs k, y = kV k ∧ H5 D = some (.dK kvs) ∧ kvs.length < sizeLine ∧ Pv (i + 1) (upd H5 D (.dK (putK kvs k z))) else Pv (i + 1) H3) (hd : ∀ H, Pv xs.length H → Qd H) :
    ∃ W : Nat → Nat → Hp → Prop, (∃ m, W 0 m (upd H1 D (.dK []))) ∧ ∀ i m H, W i m H →
      ((Itl K a).stop i H ∧ Qd H) ∨ ((Itl K a).go i H ∧ ∃ Nx : Hp → Prop, (∀ H', Nx H' → ∃ m', m' < m ∧ W (i + 1) m' H') ∧ ∀ x H', (Itl K a).yld i H x H' → g x (wipe σ vs) H' fun σ2 H2 => wipe σ2 vs = wipe σ vs ∧ tt σ2 H2 fun b H3 =>
        if b = true then tk σ2 H3 fun y H4 => tv σ2 H4 fun z H5 => ∃ kvs k, y = kV k ∧ H5 D = some (.dK kvs) ∧ kvs.length < sizeLine ∧ Nx (upd H5 D (.dK (putK kvs k z))) else Nx H3) := by
  refine ⟨fun i m H => m = xs.length - i ∧ i ≤ xs.length ∧ Pv i H, ⟨_, rfl, Nat.zero_le _, h0⟩, fun i m H hW => ?_⟩
  obtain ⟨rfl, hi, p⟩ := hW
  have q := hl i H hi p
  rcases Nat.lt_or_ge i xs.length with lt | ge
  · exact .inr ⟨⟨xs, xs[i], q, List.getElem?_eq_getElem lt⟩, Pv (i + 1), fun H' p' => ⟨_, by omega, rfl, lt, p'⟩, fun x H' y => by obtain ⟨rfl, y⟩ := y; exact hs i x _ (y xs q) p⟩
  · obtain rfl : i = xs.length := by omega
    exact .inl ⟨⟨xs, q, Nat.le_refl _⟩, hd H p⟩
theorem ok_Ring_init (T : Tx K mg) : FnOk P w K mg base CX0 4 T.a_Ring_init T.fd_Ring_init P_Ring_init (spInit T.a_Ring) := by
  refine T.F_Ring_init.ok sc_Ring_init (fun vs H Q E h => ?_) (fun cdv A outer s H vs Q E hr h => ?_)
  · obtain ⟨p, dx, a, d, ns, sl, rfl, _⟩ := h
    rfl
  · obtain ⟨p, dx, a, d, ns, sl, rfl, hp, ha, hd, g, q⟩ := h
    have hu := hu_of hr
    refine ⟨_, (pss_cons (ps_expr (pe_call (ok_check_names T) (hr.mono (by decide)) (by rfl) T.g_check_names T.F_check_names.kp T.b_check_names .nil pass0 (pa_cons (pv 1) pa_nil)))
      (pss_cons (ps_if (pt_not (pt_val (pe_call (ok_is_slips T) (hr.mono (by decide)) (by rfl) T.g_is_slips T.F_is_slips.kp T.b_is_slips .nil pass0 (pa_cons (pv 1) (pa_cons (pv 2) pa_nil)))))
       (pss_one ps_never)
       pss_nil)
      (pss_cons (ps_fld (pv 0) (pe_callTy call_list_of (by rfl) T.m_list (by decide +kernel) (pa_cons (pv 1) pa_nil)) rfl)
      (pss_one (ps_fld (pv 0) (pe_dc (own := [("name", 3)]) (g := gName 3) (tt := tYes) rfl sc_Ring_init.nd (pi_list (pv 1)) (blkOk_by (N := N_Ring_init) (sc := defScope s_Ring_init) (by decide +kernel)) (fun _ _ _ _ _ => pg_name (i := 3) sc_Ring_init.nd rfl (Or.inl rfl)) (fun _ _ _ _ _ => pts_nil) (fun _ _ _ _ _ => (pv 3)) (fun _ _ _ _ _ => (pe_dget hu (pv 2) (pv 3) (fun _ _ => rfl)))) rfl))))), ?_⟩
    have l12 := g.twelve
    refine ⟨_, rfl, false, a, ns, rfl, ha, g, fun H1 sm1 => ?_⟩
    refine ⟨_, rfl, _, rfl, a, d, ns, sl, rfl, sm1 _ _ ha, hd.same sm1, by omega, fun H2 sm2 => ⟨true, rfl, ?_⟩⟩
    have sm12 := sm1.trans sm2
    refine ⟨_, rfl, a, _, rfl, .inl (SqL.of (sm12 _ _ ha)), fun nl nnl => ?_⟩
    have hp3 := same_new (o := .lst (ns.map V.str)) nnl _ _ (sm12 _ _ hp)
    have nlp : nl ≠ p := fun e => by rw [e, sm12 _ _ hp] at nnl; cases nnl
    refine ⟨_, rfl, p, T.a_Ring, dx, _, rfl, hp3, T.cl_Ring, T.n_Ring__names, (by show 0 < 1000; decide), ?_⟩
    generalize hH4 : upd (upd H2 nl (.lst (ns.map V.str))) p (.ins T.a_Ring dx (putF "_names" (.ref nl) [])) = H4
    have keep4 : ∀ b o, H b = some o → b ≠ p → H4 b = some o := fun b o e hb => by
      rw [← hH4, upd_ne hb, upd_ne (ne_of_none (sm12 _ _ e) nnl)]
      exact sm12 _ _ e
    have hp4 : H4 p = some (.ins T.a_Ring dx (putF "_names" (.ref nl) [])) := by rw [← hH4, upd_same]
    have hn4 : H4 nl = some (.lst (ns.map V.str)) := by rw [← hH4, upd_ne nlp, upd_same]
    have ap : a ≠ p := ne_of ha hp (fun z => nomatch z)
    obtain ⟨kvs, k1, k2, k3, k4⟩ := hd
    have dp : d ≠ p := ne_of k1 hp (fun z => nomatch z)
    have ha4 := keep4 _ _ ha ap
    have hd4 := keep4 _ _ k1 dp
    refine ⟨_, rfl, a, rfl, ⟨_, SqL.of ha4⟩, fun D nD => ?_⟩
    refine dc_list (K := K) (a := a) (xs := ns.map V.str) (fun j H5 => Same H4 H5 ∧ H5 D = some (.dK ((ns.take j).map fun n => ((Sum.inr n : Key), V.int (sl n))))) ⟨same_new nD, upd_same⟩ (fun j H5 _ hP => SqL.of (hP.1 _ _ ha4)) (fun j x H5 hx hP => ?_) (fun H5 hP => ?_)
    · obtain ⟨sm5, hD⟩ := hP
      obtain ⟨y, hy, rfl⟩ := of_strs_at hx
      have hj := (List.getElem?_eq_some_iff.mp hy).1
      have hv := k4 y (List.mem_of_getElem? hy)
      refine ⟨rfl, _, rfl, _, rfl, _, rfl, d, .int (sl y), rfl, by rw [← hv]; exact DGet.k (k := Sum.inr y) (sm5 _ _ hd4), _, Sum.inr y, rfl, hD, by rw [List.length_map, List.length_take]; exact small_lt (by omega), sm5.own nD, ?_⟩
      have hnew : (Sum.inr y : Key) ∉ ((ns.take j).map fun n => ((Sum.inr n : Key), V.int (sl n))).map (·.1) := fun hm => by
        rw [List.map_map] at hm
        obtain ⟨z, hz, e⟩ := List.mem_map.mp hm
        obtain rfl : z = y := Sum.inr.inj e
        obtain ⟨i, hi, ei⟩ := List.mem_iff_getElem.mp hz
        rw [List.length_take] at hi
        rw [List.getElem_take] at ei
        obtain ⟨_, e2⟩ := List.getElem?_eq_some_iff.mp hy
        have := (List.getElem_inj g.nd).mp (ei.trans e2.symm)
        omega
      rw [upd_same, putK_new _ (valV_none hnew), take_snoc hy, List.map_append]
      rfl
    · obtain ⟨sm5, hD⟩ := hP
      rw [List.length_map, List.take_length] at hD
      refine ⟨_, rfl, p, T.a_Ring, dx, _, rfl, sm5 _ _ hp4, T.cl_Ring, T.n_Ring__slips, (by show 1 < 1000; decide), ?_⟩
      have Dp : D ≠ p := fun e => by rw [e, hp4] at nD; cases nD
      have hkeys : (ns.map fun n => ((Sum.inr n : Key), V.int (sl n))).map (·.1) = ns.map Sum.inr := by rw [List.map_map]; rfl
      refine q _ (fun b o e hb => by rw [upd_ne hb]; exact sm5 _ _ (keep4 _ _ e hb)) ⟨⟨dx, nl, D, upd_same, by rw [upd_ne nlp]; exact sm5 _ _ hn4, ⟨_, by rw [upd_ne Dp]; exact hD, by rw [List.length_map], by rw [hkeys]; exact nodup_map (fun a b e => Sum.inr.inj e) g.nd, fun n hn => ?_⟩⟩, g⟩
      have hin : (Sum.inr n : Key) ∈ (ns.map fun n => ((Sum.inr n : Key), V.int (sl n))).map (·.1) := by rw [hkeys]; exact List.mem_map.mpr ⟨n, hn, rfl⟩
      obtain ⟨v, h1, h2⟩ := valV_mem hin
      rw [h1]
      obtain ⟨m, _, e⟩ := List.mem_map.mp h2
      have e1 : m = n := Sum.inr.inj (congrArg Prod.fst e)
      have e2 : V.int (sl m) = v := congrArg Prod.snd e
      rw [← e2, e1]
theorem ok_Ring_counted_on (T : Tx K mg) : FnOk P w K mg base CX0 1 T.a_Ring_counted_on T.fd_Ring_counted_on P_Ring_counted_on (spCounted T.a_Ring) := by
  refine T.F_Ring_counted_on.ok sc_Ring_counted_on (fun vs H Q E h => ?_) (fun cdv A outer s H vs Q E hr h => ?_)
  · obtain ⟨p, r, ns, row, sl, g, rfl, _⟩ := h
    rfl
  · obtain ⟨p, r, ns, row, sl, g, rfl, R, hg, hrow, hne, hl, q⟩ := h
    have hu := hu_of hr
    obtain ⟨⟨dx, nl, sd, h1, h2, kvs, k1, k2, k3, k4⟩, gd⟩ := R
    refine ⟨_, (pss_one (ps_ret (pe_ix ix_list (pv 2) (pe_op op_mod (pe_dget hu (pe_fld (pv 0) rfl) (pv 1) (fun _ _ => rfl)) (pe_callB call_len_seq (by rfl) T.m_len (by decide +kernel) (pa_cons (pv 2) pa_nil))) (fun _ _ => rfl)))), ?_⟩
    obtain ⟨j, ej, hj, hjn, hget⟩ := spot (sl g) hne
    have hpos := List.length_pos_iff.mpr hne
    refine ⟨_, rfl, _, rfl, p, T.a_Ring, dx, _, _, rfl, h1, T.cl_Ring, T.n_Ring__slips, rflds_slips nl sd, _, rfl, sd, .int (sl g), rfl, by rw [← k4 g hg]; exact DGet.k (k := Sum.inr g) k1, _, rfl, r, _, rfl, .inl (SqL.of hrow), _, _, rfl, rfl, by rw [List.length_map]; omega, ?_⟩
    rw [hjn] at q
    exact ⟨r, _, _, _, rfl, rfl, SqL.of hrow, atI_at (by rw [List.length_map]; exact ej) (strs_at hget), q⟩
def WRing (H : Hp) (p : Addr) (b : Str) (ns : List Str) (sl : Str → Int) (f : Addr) (m : Nat) (σ : L2.St) (H1 : Hp) : Prop := ∃ (found : List Str) (g : Str), m = ns.length - found.length ∧ σ = [some (.ref p), some (.str b), some (.ref f)] ∧ Same H H1 ∧
  H1 f = some (.lst ((found ++ [g]).map V.str)) ∧ g ∈ ns ∧ found.length + 1 + (sitting ns (found ++ [g]) g).length = ns.length ∧ found ++ [g] ++ nexts sl (sitting ns (found ++ [g]) g).length g (sitting ns (found ++ [g]) g) = orderOf ns sl b
theorem ok_Ring_order (T : Tx K mg) : FnOk P w K mg base CX0 3 T.a_Ring_order T.fd_Ring_order P_Ring_order (spROrder T.a_Ring) := by
  refine T.F_Ring_order.ok sc_Ring_order (fun vs H Q E h => ?_) (fun cdv A outer s H vs Q E hr h => ?_)
  · obtain ⟨p, ns, sl, b, rfl, _⟩ := h
    rfl
  · obtain ⟨p, ns, sl, b, rfl, R, hb, q⟩ := h
    refine ⟨_, (pss_cons (ps_expr (pe_call (ok_check_name T) (hr.mono (by decide)) (by rfl) T.g_check_name T.F_check_name.kp T.b_check_name .nil pass0 (pa_cons (pe_fld (pv 0) rfl) (pa_cons (pv 1) pa_nil))))
      (pss_cons (ps_set (i := 2) sc_Ring_order.nd rfl (.inl rfl) (pe_lst (pa_cons (pv 1) pa_nil)))
      (pss_cons (ps_while PassesOwn.never (pt_cmpR op_lt (pe_callB call_len_seq (by rfl) T.m_len (by decide +kernel) (pa_cons (pv 2) pa_nil)) (pe_callB call_len_seq (by rfl) T.m_len (by decide +kernel) (pa_cons (pe_fld (pv 0) rfl) pa_nil)) (nomark _))
       (pss_one (ps_expr (pe_bm PySem.F.plainAttrs_list PySem.F.slot_list_append PySem.F.type_list_append mt_append (pv 2) (pa_cons (pe_meth (pv 0) T.cl_Ring T.mt_Ring_counted_on (ok_Ring_counted_on T) (hr.mono (by decide)) T.b_Ring_counted_on .nil pass0 (pa_cons (pe_ix ix_list (pv 2) (pe_un un_neg pe_int) (fun _ _ => rfl)) (pa_cons (pe_call (ok_who_sit T) (hr.mono (by decide)) (by rfl) T.g_who_sit T.F_who_sit.kp T.b_who_sit .nil pass0 (pa_cons (pe_fld (pv 0) rfl) (pa_cons (pv 2) pa_nil))) pa_nil))) pa_nil)))))
      (pss_one (ps_ret (pe_callTy call_tuple_of (by rfl) T.m_tuple (by decide +kernel) (pa_cons (pv 2) pa_nil))))))), ?_⟩
    have R0 := R
    obtain ⟨⟨dx, nl, sd, h1, h2, h3⟩, g⟩ := R
    have l12 := g.twelve
    have l2 := g.two
    have noM : ∀ {m : Str}, ¬ m = "_names" → ¬ m = "_slips" → (rflds nl sd).lookup m = none := fun a b => rflds_no nl sd a b
    refine ⟨_, rfl, p, T.a_Ring, dx, _, _, rfl, h1, T.cl_Ring, T.n_Ring__names, rflds_names nl sd, _, rfl, false, nl, ns, b, rfl, h2, hb, ?_⟩
    refine ⟨_, rfl, (by show 1 ≤ sizeLine; decide), fun f nf => ?_⟩
    refine ⟨WRing H p b ns sl f, ⟨ns.length - 0, [], b, rfl, rfl, same_new nf, upd_same, hb, ?_, ?_⟩, fun m σ H1 hW => ?_⟩
    · rw [List.nil_append, sitting_first g.nd hb, behind_len hb]
      show 0 + 1 + (ns.length - 1) = ns.length
      omega
    · rw [List.nil_append, sitting_first g.nd hb, behind_len hb]
      rfl
    obtain ⟨found, x, rfl, rfl, sm, hf, hx, hlen, heq⟩ := hW
    have h1' := sm _ _ h1
    have h2' := sm _ _ h2
    refine ⟨_, rfl, f, _, rfl, .inl (SqL.of hf), _, rfl, p, T.a_Ring, dx, _, _, rfl, h1', T.cl_Ring, T.n_Ring__names, rflds_names nl sd, nl, _, rfl, .inl (SqL.of h2'), _, _, rfl, rfl, _, rfl, ?_⟩
    have e1 : ((found ++ [x]).map V.str).length = found.length + 1 := by rw [List.length_map, List.length_append]; rfl
    rw [e1, List.length_map]
    by_cases hlt : found.length + 1 < ns.length
    · rw [decide_eq_true (show ((found.length + 1 : Nat) : Int) < (ns.length : Int) by omega)]
      refine iteT ⟨fun σ' H' => ∃ m', m' < ns.length - found.length ∧ WRing H p b ns sl f m' σ' H', fun _ _ h => h, ?_⟩
      have hne : sitting ns (found ++ [x]) x ≠ [] := fun e => by rw [e] at hlen; simp at hlen; omega
      refine ⟨_, rfl, .inl ⟨rfl, _, SqL.of hf⟩, _, rfl, p, dx, _, rfl, h1', noM (by decide +kernel) (by decide +kernel), _, rfl, 1, rfl, f, _, -1, .str x, rfl, rfl, SqL.of hf, last_s found x, ?_⟩
      refine ⟨_, rfl, p, T.a_Ring, dx, _, _, rfl, h1', T.cl_Ring, T.n_Ring__names, rflds_names nl sd, _, rfl, false, nl, f, ns, found, x, rfl, h2', .inl hf, by omega, hx, fun H2 r sm2 nr hr2 => ?_⟩
      have hsl : (sitting ns (found ++ [x]) x).length ≤ 100 := by omega
      refine ⟨p, r, ns, _, sl, x, rfl, R0.same (sm.trans sm2), hx, hr2, hne, hsl, ?_⟩
      obtain ⟨j, ej, hj, hjn, hget⟩ := spot (sl x) hne
      rw [hjn]
      obtain ⟨hnx, hmem⟩ := sitting_next (goers := found ++ [x]) g.nd hx hj
      refine ⟨f, _, _, rfl, rfl, sm2 _ _ hf, by rw [e1]; exact small_lt (by omega), ?_⟩
      have hcl := cut_len hj
      refine ⟨ns.length - (found.length + 1), by omega, found ++ [x], _, ?_, rfl, (sm.trans sm2).own nf, ?_, hmem, ?_, ?_⟩
      · rw [List.length_append]
        rfl
      · rw [upd_same, List.map_append (l₁ := found ++ [x])]
        rfl
      · rw [hnx, hcl, List.length_append]
        simp only [List.length_singleton]
        omega
      · rw [hnx, ← heq, hcl]
        have e1 : (sitting ns (found ++ [x]) x).length = ((sitting ns (found ++ [x]) x).length - 1) + 1 := by omega
        rw [show nexts sl (sitting ns (found ++ [x]) x).length x (sitting ns (found ++ [x]) x) = nexts sl (((sitting ns (found ++ [x]) x).length - 1) + 1) x (sitting ns (found ++ [x]) x) by rw [← e1], nexts_step hjn, List.append_assoc (found ++ [x])]
        rfl
    · rw [decide_eq_false (show ¬ ((found.length + 1 : Nat) : Int) < (ns.length : Int) by omega)]
      have h0 : sitting ns (found ++ [x]) x = [] := List.eq_nil_of_length_eq_zero (by omega)
      rw [h0] at heq
      rw [show nexts sl ([] : List Str).length x [] = [] from rfl, List.append_nil] at heq
      refine iteF ⟨_, rfl, f, _, rfl, .inl ⟨SqL.of hf, fun t nt => ?_⟩⟩
      refine q _ t (sm.trans (same_new nt)) (sm.free nt) ?_
      rw [upd_same, heq]
end
end K13
namespace K13
open PySem PySem.Spec PyProof.Rows L2 GL
section
variable {P : Program} {w : World} {K : PySem.W.Frag} {mg : Str → Option Value} {base : Heap}
theorem ok_Ring_next_of (T : Tx K mg) : FnOk P w K mg base CX0 4 T.a_Ring_next_of T.fd_Ring_next_of P_Ring_next_of (spNext T.a_Ring) := by
  refine T.F_Ring_next_of.ok sc_Ring_next_of (fun vs H Q E h => ?_) (fun cdv A outer s H vs Q E hr h => ?_)
  · obtain ⟨p, ns, sl, b, rfl, _⟩ := h
    rfl
  · obtain ⟨p, ns, sl, b, rfl, R, hb, q⟩ := h
    refine ⟨_, (pss_cons (ps_set (i := 2) sc_Ring_next_of.nd rfl (.inl rfl) (pe_ix ix_tup (pe_meth (pv 0) T.cl_Ring T.mt_Ring_order (ok_Ring_order T) (hr.mono (by decide)) T.b_Ring_order .nil pass0 (pa_cons (pv 1) pa_nil)) (pe_un un_neg pe_int) (fun _ _ => rfl)))
      (pss_one (ps_ret (pe_meth (pv 0) T.cl_Ring T.mt_Ring_counted_on (ok_Ring_counted_on T) (hr.mono (by decide)) T.b_Ring_counted_on .nil pass0 (pa_cons (pv 2) (pa_cons (pe_call (ok_listed_behind T) (hr.mono (by decide)) (by rfl) T.g_listed_behind T.F_listed_behind.kp T.b_listed_behind .nil pass0 (pa_cons (pe_fld (pv 0) rfl) (pa_cons (pv 2) pa_nil))) pa_nil)))))), ?_⟩
    obtain ⟨dx, fs, hx, hf⟩ := R.noM (m := "order") (by decide +kernel) (by decide +kernel)
    refine ⟨_, rfl, p, dx, fs, rfl, hx, hf, _, rfl, p, ns, sl, b, rfl, R, hb, fun H1 t sm1 nt ht => ?_⟩
    refine ⟨1, rfl, t, _, -1, _, rfl, rfl, SqT.of ht, order_last ns sl b, ?_⟩
    have R1 := R.same sm1
    have hlm := last_mem (sl := sl) hb
    have R2 := R1
    obtain ⟨⟨dy, nl, sd, h1, h2, h3⟩, g⟩ := R2
    have l12 := g.twelve
    have l2 := g.two
    refine ⟨_, rfl, p, dy, _, rfl, h1, rflds_no nl sd (by decide +kernel) (by decide +kernel), _, rfl, ?_⟩
    refine ⟨_, rfl, p, T.a_Ring, dy, _, _, rfl, h1, T.cl_Ring, T.n_Ring__names, rflds_names nl sd, _, rfl, false, nl, ns, _, rfl, h2, by omega, hlm, fun H2 r sm2 hr2 => ?_⟩
    have hrl : (rot ns (lastOf ns sl b)).length = ns.length := rot_len
    refine ⟨p, r, ns, _, sl, _, rfl, R1.same sm2, hlm, hr2, fun e => by rw [e] at hrl; simp at hrl; omega, by omega, ?_⟩
    rw [hrl]
    exact q _ (sm1.trans sm2)
theorem ok_Ring_slip (T : Tx K mg) : FnOk P w K mg base CX0 2 T.a_Ring_slip T.fd_Ring_slip P_Ring_slip (spSlipOf T.a_Ring) := by
  refine T.F_Ring_slip.ok sc_Ring_slip (fun vs H Q E h => ?_) (fun cdv A outer s H vs Q E hr h => ?_)
  · obtain ⟨p, ns, sl, b, rfl, _⟩ := h
    rfl
  · obtain ⟨p, ns, sl, b, rfl, R, hb, q⟩ := h
    have hu := hu_of hr
    refine ⟨_, (pss_cons (ps_expr (pe_call (ok_check_name T) (hr.mono (by decide)) (by rfl) T.g_check_name T.F_check_name.kp T.b_check_name .nil pass0 (pa_cons (pe_fld (pv 0) rfl) (pa_cons (pv 1) pa_nil))))
      (pss_one (ps_ret (pe_dget hu (pe_fld (pv 0) rfl) (pv 1) (fun _ _ => rfl))))), ?_⟩
    have R0 := R
    obtain ⟨⟨dx, nl, sd, h1, h2, kvs, k1, k2, k3, k4⟩, g⟩ := R
    refine ⟨_, rfl, p, T.a_Ring, dx, _, _, rfl, h1, T.cl_Ring, T.n_Ring__names, rflds_names nl sd, _, rfl, false, nl, ns, b, rfl, h2, hb, ?_⟩
    exact ⟨_, rfl, p, T.a_Ring, dx, _, _, rfl, h1, T.cl_Ring, T.n_Ring__slips, rflds_slips nl sd, _, rfl, sd, .int (sl b), rfl, by rw [← k4 b hb]; exact DGet.k (k := Sum.inr b) k1, q⟩
end
end K13
namespace K13
open PySem PySem.Spec PyProof.Rows L2 GL
section
variable {P : Program} {w : World} {K : PySem.W.Frag} {mg : Str → Option Value} {base : Heap}
def WMul (n found t : Int) (m : Nat) (σ : L2.St) : Prop := ∃ k : Int, m = (t - k).toNat ∧ 1 ≤ k ∧ k ≤ t ∧ σ = [some (.int n), some (.int found), some (.int t), some (.int (found * k))]
theorem ok_l_multiple (T : Tx K mg) : FnOk P w K mg base CX0 1 T.a_l_multiple T.fd_l_multiple P_l_multiple spMult := by
  refine T.F_l_multiple.ok sc_l_multiple (fun vs H Q E h => ?_) (fun cdv A outer s H vs Q E hr h => ?_)
  · obtain ⟨n, rfl, _⟩ := h
    rfl
  · obtain ⟨n, rfl, n1, n2, q⟩ := h
    refine ⟨_, (pss_cons (ps_set (i := 1) sc_l_multiple.nd rfl (.inl rfl) pe_int)
      (pss_cons (ps_for PassesOwn.never rfl (pi_range2 (by rfl) T.m_range (pa_cons pe_int (pa_cons (pe_op op_add (pv 0) pe_int) pa_nil))) (pg_name (i := 2) sc_l_multiple.nd rfl (.inl rfl))
       (pss_cons (ps_set (i := 3) sc_l_multiple.nd rfl (.inl rfl) (pv 1))
        (pss_cons (ps_while PassesOwn.never (pt_cmpR op_gt (pe_op op_mod (pv 3) (pv 2)) pe_int (nomark _))
         (pss_one (ps_set (i := 3) sc_l_multiple.nd rfl (.inl rfl) (pe_op op_add (pv 3) (pv 1)))))
        (pss_one (ps_set (i := 1) sc_l_multiple.nd rfl (.inl rfl) (pv 3))))))
      (pss_one (ps_ret (pv 1))))), ?_⟩
    refine ⟨_, rfl, _, _, rfl, rfl, 2, _, rfl, ⟨by omega, by omega, by omega, by omega⟩, ?_⟩
    refine for_range (lo := 2) (n := (n + 1 - 2).toNat) (fun i σ H1 => (∃ (M : Int) (u2 u3 : Option V), σ = [some (.int n), some (.int M), u2, u3] ∧ ∀ k : Nat, 1 ≤ k → k ≤ i + 1 → (k : Int) ∣ M) ∧ H1 = H) ⟨⟨1, none, none, rfl, fun k a b => by rw [show k = 1 by omega]; exact ⟨1, rfl⟩⟩, rfl⟩ (fun i σ H1 hi hP => ?_) (fun σ H1 hP => ?_)
    · obtain ⟨⟨M, u2, u3, rfl, hM⟩, rfl⟩ := hP
      have t0 : (0 : Int) < 2 + (i : Int) := by omega
      refine ⟨_, rfl, ?_⟩
      refine ⟨fun m σ H0 => WMul n M (2 + (i : Nat)) m σ ∧ H0 = H1, ⟨(2 + (i : Int) - 1).toNat, ⟨1, rfl, by omega, by omega, by rw [Int.mul_one]; rfl⟩, rfl⟩, fun m σ H0 hW => ?_⟩
      obtain ⟨⟨k, rfl, k1, k2, rfl⟩, rfl⟩ := hW
      refine ⟨_, rfl, _, rfl, _, _, rfl, rfl, t0, _, _, rfl, rfl, _, rfl, ?_⟩
      by_cases hz : (M * k) % (2 + (i : Int)) > 0
      · rw [decide_eq_true hz]
        refine iteT ⟨fun σ' H' => ∃ m', m' < (2 + (i : Int) - k).toNat ∧ WMul n M (2 + (i : Nat)) m' σ' ∧ H' = H0, fun _ _ h => h, ?_⟩
        have hk : k ≠ 2 + (i : Int) := fun e => by
          rw [e, Int.mul_emod_left] at hz
          omega
        refine ⟨_, rfl, _, rfl, _, _, rfl, rfl, (2 + (i : Int) - (k + 1)).toNat, by omega, ⟨k + 1, rfl, by omega, by omega, ?_⟩, rfl⟩
        rw [Int.mul_add, Int.mul_one]
        rfl
      · rw [decide_eq_false hz]
        have h0 := Int.emod_nonneg (M * k) (show (2 + (i : Int)) ≠ 0 by omega)
        have hd : (2 + (i : Int)) ∣ M * k := Int.dvd_of_emod_eq_zero (by omega)
        refine iteF ⟨_, rfl, ⟨M * k, _, _, rfl, fun j a b => ?_⟩, rfl⟩
        by_cases e : j ≤ i + 1
        · exact Int.dvd_mul_of_dvd_left (hM j a e)
        · rw [show (j : Int) = 2 + (i : Int) by omega]
          exact hd
    · obtain ⟨⟨M, u2, u3, rfl, hM⟩, rfl⟩ := hP
      exact ⟨_, rfl, q M fun k a b => hM k a (by omega)⟩
theorem ok_l_rounds (T : Tx K mg) : FnOk P w K mg base CX0 5 T.a_l_rounds T.fd_l_rounds P_l_rounds (spRounds T.a_Ring) := by
  refine T.F_l_rounds.ok sc_l_rounds (fun vs H Q E h => ?_) (fun cdv A outer s H vs Q E hr h => ?_)
  · obtain ⟨p, a, ns, names, sl, rfl, _⟩ := h
    rfl
  · obtain ⟨p, a, ns, names, sl, rfl, R, ha, hl, hin, q⟩ := h
    refine ⟨_, (pss_one (ps_ret (pe_lc (own := [("_law_name", 2)]) (g := gName 2) (tt := tYes) rfl sc_l_rounds.nd (pi_list (pv 1)) (blkOk_by (N := N_l_rounds) (sc := defScope s_l_rounds) (by decide +kernel)) (fun _ _ _ _ _ => pg_name (i := 2) sc_l_rounds.nd rfl (Or.inl rfl)) (fun _ _ _ _ _ => pts_nil) (fun _ _ _ _ _ => (pe_tup (pa_cons (pe_meth (pv 0) T.cl_Ring T.mt_Ring_order (ok_Ring_order T) (hr.mono (by decide)) T.b_Ring_order .nil pass0 (pa_cons (pv 2) pa_nil)) (pa_cons (pe_meth (pv 0) T.cl_Ring T.mt_Ring_next_of (ok_Ring_next_of T) (hr.mono (by decide)) T.b_Ring_next_of .nil pass0 (pa_cons (pv 2) pa_nil)) pa_nil))))))), ?_⟩
    refine ⟨_, rfl, a, rfl, ⟨_, SqL.of ha⟩, fun D nD => ?_⟩
    refine lc_list (K := K) (a := a) (xs := names.map V.str) (fun j H1 => Same H H1 ∧ ∃ ps : List Addr, H1 D = some (.lst (ps.map V.ref)) ∧ Paired (fun (p : Addr) (x : List Str × Str) => ∃ o, H1 p = some (.tup [.ref o, .str x.2]) ∧ H1 o = some (.tup (x.1.map V.str))) ps (roundsOf ns sl (names.take j)) ∧ ps.length = j)
      ⟨same_new nD, [], upd_same, .nil, rfl⟩ (fun j H1 _ hP => SqL.of (hP.1 _ _ ha)) (fun j x H1 hx hP => ?_) (fun H1 hP => ?_)
    · obtain ⟨sm, ps, hD, hp, pl⟩ := hP
      obtain ⟨b, hb, rfl⟩ := of_strs_at hx
      have hbi := hin b (List.mem_of_getElem? hb)
      have hjl := (List.getElem?_eq_some_iff.mp hb).1
      have R1 := R.same sm
      obtain ⟨dx, fs, hx1, hf1⟩ := R1.noM (m := "order") (by decide +kernel) (by decide +kernel)
      refine ⟨rfl, _, rfl, p, dx, fs, rfl, hx1, hf1, _, rfl, p, ns, sl, b, rfl, R1, hbi, fun H2 t sm2 nt ht => ?_⟩
      have R2 := R1.same sm2
      obtain ⟨dy, gs, hx2, hf2⟩ := R2.noM (m := "next_of") (by decide +kernel) (by decide +kernel)
      refine ⟨_, rfl, p, dy, gs, rfl, hx2, hf2, _, rfl, p, ns, sl, b, rfl, R2, hbi, fun H3 sm3 => ⟨(by show 2 ≤ sizeLine; decide), fun w nw => ?_⟩⟩
      have sw := same_new (o := .tup [.ref t, .str (nextOf ns sl b)]) nw
      have s4 := (sm2.trans sm3).trans sw
      have hD4 := s4 _ _ hD
      have nDr : ∀ (c : Addr) (ys : List V), (upd H3 w (.tup [.ref t, .str (nextOf ns sl b)])) c = some (.tup ys) → c ≠ D := fun c ys e => ne_of e hD4 (fun z => nomatch z)
      refine ⟨_, hD4, by rw [List.length_map, pl]; exact small_lt (by omega), (sm.trans s4).own nD, ps ++ [w], by rw [upd_same, List.map_append]; rfl, ?_, by rw [List.length_append, pl]; rfl⟩
      have et : roundsOf ns sl (names.take (j + 1)) = roundsOf ns sl (names.take j) ++ [(orderOf ns sl b, nextOf ns sl b)] := by
        unfold roundsOf
        rw [take_snoc hb, List.map_append]
        rfl
      rw [et]
      refine Paired.snoc (Paired.mapF (fun p x hpx => ?_) hp) ?_
      · obtain ⟨o, c, d⟩ := hpx
        have c4 := s4 _ _ c
        have d4 := s4 _ _ d
        exact ⟨o, by rw [upd_ne (nDr _ _ c4)]; exact c4, by rw [upd_ne (nDr _ _ d4)]; exact d4⟩
      · have w4 := upd_of (o := .tup [.ref t, .str (nextOf ns sl b)]) nw
        have t4 := sw _ _ (sm3 _ _ ht)
        exact ⟨t, by rw [upd_ne (nDr _ _ w4)]; exact w4, by rw [upd_ne (nDr _ _ t4)]; exact t4⟩
    · obtain ⟨sm, ps, hD, hp, pl⟩ := hP
      rw [List.length_map, List.take_length] at hp
      exact q _ D sm nD ⟨ps, hD, hp⟩
end
end K13
namespace K13
open PySem PySem.Spec PyProof.Rows L2 GL
section
variable {P : Program} {w : World} {K : PySem.W.Frag} {mg : Str → Option Value} {base : Heap}
theorem pget {α β : Type} {F : α → β → Prop} : ∀ {xs : List α} {ys : List β} {j : Nat} {a : α}, Paired F xs ys → xs[j]? = some a → ∃ b, ys[j]? = some b ∧ F a b
  | _, _, 0, a, .cons h r, e => by
    have e := Option.some.inj e
    subst e
    exact ⟨_, rfl, h⟩
  | _, _, j + 1, a, .cons h r, e => by
    obtain ⟨b, h1, h2⟩ := pget r (by simpa using e)
    exact ⟨b, by simpa using h1, h2⟩
theorem plen2 {α β : Type} {F : α → β → Prop} : ∀ {xs : List α} {ys : List β}, Paired F xs ys → xs.length = ys.length
  | _, _, .nil => rfl
  | _, _, .cons x r => by rw [List.length_cons, List.length_cons, plen2 r]
theorem ok_l_renamed (T : Tx K mg) : FnOk P w K mg base CX0 1 T.a_l_renamed T.fd_l_renamed P_l_renamed spRenamed := by
  refine T.F_l_renamed.ok sc_l_renamed (fun vs H Q E h => ?_) (fun cdv A outer s H vs Q E hr h => ?_)
  · obtain ⟨l, d, rs, ns, f, rfl, _⟩ := h
    rfl
  · obtain ⟨l, d, rs, ns, f, rfl, hl, hlen, hd, hrs, q⟩ := h
    have hu := hu_of hr
    refine ⟨_, (pss_one (ps_ret (pe_lc (own := [("_law_order", 2), ("_law_later", 3)]) (g := gTup K 2 (gCons (gName 2) (gCons (gName 3) gNil))) (tt := tYes) rfl sc_l_renamed.nd (pi_list (pv 0)) (blkOk_by (N := N_l_renamed) (sc := defScope s_l_renamed) (by decide +kernel)) (fun _ _ _ _ _ => pg_tup (by rfl) (pgs_cons (pg_name (i := 2) sc_l_renamed.nd rfl (Or.inl rfl)) (pgs_cons (pg_name (i := 3) sc_l_renamed.nd rfl (Or.inl rfl)) pgs_nil))) (fun _ _ _ _ _ => pts_nil) (fun _ _ _ _ _ => (pe_tup (pa_cons (pe_callTy (show CallR _ (.type "tuple") (rTupOf K) from call_tupOf) (by rfl) T.m_tuple (by decide +kernel) (pa_cons (pe_lc (own := [("_law_name", 4)]) (g := gName 4) (tt := tYes) rfl sc_l_renamed.nd (show PI _ _ _ (iTup K (tVar 2)) from (pi_tup (pv 2))) (blkOk_by (by rfl)) (fun _ _ _ _ _ => pg_name (i := 4) sc_l_renamed.nd rfl (Or.inl rfl)) (fun _ _ _ _ _ => pts_nil) (fun _ _ _ _ _ => (pe_dget hu (pv 1) (pv 4) (fun _ _ => rfl)))) pa_nil)) (pa_cons (pe_dget hu (pv 1) (pv 3) (fun _ _ => rfl)) pa_nil))))))), ?_⟩
    obtain ⟨ps, hlp, hpp⟩ := hl
    obtain ⟨kvs, hdk, hkv⟩ := hd
    refine ⟨_, rfl, l, rfl, ⟨_, SqL.of hlp⟩, fun D nD => ?_⟩
    refine lc_list (K := K) (a := l) (xs := ps.map V.ref) (fun j H1 => Same H H1 ∧ ∃ qs : List Addr, H1 D = some (.lst (qs.map V.ref)) ∧ Paired (fun (p : Addr) (x : List Str × Str) => ∃ o, H1 p = some (.tup [.ref o, .str x.2]) ∧ H1 o = some (.tup (x.1.map V.str))) qs ((rs.take j).map fun x => (x.1.map f, f x.2)) ∧ qs.length = j)
      ⟨same_new nD, [], upd_same, .nil, rfl⟩ (fun j H1 _ hP => SqL.of (hP.1 _ _ hlp)) (fun j x H1 hx hP => ?_) (fun H1 hP => ?_)
    · obtain ⟨sm, qs, hD, hq, ql⟩ := hP
      rw [List.getElem?_map] at hx
      obtain ⟨p, hp, rfl⟩ := Option.map_eq_some_iff.mp hx
      obtain ⟨x, hxr, o, hpo, hoo⟩ := pget hpp hp
      obtain ⟨x12, xin, x2in⟩ := hrs x (List.mem_of_getElem? hxr)
      have hjl := (List.getElem?_eq_some_iff.mp hxr).1
      refine ⟨p, _, rfl, SqT.of (sm _ _ hpo), rfl, _, _, rfl, _, _, rfl, rfl, rfl, ?_⟩
      refine ⟨_, rfl, o, rfl, ⟨_, SqT.of (sm _ _ hoo)⟩, fun D2 nD2 => ?_⟩
      refine lc_tup (K := K) (a := o) (xs := x.1.map V.str) (fun i H2 => Same H1 H2 ∧ H2 D2 = some (.lst (((x.1.take i).map f).map V.str))) ⟨same_new nD2, upd_same⟩ (fun i H2 _ hP => SqT.of (hP.1 _ _ (sm _ _ hoo))) (fun i y H2 hy hP => ?_) (fun H2 hP => ?_)
      · obtain ⟨sm2, hD2⟩ := hP
        obtain ⟨z, hz, rfl⟩ := of_strs_at hy
        have hil := (List.getElem?_eq_some_iff.mp hz).1
        refine ⟨rfl, _, rfl, _, rfl, d, .str (f z), rfl, by rw [← hkv z (xin z (List.mem_of_getElem? hz))]; exact DGet.k (k := Sum.inr z) (sm2 _ _ (sm _ _ hdk)), _, hD2, by rw [List.length_map, List.length_map, List.length_take]; exact small_lt (by omega), sm2.own nD2, ?_⟩
        rw [upd_same, take_snoc hz, List.map_append, List.map_append]
        rfl
      · obtain ⟨sm2, hD2⟩ := hP
        rw [List.length_map, List.take_length] at hD2
        refine ⟨D2, _, rfl, .inl ⟨SqL.of hD2, fun o2 no2 => ?_⟩⟩
        have so := same_new (o := .tup ((x.1.map f).map V.str)) no2
        have ho2 := upd_of (o := .tup ((x.1.map f).map V.str)) no2
        refine ⟨_, rfl, _, rfl, d, .str (f x.2), rfl, by rw [← hkv x.2 x2in]; exact DGet.k (k := Sum.inr x.2) (so _ _ (sm2 _ _ (sm _ _ hdk))), (by show 2 ≤ sizeLine; decide), fun w nw => ?_⟩
        have sw := same_new (o := .tup [.ref o2, .str (f x.2)]) nw
        have hw := upd_of (o := .tup [.ref o2, .str (f x.2)]) nw
        have s4 := (sm2.trans so).trans sw
        have hD4 := s4 _ _ hD
        have ho4 := sw _ _ ho2
        have nDr : ∀ (c : Addr) (ys : List V), (upd _ w (.tup [.ref o2, .str (f x.2)])) c = some (.tup ys) → c ≠ D := fun c ys e => ne_of e hD4 (fun z => nomatch z)
        refine ⟨_, hD4, by rw [List.length_map, ql]; exact small_lt (by omega), (sm.trans s4).own nD, qs ++ [w], by rw [upd_same, List.map_append]; rfl, ?_, by rw [List.length_append, ql]; rfl⟩
        rw [take_snoc hxr, List.map_append]
        refine Paired.snoc (Paired.mapF (fun p x hpx => ?_) hq) ?_
        · obtain ⟨o, c, d⟩ := hpx
          have c4 := s4 _ _ c
          have d4 := s4 _ _ d
          exact ⟨o, by rw [upd_ne (nDr _ _ c4)]; exact c4, by rw [upd_ne (nDr _ _ d4)]; exact d4⟩
        · exact ⟨o2, by rw [upd_ne (nDr _ _ hw)]; exact hw, by rw [upd_ne (nDr _ _ ho4)]; exact ho4⟩
    · obtain ⟨sm, qs, hD, hq, ql⟩ := hP
      rw [List.length_map, plen2 hpp, List.take_length] at hq
      exact q _ D sm nD ⟨qs, hD, hq⟩
theorem ok_l_mirrored_right (T : Tx K mg) : FnOk P w K mg base CX0 6 T.a_l_mirrored_right T.fd_l_mirrored_right P_l_mirrored_right (spMirror T.a_Ring) := by
  refine T.F_l_mirrored_right.ok sc_l_mirrored_right (fun vs H Q E h => ?_) (fun cdv A outer s H vs Q E hr h => ?_)
  · obtain ⟨p, a, ns, sl, b, rfl, _⟩ := h
    rfl
  · obtain ⟨p, a, ns, sl, b, rfl, R, ha, g, hb, q⟩ := h
    have hu := hu_of hr
    refine ⟨_, (pss_cons (ps_set (i := 3) sc_l_mirrored_right.nd rfl (.inl rfl) (pe_meth (pv 0) T.cl_Ring T.mt_Ring_order (ok_Ring_order T) (hr.mono (by decide)) T.b_Ring_order .nil pass0 (pa_cons (pv 2) pa_nil)))
      (pss_cons (ps_set (i := 4) sc_l_mirrored_right.nd rfl (.inl rfl) (pe_callTy (call_dictP rfl) (by rfl) T.m_dict (by decide +kernel) (pa_cons (pe_lc (own := [("_law_name", 6)]) (g := gName 6) (tt := tYes) rfl sc_l_mirrored_right.nd (pi_tup (pv 3)) (blkOk_by (N := N_l_mirrored_right) (sc := defScope s_l_mirrored_right) (by decide +kernel)) (fun _ _ _ _ _ => pg_name (i := 6) sc_l_mirrored_right.nd rfl (Or.inl rfl)) (fun _ _ _ _ _ => pts_nil) (fun _ _ _ _ _ => (pe_tup (pa_cons (pv 6) (pa_cons (pe_op op_sub (pe_op op_sub pe_int pe_int) (pe_meth (pv 0) T.cl_Ring T.mt_Ring_slip (ok_Ring_slip T) (hr.mono (by decide)) T.b_Ring_slip .nil pass0 (pa_cons (pv 6) pa_nil))) pa_nil))))) pa_nil)))
      (pss_cons (ps_dput hu (pv 4) (pe_ix ix_tup (pv 3) (pe_un un_neg pe_int) (fun _ _ => rfl)) (pe_op op_sub (pe_op op_sub pe_int pe_int) (pe_meth (pv 0) T.cl_Ring T.mt_Ring_slip (ok_Ring_slip T) (hr.mono (by decide)) T.b_Ring_slip .nil pass0 (pa_cons (pe_ix ix_tup (pv 3) (pe_un un_neg pe_int) (fun _ _ => rfl)) pa_nil))) rfl)
      (pss_cons (ps_set (i := 5) sc_l_mirrored_right.nd rfl (.inl rfl) (pe_make T.M_Ring (ok_Ring_init T) (hr.mono (by decide)) rfl T.g_Ring T.b_Ring_init .nil pass0 (pa_cons (pe_revL (pv 1)) (pa_cons (pv 4) pa_nil))))
      (pss_one (ps_ret (pe_and (pe_cmpR (op_eqD hr.units) (pe_meth (pv 5) T.cl_Ring T.mt_Ring_order (ok_Ring_order T) (hr.mono (by decide)) T.b_Ring_order .nil pass0 (pa_cons (pv 2) pa_nil)) (pv 3) (nomark _)) (pe_one (pe_cmpR op_eq (pe_meth (pv 5) T.cl_Ring T.mt_Ring_next_of (ok_Ring_next_of T) (hr.mono (by decide)) T.b_Ring_next_of .nil pass0 (pa_cons (pv 2) pa_nil)) (pe_meth (pv 0) T.cl_Ring T.mt_Ring_next_of (ok_Ring_next_of T) (hr.mono (by decide)) T.b_Ring_next_of .nil pass0 (pa_cons (pv 2) pa_nil)) (nomark _)))))))))), ?_⟩
    have l12 := g.twelve
    have hlm := last_mem (sl := sl) hb
    have op := order_perm (sl := sl) hb
    have ond : (orderOf ns sl b).Nodup := op.nodup_iff.mpr g.nd
    have olen : (orderOf ns sl b).length ≤ 12 := by rw [op.length_eq]; exact l12
    obtain ⟨dx, fs, hx, hf⟩ := R.noM (m := "order") (by decide +kernel) (by decide +kernel)
    refine ⟨_, rfl, p, dx, fs, rfl, hx, hf, _, rfl, p, ns, sl, b, rfl, R, hb, fun H1 t sm1 nt ht => ?_⟩
    refine ⟨_, rfl, t, rfl, ⟨_, SqT.of ht⟩, fun D nD => ?_⟩
    refine lc_tup (K := K) (a := t) (xs := (orderOf ns sl b).map V.str) (fun j H2 => Same H1 H2 ∧ ∃ ps : List Addr, H2 D = some (.lst (ps.map V.ref)) ∧ Paired (fun p (kv : Key × V) => H2 p = some (.tup [kV kv.1, kv.2])) ps (slRow (fun y => 0 - 1 - sl y) ((orderOf ns sl b).take j)) ∧ ps.length = j)
      ⟨same_new nD, [], upd_same, .nil, rfl⟩ (fun j H2 _ hP => SqT.of (hP.1 _ _ ht)) (fun j x H2 hx hP => ?_) (fun H2 hP => ?_)
    · obtain ⟨sm, ps, hD, hps, pl⟩ := hP
      obtain ⟨y, hy, rfl⟩ := of_strs_at hx
      have hyn : y ∈ ns := order_mem hb y (List.mem_of_getElem? hy)
      have hjl := (List.getElem?_eq_some_iff.mp hy).1
      have R2 := (R.same sm1).same sm
      obtain ⟨dx2, fs2, hx2, hf2⟩ := R2.noM (m := "slip") (by decide +kernel) (by decide +kernel)
      refine ⟨rfl, _, rfl, _, _, rfl, rfl, _, rfl, p, dx2, fs2, rfl, hx2, hf2, _, rfl, p, ns, sl, y, rfl, R2, hyn, _, _, rfl, rfl, (by show 2 ≤ sizeLine; decide), fun w nw => ?_⟩
      have sw := same_new (o := .tup [.str y, .int (0 - 1 - sl y)]) nw
      have hw := upd_of (o := .tup [.str y, .int (0 - 1 - sl y)]) nw
      have hD2 := sw _ _ hD
      refine ⟨_, hD2, by rw [List.length_map, pl]; exact small_lt (by omega), (sm.trans sw).own nD, ps ++ [w], by rw [upd_same, List.map_append]; rfl, ?_, by rw [List.length_append, pl]; rfl⟩
      unfold slRow at hps ⊢
      rw [take_snoc hy, List.map_append]
      refine Paired.snoc (Paired.mapF (fun p kv e => ?_) hps) ?_
      · have e2 := sw _ _ e
        rw [upd_ne (ne_of e2 hD2 (fun z => nomatch z))]
        exact e2
      · rw [upd_ne (ne_of hw hD2 (fun z => nomatch z))]
        exact hw
    · obtain ⟨sm, ps, hD, hps, pl⟩ := hP
      rw [List.length_map, List.take_length] at hps
      refine ⟨D, ps, _, rfl, SqL.of hD, Paired.mapF (fun p kv e => SqT.of e) hps, fun d nd => ?_⟩
      have sd := same_new (o := .dK (mergeK [] (slRow (fun y => 0 - 1 - sl y) (orderOf ns sl b)))) nd
      have hd := upd_of (o := .dK (mergeK [] (slRow (fun y => 0 - 1 - sl y) (orderOf ns sl b)))) nd
      have SA := slRow_at hd ond op
      have sm2 := (sm1.trans sm).trans sd
      have ht2 := sd _ _ (sm _ _ ht)
      have R3 := R.same sm2
      have nd0 : H d = none := (sm1.trans sm).free nd
      generalize upd H2 d (.dK (mergeK [] (slRow (fun y => 0 - 1 - sl y) (orderOf ns sl b)))) = H3 at *
      clear hps hD sd hd
      obtain ⟨kvs, k1, k2, k3, k4⟩ := SA
      obtain ⟨dx3, fs3, hx3, hf3⟩ := R3.noM (m := "slip") (by decide +kernel) (by decide +kernel)
      refine ⟨_, _, rfl, rfl, _, rfl, p, dx3, fs3, rfl, hx3, hf3, _, rfl, 1, rfl, t, _, -1, _, rfl, rfl, SqT.of ht2, order_last ns sl b, p, ns, sl, _, rfl, R3, hlm, _, _, rfl, rfl, ?_⟩
      have z0 : sl (lastOf ns sl b) = sl (lastOf ns sl b) := rfl
      refine ⟨_, rfl, _, rfl, 1, rfl, t, _, -1, _, rfl, rfl, SqT.of ht2, order_last ns sl b, d, _, rfl, .inl ⟨kvs, Sum.inr (lastOf ns sl b), k1, rfl, by rw [k2]; exact small_lt (by omega), rfl⟩, ?_⟩
      have S1 := SlipsAt.put (H := H3) (d := d) (z := 0 - 2 - sl (lastOf ns sl b)) k2 k3 k4 hlm
      have sm4 : Same H (upd H3 d (.dK (putK kvs (Sum.inr (lastOf ns sl b) : Key) (.int (0 - 2 - sl (lastOf ns sl b)))))) := sm2.own nd0
      have ht4 : upd H3 d (.dK (putK kvs (Sum.inr (lastOf ns sl b) : Key) (.int (0 - 2 - sl (lastOf ns sl b))))) t = some (.tup ((orderOf ns sl b).map V.str)) := by
        rw [upd_ne (ne_of ht2 k1 (fun z => nomatch z))]
        exact ht2
      try dsimp only
      generalize upd H3 d (.dK (putK kvs (Sum.inr (lastOf ns sl b) : Key) (.int (0 - 2 - sl (lastOf ns sl b))))) = H4 at *
      refine ⟨_, rfl, a, _, rfl, SqL.of (sm4 _ _ ha), fun ar nar => ⟨_, rfl, fun x dy nx ndy nyx => ?_⟩⟩
      have sr := same_new (o := .lst ((ns.map V.str).reverse)) nar
      have har := upd_of (o := .lst ((ns.map V.str).reverse)) nar
      generalize upd H4 ar (.lst ((ns.map V.str).reverse)) = H5 at *
      rw [← List.map_reverse] at har
      have sm6 : Same H5 (upd (upd H5 dy (.own x)) x (.ins T.a_Ring dy [])) := fun b o e => by
        rw [upd_ne (ne_of_none e nx), upd_ne (ne_of_none e ndy)]
        exact e
      have pr : ns.reverse.Perm ns := List.reverse_perm ns
      refine ⟨x, dy, ar, d, ns.reverse, _, rfl, upd_same, sm6 _ _ har, ((S1.same sr).same sm6).perm pr, g.perm pr, fun H6 kp RX => ⟨rfl, ?_⟩⟩
      have s56 : Same H5 H6 := fun b o e => kp b o (sm6 _ _ e) (ne_of_none e nx)
      have s6 := (sm4.trans sr).trans s56
      have ht6 := s56 _ _ (sr _ _ ht4)
      have R6 := R.same s6
      have hb' : b ∈ ns.reverse := List.mem_reverse.mpr hb
      obtain ⟨eo, en⟩ := mirror (sl := sl) (sl' := setSl (fun y => 0 - 1 - sl y) (lastOf ns sl b) (0 - 2 - sl (lastOf ns sl b))) g.nd hb (fun y hy => by rw [setSl_off y hy]; show 0 - 1 - sl y = -1 - sl y; omega) (by rw [setSl_at]; omega)
      obtain ⟨dx7, fs7, hx7, hf7⟩ := RX.noM (m := "order") (by decide +kernel) (by decide +kernel)
      refine ⟨_, rfl, x, dx7, fs7, rfl, hx7, hf7, _, rfl, x, ns.reverse, _, b, rfl, RX, hb', fun H8 t8 sm8 nt8 ht8 => ?_⟩
      rw [eo] at ht8
      have os := g.ostr (sl := sl) hb
      refine ⟨_, rfl, _, _, dp_tup ht8, dp_tup (sm8 _ _ ht6), shaped_tup os, shaped_tup os, ?_⟩
      refine ⟨_, rfl, ?_⟩
      rw [eqv_tups, decide_eq_true rfl]
      refine iteT ?_
      have RX8 := RX.same sm8
      have R8 := R6.same sm8
      obtain ⟨dx9, fs9, hx9, hf9⟩ := RX8.noM (m := "next_of") (by decide +kernel) (by decide +kernel)
      refine ⟨_, rfl, x, dx9, fs9, rfl, hx9, hf9, _, rfl, x, ns.reverse, _, b, rfl, RX8, hb', fun H9 sm9 => ?_⟩
      have R9 := R8.same sm9
      obtain ⟨dxa, fsa, hxa, hfa⟩ := R9.noM (m := "next_of") (by decide +kernel) (by decide +kernel)
      refine ⟨_, rfl, p, dxa, fsa, rfl, hxa, hfa, _, rfl, p, ns, sl, b, rfl, R9, hb, fun H10 sm10 => ⟨rfl, ?_⟩⟩
      rw [en, decide_eq_true rfl]
      exact q _ (((s6.trans sm8).trans sm9).trans sm10)
end
end K13
namespace K13
open PySem PySem.Spec PyProof.Rows L2 GL
def mapTo (ys ws : List Str) (y : Str) : Str := ws.getD (ys.idxOf y) Str.empty
theorem mapTo_at {ys ws : List Str} {i : Nat} {y : Str} (hn : ys.Nodup) (hl : ys.length = ws.length) (h : ys[i]? = some y) : ws[i]? = some (mapTo ys ws y) := by
  obtain ⟨hi, e⟩ := List.getElem?_eq_some_iff.mp h
  have hy : y ∈ ys := List.mem_of_getElem? h
  have hx := idx_lt hy
  have e2 := idx_at hy
  obtain ⟨_, e3⟩ := List.getElem?_eq_some_iff.mp e2
  have : ys.idxOf y = i := (List.getElem_inj hn).mp (e3.trans e.symm)
  unfold mapTo
  rw [this, List.getD_eq_getElem?_getD, List.getElem?_eq_getElem (by omega)]
  rfl
theorem mapTo_map {ys ws : List Str} (hn : ys.Nodup) (hl : ys.length = ws.length) : ys.map (mapTo ys ws) = ws := by
  refine List.ext_getElem? fun i => ?_
  rw [List.getElem?_map]
  cases h : ys[i]? with
  | none =>
    have := List.getElem?_eq_none_iff.mp h
    exact (List.getElem?_eq_none (by omega)).symm
  | some y => exact (mapTo_at hn hl h).symm
theorem mapTo_back {ys ws : List Str} {y : Str} (hn : ys.Nodup) (hw : ws.Nodup) (hl : ys.length = ws.length) (hy : y ∈ ys) : mapTo ws ys (mapTo ys ws y) = y := by
  have h1 := idx_at hy
  have h2 := mapTo_at hn hl h1
  have h3 := mapTo_at hw hl.symm h2
  rw [h1] at h3
  exact (Option.some.inj h3).symm
theorem mapTo_inj {ys ws : List Str} (hn : ys.Nodup) (hw : ws.Nodup) (hl : ys.length = ws.length) : ∀ x ∈ ys, ∀ y ∈ ys, mapTo ys ws x = mapTo ys ws y → x = y := fun x hx y hy e => by
  rw [← mapTo_back hn hw hl hx, e, mapTo_back hn hw hl hy]
theorem zip_keys : ∀ {ys ws : List Str}, ys.length = ws.length → (((ys.map (Sum.inr : Str → Key)).zip (ws.map V.str)).map (·.1)) = ys.map Sum.inr
  | [], [], _ => rfl
  | y :: ys, w :: ws, h => by
    rw [List.map_cons, List.map_cons, List.zip_cons_cons, List.map_cons, zip_keys (by simpa using h)]
  | [], _ :: _, h => by simp at h
  | _ :: _, [], h => by simp at h
theorem zip_val : ∀ {ys ws : List Str}, ys.length = ws.length → ∀ y ∈ ys, valV ((ys.map (Sum.inr : Str → Key)).zip (ws.map V.str)) (Sum.inr y : Key) = some (.str (mapTo ys ws y))
  | z :: ys, w :: ws, h, y, hy => by
    rw [List.map_cons, List.map_cons, List.zip_cons_cons]
    unfold valV
    rw [List.find?_cons]
    by_cases e : z = y
    · subst e
      unfold mapTo
      rw [List.idxOf_cons_self]
      simp
    · have hy' : y ∈ ys := (List.mem_cons.mp hy).resolve_left fun e' => e e'.symm
      have ne : ¬ (Sum.inr z : Key) = Sum.inr y := fun e' => e (Sum.inr.inj e')
      rw [show decide ((Sum.inr z : Key) = Sum.inr y) = false from decide_eq_false ne]
      have ih := zip_val (ys := ys) (ws := ws) (by simpa using h) y hy'
      unfold valV at ih
      have em : mapTo (z :: ys) (w :: ws) y = mapTo ys ws y := by
        unfold mapTo
        rw [List.idxOf_cons, show (z == y) = false from beq_eq_false_iff_ne.mpr e]
        rfl
      rw [em]
      exact ih
  | [], _, _, y, hy => by cases hy
theorem fresh_at {H : Hp} {d : Addr} {ys ws : List Str} (hd : H d = some (.dK (mergeK [] ((ys.map (Sum.inr : Str → Key)).zip (ws.map V.str))))) (hn : ys.Nodup) (hl : ys.length = ws.length) : FreshAt H d ys (mapTo ys ws) := by
  refine ⟨(ys.map (Sum.inr : Str → Key)).zip (ws.map V.str), ?_, zip_val hl⟩
  rw [hd, merge_new _ [] (by rw [List.nil_append, zip_keys hl]; exact nodup_map (fun a b e => Sum.inr.inj e) hn), List.nil_append]
theorem rounds_eq {ns ms names : List Str} {sl sl' : Str → Int} (h : ∀ b ∈ names, orderOf ms sl' b = orderOf ns sl b ∧ nextOf ms sl' b = nextOf ns sl b) : roundsOf ms sl' names = roundsOf ns sl names := by
  unfold roundsOf
  refine List.map_congr_left fun b hb => ?_
  rw [(h b hb).1, (h b hb).2]
theorem rounds_map {ys : List Str} {f : Str → Str} {sl sl' : Str → Int} (hn : ys.Nodup) (hf : ∀ x ∈ ys, ∀ y ∈ ys, f x = f y → x = y) (hs : ∀ y ∈ ys, sl' (f y) = sl y) : roundsOf (ys.map f) sl' (ys.map f) = (roundsOf ys sl ys).map fun x => (x.1.map f, f x.2) := by
  unfold roundsOf
  rw [List.map_map, List.map_map]
  refine List.map_congr_left fun b hb => ?_
  show (orderOf (ys.map f) sl' (f b), nextOf (ys.map f) sl' (f b)) = _
  rw [order_map hn hb hf hs, next_map hn hb hf hs]
  rfl
theorem mod_more {z M t : Int} {k : Nat} (h : (k : Int) ∣ M) : (z + M * t) % (k : Int) = z % (k : Int) := by
  obtain ⟨c, rfl⟩ := h
  rw [Int.mul_assoc, Int.add_mul_emod_self_left]
theorem rounds_in {ns : List Str} {sl : Str → Int} (g : GoodNs ns) : ∀ x ∈ roundsOf ns sl ns, x.1.length ≤ 12 ∧ (∀ y ∈ x.1, y ∈ ns) ∧ x.2 ∈ ns := fun x hx => by
  obtain ⟨b, hb, rfl⟩ := List.mem_map.mp hx
  exact ⟨by rw [(order_perm hb).length_eq]; exact g.twelve, order_mem hb, next_mem hb⟩
/-- slips that leave the same -/
def LikeSl (sl : Str → Int) (n : Nat) (kv : Key × V) : Prop := ∃ (y : Str) (z : Int), kv = (Sum.inr y, .int z) ∧ ∀ k : Nat, 1 ≤ k → k ≤ n → z % (k : Int) = sl y % (k : Int)
theorem like_at {H : Hp} {d : Addr} {ys : List Str} {sl : Str → Int} {n : Nat} {kvs : List (Key × V)} (hd : H d = some (.dK (mergeK [] kvs))) (hn : ys.Nodup) (hk : kvs.map (·.1) = ys.map Sum.inr) (hz : ∀ kv ∈ kvs, LikeSl sl n kv) : ∃ sl', SlipsAt H d ys sl' ∧ ∀ y ∈ ys, ∀ k : Nat, 1 ≤ k → k ≤ n → sl' y % (k : Int) = sl y % (k : Int) := by
  have nd : (kvs.map (·.1)).Nodup := by rw [hk]; exact nodup_map (fun a b e => Sum.inr.inj e) hn
  have val : ∀ y ∈ ys, ∃ z : Int, valV kvs (Sum.inr y : Key) = some (.int z) ∧ ∀ k : Nat, 1 ≤ k → k ≤ n → z % (k : Int) = sl y % (k : Int) := fun y hy => by
    obtain ⟨v, hv, hm⟩ := valV_mem (kvs := kvs) (k := (Sum.inr y : Key)) (by rw [hk]; exact List.mem_map_of_mem hy)
    obtain ⟨y', z, e, h⟩ := hz _ hm
    injection e with e1 e2
    have e1 := Sum.inr.inj e1
    subst e1
    exact ⟨z, by rw [hv, e2], h⟩
  refine ⟨slOf kvs, ⟨kvs, ?_, ?_, nd, fun y hy => ?_⟩, fun y hy k a b => ?_⟩
  · rw [hd, merge_new kvs [] (by rw [List.nil_append]; exact nd), List.nil_append]
  · have := congrArg List.length hk
    rw [List.length_map, List.length_map] at this
    exact this
  · obtain ⟨z, hv, _⟩ := val y hy
    unfold slOf
    rw [hv]
  · obtain ⟨z, hv, h⟩ := val y hy
    unfold slOf
    rw [hv]
    exact h k a b
end K13
namespace K13
open PySem PySem.Spec PyProof.Rows L2 GL
section
variable {P : Program} {w : World} {K : PySem.W.Frag} {mg : Str → Option Value} {base : Heap}
theorem size_ok {z : Int} (a : 0 ≤ z) (b : z < 11) : 0 < 2 + z ∧ 0 ≤ 2 + z ∧ 2 + z ≤ 14 ∧ 2 ≤ 2 + z ∧ 2 + z ≤ 12 ∧ (2 + z).natAbs < 2 ^ 200 := ⟨by omega, by omega, by omega, by omega, by omega, Nat.lt_of_le_of_lt (show (2 + z).natAbs ≤ 12 by omega) (by decide)⟩
theorem shift_ok {t : Int} (a : 0 ≤ t) (b : t < 2001) : -2 ^ 64 < t - 1000 ∧ t - 1000 < 2 ^ 64 := by omega
theorem ok_law (T : Tx K mg) : FnOk P w K mg base CX0 9 T.a_law T.fd_law P_law (spLaw K) := by
  refine T.F_law.ok sc_law (fun vs H Q E h => ?_) (fun cdv A outer s H vs Q E hr h => ?_)
  · obtain ⟨a, ns, rfl, _⟩ := h
    rfl
  · obtain ⟨a, ns, rfl, ha, hl, q⟩ := h
    have hu := hu_of hr
    refine ⟨_, (pss_cons (ps_set (i := 1) sc_law.nd rfl (.inr rfl) (pe_call (ok_l_state T) (hr.mono (by decide)) (by rfl) T.g_l_state T.F_l_state.kp T.b_l_state .nil pass0 (pa_cons (pv 0) pa_nil)))
      (pss_cons (ps_for PassesOwn.never rfl (pi_range1 (by rfl) T.m_range (pa_cons (pe_op op_add pe_int (pe_callB (call_min2 rfl) (by rfl) T.m_min (by decide +kernel) (pa_cons (pe_callB call_len_seq (by rfl) T.m_len (by decide +kernel) (pa_cons (pv 0) pa_nil)) (pa_cons pe_int pa_nil)))) pa_nil)) (pg_name (i := 2) sc_law.nd rfl (.inl rfl))
       (pss_cons (ps_set (i := 3) sc_law.nd rfl (.inr rfl) (pe_op op_add pe_int (pe_call (ok_l_draw T) (hr.mono (by decide)) (by rfl) T.g_l_draw T.F_l_draw.kp T.b_l_draw .nil pass0 (pa_cons (pv 1) (pa_cons pe_int pa_nil)))))
        (pss_cons (ps_set (i := 4) sc_law.nd rfl (.inl rfl) (pe_call (ok_l_names T) (hr.mono (by decide)) (by rfl) T.g_l_names T.F_l_names.kp T.b_l_names .nil pass0 (pa_cons (pv 1) (pa_cons (pv 3) pa_nil))))
        (pss_cons (ps_asg (pe_tup (pa_cons (pe_call (ok_l_slips T) (hr.mono (by decide)) (by rfl) T.g_l_slips T.F_l_slips.kp T.b_l_slips .nil pass0 (pa_cons (pv 1) (pa_cons (pv 4) pa_nil))) (pa_cons (pe_call (ok_l_draw T) (hr.mono (by decide)) (by rfl) T.g_l_draw T.F_l_draw.kp T.b_l_draw .nil pass0 (pa_cons (pv 1) (pa_cons (pv 3) pa_nil))) pa_nil))) (pg_tup (by rfl) (pgs_cons (pg_name (i := 5) sc_law.nd rfl (.inr rfl)) (pgs_cons (pg_name (i := 6) sc_law.nd rfl (.inl rfl)) pgs_nil))))
        (pss_cons (ps_set (i := 7) sc_law.nd rfl (.inl rfl) (pe_make T.M_Ring (ok_Ring_init T) (hr.mono (by decide)) rfl T.g_Ring T.b_Ring_init .nil pass0 (pa_cons (pv 4) (pa_cons (pv 5) pa_nil))))
        (pss_cons (ps_set (i := 8) sc_law.nd rfl (.inl rfl) (pe_call (ok_l_rounds T) (hr.mono (by decide)) (by rfl) T.g_l_rounds T.F_l_rounds.kp T.b_l_rounds .nil pass0 (pa_cons (pv 7) (pa_cons (pv 4) pa_nil))))
        (pss_cons (ps_if (pt_cmpR (op_neD hr.units) (pe_call (ok_l_rounds T) (hr.mono (by decide)) (by rfl) T.g_l_rounds T.F_l_rounds.kp T.b_l_rounds .nil pass0 (pa_cons (pe_make T.M_Ring (ok_Ring_init T) (hr.mono (by decide)) rfl T.g_Ring T.b_Ring_init .nil pass0 (pa_cons (pe_op op_cat (pe_slice sl_list (pv 4) (po_some (pv 6)) po_none) (pe_slice sl_list (pv 4) po_none (po_some (pv 6)))) (pa_cons (pv 5) pa_nil))) (pa_cons (pv 4) pa_nil))) (pv 8) (nomark _))
         (pss_one (ps_ret pe_bl))
         pss_nil)
        (pss_cons (ps_set (i := 9) sc_law.nd rfl (.inr rfl) (pe_dictZip rfl T.m_dict T.m_zip (pa_cons (pv 4) (pa_cons (pe_call (ok_l_mixed T) (hr.mono (by decide)) (by rfl) T.g_l_mixed T.F_l_mixed.kp T.b_l_mixed .nil pass0 (pa_cons (pv 1) (pa_cons (pe_call (ok_l_names T) (hr.mono (by decide)) (by rfl) T.g_l_names T.F_l_names.kp T.b_l_names .nil pass0 (pa_cons (pv 1) (pa_cons (pv 3) pa_nil))) pa_nil))) pa_nil))))
        (pss_cons (ps_set (i := 10) sc_law.nd rfl (.inl rfl) (pe_make T.M_Ring (ok_Ring_init T) (hr.mono (by decide)) rfl T.g_Ring T.b_Ring_init .nil pass0 (pa_cons (pe_lc (own := [("_law_name", 12)]) (g := gName 12) (tt := tYes) rfl sc_law.nd (pi_list (pv 4)) (blkOk_by (N := N_law) (sc := defScope s_law) (by decide +kernel)) (fun _ _ _ _ _ => pg_name (i := 12) sc_law.nd rfl (Or.inl rfl)) (fun _ _ _ _ _ => pts_nil) (fun _ _ _ _ _ => (pe_dget hu (pv 9) (pv 12) (fun _ _ => rfl)))) (pa_cons (pe_callTy (call_dictP rfl) (by rfl) T.m_dict (by decide +kernel) (pa_cons (pe_lc (own := [("_law_name", 12)]) (g := gName 12) (tt := tYes) rfl sc_law.nd (pi_list (pv 4)) (blkOk_by (N := N_law) (sc := defScope s_law) (by decide +kernel)) (fun _ _ _ _ _ => pg_name (i := 12) sc_law.nd rfl (Or.inl rfl)) (fun _ _ _ _ _ => pts_nil) (fun _ _ _ _ _ => (pe_tup (pa_cons (pe_dget hu (pv 9) (pv 12) (fun _ _ => rfl)) (pa_cons (pe_dget hu (pv 5) (pv 12) (fun _ _ => rfl)) pa_nil))))) pa_nil)) pa_nil))))
        (pss_cons (ps_if (pt_cmpR (op_neD hr.units) (pe_call (ok_l_rounds T) (hr.mono (by decide)) (by rfl) T.g_l_rounds T.F_l_rounds.kp T.b_l_rounds .nil pass0 (pa_cons (pv 10) (pa_cons (pe_lc (own := [("_law_name", 12)]) (g := gName 12) (tt := tYes) rfl sc_law.nd (pi_list (pv 4)) (blkOk_by (N := N_law) (sc := defScope s_law) (by decide +kernel)) (fun _ _ _ _ _ => pg_name (i := 12) sc_law.nd rfl (Or.inl rfl)) (fun _ _ _ _ _ => pts_nil) (fun _ _ _ _ _ => (pe_dget hu (pv 9) (pv 12) (fun _ _ => rfl)))) pa_nil))) (pe_call (ok_l_renamed T) (hr.mono (by decide)) (by rfl) T.g_l_renamed T.F_l_renamed.kp T.b_l_renamed .nil pass0 (pa_cons (pv 8) (pa_cons (pv 9) pa_nil))) (nomark _))
         (pss_one (ps_ret pe_bl))
         pss_nil)
        (pss_cons (ps_set (i := 11) sc_law.nd rfl (.inl rfl) (pe_callTy (call_dictP rfl) (by rfl) T.m_dict (by decide +kernel) (pa_cons (pe_lc (own := [("_law_name", 12)]) (g := gName 12) (tt := tYes) rfl sc_law.nd (pi_list (pv 4)) (blkOk_by (N := N_law) (sc := defScope s_law) (by decide +kernel)) (fun _ _ _ _ _ => pg_name (i := 12) sc_law.nd rfl (Or.inl rfl)) (fun _ _ _ _ _ => pts_nil) (fun _ _ _ _ _ => (pe_tup (pa_cons (pv 12) (pa_cons (pe_op op_add (pe_dget hu (pv 5) (pv 12) (fun _ _ => rfl)) (pe_op op_mul (pe_call (ok_l_multiple T) (hr.mono (by decide)) (by rfl) T.g_l_multiple T.F_l_multiple.kp T.b_l_multiple .nil pass0 (pa_cons (pv 3) pa_nil)) (pe_op op_sub (pe_call (ok_l_draw T) (hr.mono (by decide)) (by rfl) T.g_l_draw T.F_l_draw.kp T.b_l_draw .nil pass0 (pa_cons (pv 1) (pa_cons pe_int pa_nil))) pe_int))) pa_nil))))) pa_nil)))
        (pss_cons (ps_if (pt_cmpR (op_neD hr.units) (pe_call (ok_l_rounds T) (hr.mono (by decide)) (by rfl) T.g_l_rounds T.F_l_rounds.kp T.b_l_rounds .nil pass0 (pa_cons (pe_make T.M_Ring (ok_Ring_init T) (hr.mono (by decide)) rfl T.g_Ring T.b_Ring_init .nil pass0 (pa_cons (pv 4) (pa_cons (pv 11) pa_nil))) (pa_cons (pv 4) pa_nil))) (pv 8) (nomark _))
         (pss_one (ps_ret pe_bl))
         pss_nil)
        (pss_one (ps_if (pt_not (pt_val (pe_call (ok_l_mirrored_right T) (hr.mono (by decide)) (by rfl) T.g_l_mirrored_right T.F_l_mirrored_right.kp T.b_l_mirrored_right .nil pass0 (pa_cons (pv 7) (pa_cons (pv 4) (pa_cons (pe_call (ok_l_pick T) (hr.mono (by decide)) (by rfl) T.g_l_pick T.F_l_pick.kp T.b_l_pick .nil pass0 (pa_cons (pv 1) (pa_cons (pv 4) pa_nil))) pa_nil))))))
         (pss_one (ps_ret pe_bl))
         pss_nil))))))))))))))
      (pss_one (ps_ret pe_bl)))), ?_⟩
    refine ⟨_, rfl, a, ns, rfl, ha, hl, fun H1 S C sm1 nS nC st1 => ?_⟩
    have hmin : ∀ n : Nat, (2 : Int) + (if (10 : Int) < (n : Int) then 10 else (n : Int)) ≤ 12 ∧ 0 ≤ (2 : Int) + (if (10 : Int) < (n : Int) then 10 else (n : Int)) := fun n => by split <;> omega
    have hm := hmin (ns.map V.int).length
    refine ⟨_, rfl, a, _, rfl, .inl (sm1.seq ha), _, _, rfl, _, _, rfl, rfl, _, rfl, by omega, by omega, ?_⟩
    refine for_range (lo := 0) (n := ((2 : Int) + (if (10 : Int) < ((ns.map V.int).length : Int) then 10 else ((ns.map V.int).length : Int))).toNat) (fun i σ H2 => (∃ u2 u3 u4 u5 u6 u7 u8 u9 u10 u11 u12, σ = [some (.ref a), some (.ref S), u2, u3, u4, u5, u6, u7, u8, u9, u10, u11, u12]) ∧ StOk H2 S C)
      ⟨⟨none, none, none, none, none, none, none, none, none, none, none, rfl⟩, st1⟩ (fun i σ H2 hi hP => ?_) (fun σ H2 hP => q H2)
    obtain ⟨⟨u2, u3, u4, u5, u6, u7, u8, u9, u10, u11, u12, rfl⟩, st2⟩ := hP
    clear hmin hm st1 sm1 nS nC
    refine ⟨_, rfl, S, C, _, rfl, by decide, by decide, st2, fun H3 z m3 st3 z0 z1 => ⟨_, _, rfl, rfl, ?_⟩⟩
    obtain ⟨sz0, sz1, sz2, sz3, sz4, szb⟩ := size_ok z0 z1
    refine ⟨_, rfl, _, rfl, S, C, _, rfl, sz1, sz2, st3, fun H4 p ys m4 st4 np hp hlen hnd hok => ?_⟩
    have g : GoodNs ys := ⟨by omega, by omega, hnd, hok⟩
    have ylen : (ys.length : Int) = 2 + z := by omega
    have l12 := g.twelve
    have l2 := g.two
    have pS := st3.neS np
    have pC := st3.neC np
    refine ⟨_, rfl, _, rfl, S, C, p, ys, rfl, st4, hp, Nat.le_trans l12 (by decide), hnd, g.str, fun H5 sd sl m5 st5 nsd hsl hz => ?_⟩
    have hp := m5 _ _ hp pS pC
    refine ⟨_, rfl, _, rfl, S, C, _, rfl, sz0, szb, st5, fun H6 at' m6 st6 a0 a1 => ⟨(by show 2 ≤ sizeLine; decide), fun tt ntt => ?_⟩⟩
    obtain ⟨at', rfl⟩ : ∃ j : Nat, at' = (j : Int) := ⟨at'.toNat, by omega⟩
    refine ⟨tt, _, rfl, SqT.of upd_same, rfl, _, _, rfl, _, _, rfl, rfl, ?_⟩
    have s7 := same_new (o := .tup [.ref sd, .int (at' : Int)]) ntt
    have hp := s7 _ _ (m6 _ _ hp pS pC)
    have hsl := (hsl.mod m6 st5).same s7
    have st7 := st6.same s7
    generalize upd H6 tt (.tup [.ref sd, .int (at' : Int)]) = H7 at *
    clear m3 m4 m5 m6 st2 st3 st4 st5 st6 s7 ntt np nsd hz
    -- the ring
    refine ⟨_, rfl, _, rfl, fun x dx nx ndx nxd => ?_⟩
    have s8 : Same H7 (upd (upd H7 dx (.own x)) x (.ins T.a_Ring dx [])) := fun b o e => by
      rw [upd_ne (ne_of_none e nx), upd_ne (ne_of_none e ndx)]
      exact e
    refine ⟨x, dx, p, sd, ys, sl, rfl, upd_same, s8 _ _ hp, hsl.same s8, g, fun H8 kp R => ⟨rfl, ?_⟩⟩
    have s78 : Same H7 H8 := fun b o e => kp b o (s8 _ _ e) (ne_of_none e nx)
    have hp := s78 _ _ hp
    have hsl := hsl.same s78
    have st8 := st7.same s78
    clear kp s8 s78 nx ndx st7
    -- rounds
    refine ⟨_, rfl, _, rfl, x, p, ys, ys, sl, rfl, R, hp, l12, fun b h => h, fun H9 l s9 nl hl9 => ?_⟩
    have lS := st8.neS nl
    have lC := st8.neC nl
    have hp := s9 _ _ hp
    have hsl := hsl.same s9
    have R := R.same s9
    have st9 := st8.same s9
    have okR := rounds_ok (sl := sl) g (fun b h => h)
    clear s9 nl st8
    -- turned
    refine ⟨_, rfl, _, rfl, _, rfl, p, _, rfl, SqL.of hp, fun p1 n1 => ?_⟩
    rw [show cutV (ys.map V.str) (some (at' : Int)) none = (ys.drop at').map V.str from (cut_drop _ at').trans (List.map_drop ..).symm]
    have sa := same_new (o := .lst ((ys.drop at').map V.str)) n1
    have h1 := upd_of (o := .lst ((ys.drop at').map V.str)) n1
    refine ⟨_, rfl, _, rfl, _, rfl, p, _, rfl, SqL.of (sa _ _ hp), fun p2 n2 => ?_⟩
    rw [show cutV (ys.map V.str) none (some (at' : Int)) = (ys.take at').map V.str from (cut_take _ at').trans (List.map_take ..).symm]
    have sb := same_new (o := .lst ((ys.take at').map V.str)) n2
    have h2 := upd_of (o := .lst ((ys.take at').map V.str)) n2
    refine ⟨p1, p2, _, _, rfl, rfl, sb _ _ h1, h2, ?_, fun p3 n3 => ?_⟩
    · rw [List.length_map, List.length_map, List.length_drop, List.length_take]
      exact Nat.le_trans (show ys.length - at' + min at' ys.length ≤ 100 by omega) (by decide)
    rw [← List.map_append]
    have sc := same_new (o := .lst ((ys.drop at' ++ ys.take at').map V.str)) n3
    have h3 := upd_of (o := .lst ((ys.drop at' ++ ys.take at').map V.str)) n3
    have hA : ys.take at' ++ ys.drop at' = ys := List.take_append_drop at' ys
    have pT : (ys.drop at' ++ ys.take at').Perm ys := by
      have := List.perm_append_comm (l₁ := ys.drop at') (l₂ := ys.take at')
      rwa [hA] at this
    have eT : roundsOf (ys.drop at' ++ ys.take at') sl ys = roundsOf ys sl ys := rounds_eq fun b hb => by
      have k1 := order_cyc (A := ys.take at') (B := ys.drop at') (sl := sl) (b := b) (by rw [hA]; exact hnd) (by rw [hA]; exact hb)
      have k2 := next_cyc (A := ys.take at') (B := ys.drop at') (sl := sl) (b := b) (by rw [hA]; exact hnd) (by rw [hA]; exact hb)
      rw [hA] at k1 k2
      exact ⟨k1, k2⟩
    generalize ys.drop at' ++ ys.take at' = zs at *
    have sabc := (sa.trans sb).trans sc
    try dsimp only
    generalize upd _ p3 (.lst (zs.map V.str)) = HA at *
    have hp := sabc _ _ hp
    have hsl := hsl.same sabc
    have R := R.same sabc
    have hl9 := hl9.same sabc
    have st9 := st9.same sabc
    clear sa sb sc sabc n1 n2 n3 h1 h2 hA
    refine ⟨_, rfl, fun x2 dx2 nx ndx nxd => ?_⟩
    have s8 : Same HA (upd (upd HA dx2 (.own x2)) x2 (.ins T.a_Ring dx2 [])) := fun b o e => by
      rw [upd_ne (ne_of_none e nx), upd_ne (ne_of_none e ndx)]
      exact e
    refine ⟨x2, dx2, p3, sd, zs, sl, rfl, upd_same, s8 _ _ h3, (hsl.same s8).perm pT, g.perm pT, fun HB kp R2 => ⟨rfl, ?_⟩⟩
    have sAB : Same HA HB := fun b o e => kp b o (s8 _ _ e) (ne_of_none e nx)
    refine ⟨_, rfl, x2, p, zs, ys, sl, rfl, R2, sAB _ _ hp, l12, (fun b h => pT.mem_iff.mpr h), fun HC l2' sBC nl2 hl2 => ?_⟩
    rw [eT] at hl2
    have sAC := sAB.trans sBC
    refine ⟨_, rfl, _, _, dp_rounds hl2, dp_rounds (hl9.same sAC), rounds_shaped okR, rounds_shaped okR, _, rfl, ?_⟩
    refine iteM (rounds_eqv _) ?_
    have hp := sAC _ _ hp
    have hsl := hsl.same sAC
    have R := R.same sAC
    have hl9 := hl9.same sAC
    have st9 := st9.same sAC
    clear kp s8 sAB sBC sAC nx ndx nl2 hl2 R2 h3 eT pT
    -- renamed
    refine ⟨_, rfl, _, rfl, _, rfl, _, rfl, S, C, _, rfl, sz1, sz2, st9, fun HD p4 vs4 m4 st10 np4 hp4 hlen4 hnd4 hok4 => ?_⟩
    have p4S := st9.neS np4
    have p4C := st9.neC np4
    refine ⟨S, C, p4, vs4, rfl, st10, hp4, by omega, (fun y hy => (hok4 y hy).str), fun HE p5 ws m5 st11 np5 hp5 pw => ?_⟩
    have mm := m4.trans m5
    have hp := mm _ _ hp pS pC
    have hsl := hsl.mod mm st9
    have R := R.mod mm st9
    have hl9 := hl9.mod mm st9 lS lC
    have wnd : ws.Nodup := pw.nodup_iff.mpr hnd4
    have wl : ys.length = ws.length := by rw [pw.length_eq]; omega
    have gw : GoodNs ws := ⟨by omega, by omega, wnd, fun y hy => hok4 y (pw.mem_iff.mp hy)⟩
    refine ⟨p, p5, ys.map Sum.inr, ws.map V.str, rfl, by rw [List.map_map]; exact SqL.of hp, SqL.of hp5, by rw [List.length_map, List.length_map]; exact wl, fun fd nfd => ?_⟩
    have sf := same_new (o := .dK (mergeK [] ((ys.map (Sum.inr : Str → Key)).zip (ws.map V.str)))) nfd
    have FA := fresh_at (upd_of (o := .dK (mergeK [] ((ys.map (Sum.inr : Str → Key)).zip (ws.map V.str)))) nfd) hnd wl
    have hp := sf _ _ hp
    have hsl := hsl.same sf
    have R := R.same sf
    have hl9 := hl9.same sf
    have st11 := st11.same sf
    have fm := mapTo_map hnd wl
    have fi := mapTo_inj hnd wnd wl
    have fb : ∀ y ∈ ys, mapTo ws ys (mapTo ys ws y) = y := fun y hy => mapTo_back hnd wnd wl hy
    generalize mapTo ys ws = f at *
    generalize mapTo ws ys = f' at *
    generalize upd HE fd (.dK (mergeK [] ((ys.map (Sum.inr : Str → Key)).zip (ws.map V.str)))) = HF at *
    clear m4 m5 mm st9 st10 np4 np5 hp4 hp5 pw sf nfd hok4 hnd4 hlen4
    have FA0 := FA
    obtain ⟨fk, hfk, hfv⟩ := FA
    have hsl0 := hsl
    obtain ⟨sk, k1, k2, k3, k4⟩ := hsl
    refine ⟨_, rfl, p, rfl, ⟨_, SqL.of hp⟩, fun D nD => ?_⟩
    refine lc_list (K := K) (a := p) (xs := ys.map V.str) (fun j H1 => Same HF H1 ∧ H1 D = some (.lst (((ys.take j).map f).map V.str))) ⟨same_new nD, upd_same⟩ (fun j H1 _ hP => SqL.of (hP.1 _ _ hp)) (fun j v H1 hv hP => ?_) (fun H1 hP => ?_)
    · obtain ⟨sm, hD⟩ := hP
      obtain ⟨y, hy, rfl⟩ := of_strs_at hv
      have hyn := List.mem_of_getElem? hy
      refine ⟨rfl, _, rfl, _, rfl, fd, .str (f y), rfl, by rw [← hfv y hyn]; exact DGet.k (k := Sum.inr y) (sm _ _ hfk), _, hD, ?_, sm.own nD, ?_⟩
      · rw [List.length_map, List.length_map, List.length_take]
        exact small_lt (Nat.lt_of_le_of_lt (Nat.min_le_right _ _) (Nat.lt_of_le_of_lt l12 (by decide)))
      · rw [upd_same, take_snoc hy, List.map_append, List.map_append]
        rfl
    obtain ⟨smD, hD⟩ := hP
    rw [List.length_map, List.take_length, fm] at hD
    refine ⟨_, rfl, p, rfl, ⟨_, SqL.of (smD _ _ hp)⟩, fun D2 nD2 => ?_⟩
    refine lc_list (K := K) (a := p) (xs := ys.map V.str) (fun j H2 => Same H1 H2 ∧ ∃ ps : List Addr, H2 D2 = some (.lst (ps.map V.ref)) ∧ Paired (fun p (kv : Key × V) => H2 p = some (.tup [kV kv.1, kv.2])) ps (slRow (fun w => sl (f' w)) ((ys.take j).map f)) ∧ ps.length = j)
      ⟨same_new nD2, [], upd_same, .nil, rfl⟩ (fun j H2 _ hP => SqL.of (hP.1 _ _ (smD _ _ hp))) (fun j v H2 hv hP => ?_) (fun H2 hP => ?_)
    · obtain ⟨sm, ps, hD2, hps, pl⟩ := hP
      obtain ⟨y, hy, rfl⟩ := of_strs_at hv
      have hyn := List.mem_of_getElem? hy
      have hjl := (List.getElem?_eq_some_iff.mp hy).1
      have s12 := smD.trans sm
      refine ⟨rfl, _, rfl, _, rfl, fd, .str (f y), rfl, by rw [← hfv y hyn]; exact DGet.k (k := Sum.inr y) (s12 _ _ hfk), _, rfl, _, rfl, sd, .int (sl y), rfl, by rw [← k4 y hyn]; exact DGet.k (k := Sum.inr y) (s12 _ _ k1), (by show 2 ≤ sizeLine; decide), fun w nw => ?_⟩
      have sw := same_new (o := .tup [.str (f y), .int (sl y)]) nw
      have hw := upd_of (o := .tup [.str (f y), .int (sl y)]) nw
      have hD3 := sw _ _ hD2
      refine ⟨_, hD3, by rw [List.length_map, pl]; exact small_lt (Nat.lt_trans hjl (Nat.lt_of_le_of_lt l12 (by decide))), (sm.trans sw).own nD2, ps ++ [w], by rw [upd_same, List.map_append]; rfl, ?_, by rw [List.length_append, pl]; rfl⟩
      unfold slRow at hps ⊢
      rw [take_snoc hy, List.map_append, List.map_append]
      refine Paired.snoc (Paired.mapF (fun p kv e => ?_) hps) ?_
      · have e2 := sw _ _ e
        rw [upd_ne (ne_of e2 hD3 (fun z => nomatch z))]
        exact e2
      · rw [upd_ne (ne_of hw hD3 (fun z => nomatch z))]
        show _ = some (HO.tup [V.str (f y), V.int (sl (f' (f y)))])
        rw [fb y hyn]
        exact hw
    obtain ⟨sm, ps, hD2, hps, pl⟩ := hP
    rw [List.length_map, List.take_length, fm] at hps
    refine ⟨D2, ps, _, rfl, SqL.of hD2, Paired.mapF (fun p kv e => SqT.of e) hps, fun od nod => ?_⟩
    have so := same_new (o := .dK (mergeK [] (slRow (fun w => sl (f' w)) ws))) nod
    have SO := slRow_at (upd_of (o := .dK (mergeK [] (slRow (fun w => sl (f' w)) ws))) nod) wnd (.refl ws)
    have s13 := (smD.trans sm).trans so
    have hD := so _ _ (sm _ _ hD)
    generalize upd H2 od (.dK (mergeK [] (slRow (fun w => sl (f' w)) ws))) = HG at *
    clear hps hD2 pl so nod nD2 nD smD sm hfk k1 hfv k4
    refine fun x3 dx3 nx ndx nxd => ?_
    have s8 : Same HG (upd (upd HG dx3 (.own x3)) x3 (.ins T.a_Ring dx3 [])) := fun b o e => by
      rw [upd_ne (ne_of_none e nx), upd_ne (ne_of_none e ndx)]
      exact e
    refine ⟨x3, dx3, D, od, ws, _, rfl, upd_same, s8 _ _ hD, SO.same s8, gw, fun HI kp R3 => ⟨rfl, ?_⟩⟩
    have sGI : Same HG HI := fun b o e => kp b o (s8 _ _ e) (ne_of_none e nx)
    have s14 := s13.trans sGI
    have hp := s14 _ _ hp
    have hsl := hsl0.same s14
    have R := R.same s14
    have hl9 := hl9.same s14
    have st11 := st11.same s14
    have FA := FA0.same s14
    clear kp s8 s13 sGI s14 hD SO nx ndx FA0 hsl0 k2 k3
    have eR : roundsOf ws (fun w => sl (f' w)) ws = (roundsOf ys sl ys).map fun x => (x.1.map f, f x.2) := by
      have := rounds_map (sl := sl) (sl' := fun w => sl (f' w)) hnd fi (fun y hy => by show sl (f' (f y)) = _; rw [fb y hy])
      rwa [fm] at this
    have okW := rounds_ok (sl := fun w => sl (f' w)) gw (fun b h => h)
    have FA0 := FA
    obtain ⟨fk, hfk, hfv⟩ := FA
    refine ⟨_, rfl, _, rfl, p, rfl, ⟨_, SqL.of hp⟩, fun D nD => ?_⟩
    refine lc_list (K := K) (a := p) (xs := ys.map V.str) (fun j H1 => Same HI H1 ∧ H1 D = some (.lst (((ys.take j).map f).map V.str))) ⟨same_new nD, upd_same⟩ (fun j H1 _ hP => SqL.of (hP.1 _ _ hp)) (fun j v H1 hv hP => ?_) (fun H1 hP => ?_)
    · obtain ⟨sm, hD⟩ := hP
      obtain ⟨y, hy, rfl⟩ := of_strs_at hv
      have hyn := List.mem_of_getElem? hy
      refine ⟨rfl, _, rfl, _, rfl, fd, .str (f y), rfl, by rw [← hfv y hyn]; exact DGet.k (k := Sum.inr y) (sm _ _ hfk), _, hD, ?_, sm.own nD, ?_⟩
      · rw [List.length_map, List.length_map, List.length_take]
        exact small_lt (Nat.lt_of_le_of_lt (Nat.min_le_right _ _) (Nat.lt_of_le_of_lt l12 (by decide)))
      · rw [upd_same, take_snoc hy, List.map_append, List.map_append]
        rfl
    obtain ⟨smD, hD⟩ := hP
    rw [List.length_map, List.take_length, fm] at hD
    refine ⟨x3, D, ws, ws, _, rfl, R3.same smD, hD, gw.twelve, fun b h => h, fun HJ l3 s3 nl3 hl3 => ?_⟩
    have sIJ := smD.trans s3
    refine ⟨_, rfl, _, rfl, l, fd, _, ys, f, rfl, hl9.same sIJ, by unfold roundsOf; rw [List.length_map]; exact l12, FA0.same sIJ, rounds_in g, fun HK l4 s4 nl4 hl4 => ?_⟩
    rw [← eR] at hl4
    have sIK := sIJ.trans s4
    refine ⟨_, _, dp_rounds (hl3.same s4), dp_rounds hl4, rounds_shaped okW, rounds_shaped okW, _, rfl, ?_⟩
    refine iteM (rounds_eqv _) ?_
    have hp := sIK _ _ hp
    have hsl := hsl.same sIK
    have R := R.same sIK
    have hl9 := hl9.same sIK
    have stK := st11.same sIK
    clear smD s3 s4 sIJ sIK hD hl3 hl4 nl3 nl4 FA0 hfk hfv eR okW R3 nD st11 fm fi fb
    -- other slips
    have hsl0 := hsl
    obtain ⟨sk, k1, k2, k3, k4⟩ := hsl
    refine ⟨_, rfl, p, rfl, ⟨_, SqL.of hp⟩, fun D nD => ?_⟩
    have DS := stK.neS nD
    have DC := stK.neC nD
    refine lc_list (K := K) (a := p) (xs := ys.map V.str) (fun j H2 => Mod S C HK H2 ∧ StOk H2 S C ∧ ∃ (ps : List Addr) (kvs : List (Key × V)), H2 D = some (.lst (ps.map V.ref)) ∧ Paired (fun p (kv : Key × V) => H2 p = some (.tup [kV kv.1, kv.2])) ps kvs ∧ kvs.map (·.1) = (ys.take j).map Sum.inr ∧ (∀ kv ∈ kvs, LikeSl sl ys.length kv) ∧ ps.length = j)
      ⟨Mod.of (same_new nD), stK.same (same_new nD), [], [], upd_same, .nil, rfl, (fun _ h => nomatch h), rfl⟩ (fun j H2 _ hP => SqL.of (hP.1 _ _ hp pS pC)) (fun j v H2 hv hP => ?_) (fun H2 hP => ?_)
    · obtain ⟨mm, sto, ps, kvs, hD, hps, hk, hz, pl⟩ := hP
      obtain ⟨y, hy, rfl⟩ := of_strs_at hv
      have hyn := List.mem_of_getElem? hy
      have hjl := (List.getElem?_eq_some_iff.mp hy).1
      refine ⟨rfl, _, rfl, _, rfl, _, rfl, sd, .int (sl y), rfl, by rw [← k4 y hyn]; exact DGet.k (k := Sum.inr y) (mm.other stK k1 (fun _ z => nomatch z)), _, rfl, _, rfl, sz3, sz4, fun M hM => ?_⟩
      refine ⟨_, rfl, S, C, _, rfl, by decide, by decide, sto, fun H4 t m4 st4 t0 t1 => ⟨_, _, rfl, rfl, _, _, rfl, rfl, .inr ⟨?_, ?_⟩, _, _, rfl, rfl, (by show 2 ≤ sizeLine; decide), fun w nw => ?_⟩⟩
      · exact (shift_ok t0 t1).1
      · exact (shift_ok t0 t1).2
      have sw := same_new (o := .tup [.str y, .int (sl y + M * (t - 1000))]) nw
      have hw := upd_of (o := .tup [.str y, .int (sl y + M * (t - 1000))]) nw
      have hD3 := sw _ _ (m4 _ _ hD DS DC)
      have st5 := st4.same sw
      refine ⟨_, hD3, by rw [List.length_map, pl]; exact small_lt (Nat.lt_trans hjl (Nat.lt_of_le_of_lt l12 (by decide))), ((mm.trans m4).trans (Mod.of sw)).own nD, st5.upd DS DC, ps ++ [w], kvs ++ [(Sum.inr y, .int (sl y + M * (t - 1000)))], by rw [upd_same, List.map_append]; rfl, ?_, ?_, ?_, by rw [List.length_append, pl]; rfl⟩
      · refine Paired.snoc (Paired.mapF (fun p kv e => ?_) hps) ?_
        · have e2 := sw _ _ (m4.other sto e (fun _ z => nomatch z))
          rw [upd_ne (ne_of e2 hD3 (fun z => nomatch z))]
          exact e2
        · rw [upd_ne (ne_of hw hD3 (fun z => nomatch z))]
          exact hw
      · rw [List.map_append, hk, take_snoc hy, List.map_append]
        rfl
      · intro kv hkv
        rcases List.mem_append.mp hkv with hkv | hkv
        · exact hz kv hkv
        · rw [List.mem_singleton] at hkv
          exact ⟨y, _, hkv, fun k a b => mod_more (hM k a (by rw [← ylen]; exact Int.ofNat_le.mpr b))⟩
    obtain ⟨mm, sto, ps, kvs, hD, hps, hk, hz, pl⟩ := hP
    rw [List.length_map, List.take_length] at hk
    refine ⟨D, ps, kvs, rfl, SqL.of hD, Paired.mapF (fun p kv e => SqT.of e) hps, fun md nmd => ?_⟩
    have so := same_new (o := .dK (mergeK [] kvs)) nmd
    obtain ⟨sl3, SM, hlike⟩ := like_at (upd_of (o := .dK (mergeK [] kvs)) nmd) hnd hk hz
    have hp := so _ _ (mm _ _ hp pS pC)
    have R := (R.mod mm stK).same so
    have hl9 := (hl9.mod mm stK lS lC).same so
    have stM := sto.same so
    generalize upd H2 md (.dK (mergeK [] kvs)) = HM at *
    clear so nmd hps hk hz pl hD k1 k2 k3 k4 hsl0 mm sto stK nD
    refine ⟨_, rfl, _, rfl, fun x4 dx4 nx ndx nxd => ?_⟩
    have s8 : Same HM (upd (upd HM dx4 (.own x4)) x4 (.ins T.a_Ring dx4 [])) := fun b o e => by
      rw [upd_ne (ne_of_none e nx), upd_ne (ne_of_none e ndx)]
      exact e
    refine ⟨x4, dx4, p, md, ys, sl3, rfl, upd_same, s8 _ _ hp, SM.same s8, g, fun HN kp R4 => ⟨rfl, ?_⟩⟩
    have sMN : Same HM HN := fun b o e => kp b o (s8 _ _ e) (ne_of_none e nx)
    refine ⟨_, rfl, x4, p, ys, ys, sl3, rfl, R4, sMN _ _ hp, l12, fun b h => h, fun HP l5 s5 nl5 hl5 => ?_⟩
    have eM : roundsOf ys sl3 ys = roundsOf ys sl ys := rounds_eq fun b hb => ⟨order_mod hb hlike, next_mod hb hlike⟩
    rw [eM] at hl5
    have sMP := sMN.trans s5
    refine ⟨_, rfl, _, _, dp_rounds hl5, dp_rounds (hl9.same sMP), rounds_shaped okR, rounds_shaped okR, _, rfl, ?_⟩
    refine iteM (rounds_eqv _) ?_
    have hp := sMP _ _ hp
    have R := R.same sMP
    have stP := stM.same sMP
    -- mirrored
    refine ⟨_, rfl, _, rfl, _, rfl, _, rfl, S, C, .ref p, rfl, stP, .inl ⟨p, _, rfl, pS, pC, hp, by rw [List.length_map]; omega, by rw [List.length_map]; omega, fun HQ v mq stQ hv => ?_⟩⟩
    obtain ⟨b, hb, rfl⟩ := List.mem_map.mp hv
    exact ⟨x, p, ys, sl, b, rfl, R.mod mq stP, mq _ _ hp pS pC, g, hb, fun HR sr => ⟨true, rfl, ⟨⟨_, _, _, _, _, _, _, _, _, _, _, rfl⟩, stQ.same sr⟩⟩⟩
end
end K13
namespace K13
open PySem PySem.Spec PyProof.Rows L2 GL
theorem all_mk {l : PySem.W.OpenLaw} {w : World} {K : PySem.W.Frag} {h : Heap} {mg : Str → Option Value} {fa : Addr}
    {c_Ring : Addr}
    {f_is_number : Addr} {od_is_number an_is_number : Option Addr} {sl_is_number : Array (Option Value)} {oc_is_number kV_is_number dc_is_number pm_is_number cd_is_number ct_is_number : Value}
    {f_is_name : Addr} {od_is_name an_is_name : Option Addr} {sl_is_name : Array (Option Value)} {oc_is_name kV_is_name dc_is_name pm_is_name cd_is_name ct_is_name : Value}
    {f_is_names : Addr} {od_is_names an_is_names : Option Addr} {sl_is_names : Array (Option Value)} {oc_is_names kV_is_names dc_is_names pm_is_names cd_is_names ct_is_names : Value}
    {f_check_names : Addr} {od_check_names an_check_names : Option Addr} {sl_check_names : Array (Option Value)} {oc_check_names kV_check_names dc_check_names pm_check_names cd_check_names ct_check_names : Value}
    {f_check_name : Addr} {od_check_name an_check_name : Option Addr} {sl_check_name : Array (Option Value)} {oc_check_name kV_check_name dc_check_name pm_check_name cd_check_name ct_check_name : Value}
    {f_is_slips : Addr} {od_is_slips an_is_slips : Option Addr} {sl_is_slips : Array (Option Value)} {oc_is_slips kV_is_slips dc_is_slips pm_is_slips cd_is_slips ct_is_slips : Value}
    {f_listed_behind : Addr} {od_listed_behind an_listed_behind : Option Addr} {sl_listed_behind : Array (Option Value)} {oc_listed_behind kV_listed_behind dc_listed_behind pm_listed_behind cd_listed_behind ct_listed_behind : Value}
    {f_who_sit : Addr} {od_who_sit an_who_sit : Option Addr} {sl_who_sit : Array (Option Value)} {oc_who_sit kV_who_sit dc_who_sit pm_who_sit cd_who_sit ct_who_sit : Value}
    {f_l_state : Addr} {od_l_state an_l_state : Option Addr} {sl_l_state : Array (Option Value)} {oc_l_state kV_l_state dc_l_state pm_l_state cd_l_state ct_l_state : Value}
    {f_l_draw : Addr} {od_l_draw an_l_draw : Option Addr} {sl_l_draw : Array (Option Value)} {oc_l_draw kV_l_draw dc_l_draw pm_l_draw cd_l_draw ct_l_draw : Value}
    {f_l_pick : Addr} {od_l_pick an_l_pick : Option Addr} {sl_l_pick : Array (Option Value)} {oc_l_pick kV_l_pick dc_l_pick pm_l_pick cd_l_pick ct_l_pick : Value}
    {f_l_mixed : Addr} {od_l_mixed an_l_mixed : Option Addr} {sl_l_mixed : Array (Option Value)} {oc_l_mixed kV_l_mixed dc_l_mixed pm_l_mixed cd_l_mixed ct_l_mixed : Value}
    {f_l_names : Addr} {od_l_names an_l_names : Option Addr} {sl_l_names : Array (Option Value)} {oc_l_names kV_l_names dc_l_names pm_l_names cd_l_names ct_l_names : Value}
    {f_l_slip : Addr} {od_l_slip an_l_slip : Option Addr} {sl_l_slip : Array (Option Value)} {oc_l_slip kV_l_slip dc_l_slip pm_l_slip cd_l_slip ct_l_slip : Value}
    {f_l_slips : Addr} {od_l_slips an_l_slips : Option Addr} {sl_l_slips : Array (Option Value)} {oc_l_slips kV_l_slips dc_l_slips pm_l_slips cd_l_slips ct_l_slips : Value}
    {f_l_multiple : Addr} {od_l_multiple an_l_multiple : Option Addr} {sl_l_multiple : Array (Option Value)} {oc_l_multiple kV_l_multiple dc_l_multiple pm_l_multiple cd_l_multiple ct_l_multiple : Value}
    {f_l_rounds : Addr} {od_l_rounds an_l_rounds : Option Addr} {sl_l_rounds : Array (Option Value)} {oc_l_rounds kV_l_rounds dc_l_rounds pm_l_rounds cd_l_rounds ct_l_rounds : Value}
    {f_l_renamed : Addr} {od_l_renamed an_l_renamed : Option Addr} {sl_l_renamed : Array (Option Value)} {oc_l_renamed kV_l_renamed dc_l_renamed pm_l_renamed cd_l_renamed ct_l_renamed : Value}
    {f_l_mirrored_right : Addr} {od_l_mirrored_right an_l_mirrored_right : Option Addr} {sl_l_mirrored_right : Array (Option Value)} {oc_l_mirrored_right kV_l_mirrored_right dc_l_mirrored_right pm_l_mirrored_right cd_l_mirrored_right ct_l_mirrored_right : Value}
    {f_law : Addr} {od_law an_law : Option Addr} {sl_law : Array (Option Value)} {oc_law kV_law dc_law pm_law cd_law ct_law : Value}
    {f_Ring_init : Addr} {od_Ring_init an_Ring_init : Option Addr} {sl_Ring_init : Array (Option Value)} {oc_Ring_init kV_Ring_init dc_Ring_init pm_Ring_init cd_Ring_init ct_Ring_init : Value}
    {f_Ring_slip : Addr} {od_Ring_slip an_Ring_slip : Option Addr} {sl_Ring_slip : Array (Option Value)} {oc_Ring_slip kV_Ring_slip dc_Ring_slip pm_Ring_slip cd_Ring_slip ct_Ring_slip : Value}
    {f_Ring_order : Addr} {od_Ring_order an_Ring_order : Option Addr} {sl_Ring_order : Array (Option Value)} {oc_Ring_order kV_Ring_order dc_Ring_order pm_Ring_order cd_Ring_order ct_Ring_order : Value}
    {f_Ring_next_of : Addr} {od_Ring_next_of an_Ring_next_of : Option Addr} {sl_Ring_next_of : Array (Option Value)} {oc_Ring_next_of kV_Ring_next_of dc_Ring_next_of pm_Ring_next_of cd_Ring_next_of ct_Ring_next_of : Value}
    {f_Ring_counted_on : Addr} {od_Ring_counted_on an_Ring_counted_on : Option Addr} {sl_Ring_counted_on : Array (Option Value)} {oc_Ring_counted_on kV_Ring_counted_on dc_Ring_counted_on pm_Ring_counted_on cd_Ring_counted_on ct_Ring_counted_on : Value}
    {tk_LETTERS : Tok}
    {tk_LONGEST_NAME : Tok}
    {tk_FEWEST : Tok}
    {tk_MOST : Tok}
    (X : K.In h) (G : h.Ns mainGlobals mg) (hfa : mg "law" = some (.ref fa))
    (aC_Ring : PySem.W.nsIn K mainGlobals "Ring" = some (some (.ref c_Ring)))
    (pg_Ring : PySem.W.plainGet K c_Ring Str.empty = true)
    (hd_Ring : PySem.W.hasDictIn K c_Ring = true)
    (po_Ring : PySem.W.plainOver K c_Ring = true)
    (sa_Ring : PySem.W.findIn K (.ref c_Ring) "__setattr__" = some (some (.builtin "object.__setattr__")))
    (mk_Ring : PySem.W.makesIn K c_Ring = true)
    (kc_Ring : PySem.W.keepIn K (.ref c_Ring) = true)
    (na_Ring__names : PySem.W.findIn K (.ref c_Ring) "_names" = some none)
    (na_Ring__slips : PySem.W.findIn K (.ref c_Ring) "_slips" = some none)
    (a_is_number : PySem.W.nsIn K mainGlobals "is_number" = some (some (.ref f_is_number)))
    (l_is_number : K.lookup f_is_number = some ⟨oc_is_number, od_is_number, .func (PySem.W.fnOf "is_number" "is_number" (defArgs s_is_number) (defBody s_is_number) (defScope s_is_number) .none kV_is_number dc_is_number pm_is_number an_is_number cd_is_number ct_is_number), sl_is_number⟩)
    (c_is_number_ : PySem.W.codeIn K cd_is_number "is_number" = true)
    (k_is_number : PySem.W.keepIn K (.ref f_is_number) = true)
    (a_is_name : PySem.W.nsIn K mainGlobals "is_name" = some (some (.ref f_is_name)))
    (l_is_name : K.lookup f_is_name = some ⟨oc_is_name, od_is_name, .func (PySem.W.fnOf "is_name" "is_name" (defArgs s_is_name) (defBody s_is_name) (defScope s_is_name) .none kV_is_name dc_is_name pm_is_name an_is_name cd_is_name ct_is_name), sl_is_name⟩)
    (c_is_name_ : PySem.W.codeIn K cd_is_name "is_name" = true)
    (k_is_name : PySem.W.keepIn K (.ref f_is_name) = true)
    (a_is_names : PySem.W.nsIn K mainGlobals "is_names" = some (some (.ref f_is_names)))
    (l_is_names : K.lookup f_is_names = some ⟨oc_is_names, od_is_names, .func (PySem.W.fnOf "is_names" "is_names" (defArgs s_is_names) (defBody s_is_names) (defScope s_is_names) .none kV_is_names dc_is_names pm_is_names an_is_names cd_is_names ct_is_names), sl_is_names⟩)
    (c_is_names_ : PySem.W.codeIn K cd_is_names "is_names" = true)
    (k_is_names : PySem.W.keepIn K (.ref f_is_names) = true)
    (a_check_names : PySem.W.nsIn K mainGlobals "check_names" = some (some (.ref f_check_names)))
    (l_check_names : K.lookup f_check_names = some ⟨oc_check_names, od_check_names, .func (PySem.W.fnOf "check_names" "check_names" (defArgs s_check_names) (defBody s_check_names) (defScope s_check_names) .none kV_check_names dc_check_names pm_check_names an_check_names cd_check_names ct_check_names), sl_check_names⟩)
    (c_check_names_ : PySem.W.codeIn K cd_check_names "check_names" = true)
    (k_check_names : PySem.W.keepIn K (.ref f_check_names) = true)
    (a_check_name : PySem.W.nsIn K mainGlobals "check_name" = some (some (.ref f_check_name)))
    (l_check_name : K.lookup f_check_name = some ⟨oc_check_name, od_check_name, .func (PySem.W.fnOf "check_name" "check_name" (defArgs s_check_name) (defBody s_check_name) (defScope s_check_name) .none kV_check_name dc_check_name pm_check_name an_check_name cd_check_name ct_check_name), sl_check_name⟩)
    (c_check_name_ : PySem.W.codeIn K cd_check_name "check_name" = true)
    (k_check_name : PySem.W.keepIn K (.ref f_check_name) = true)
    (a_is_slips : PySem.W.nsIn K mainGlobals "is_slips" = some (some (.ref f_is_slips)))
    (l_is_slips : K.lookup f_is_slips = some ⟨oc_is_slips, od_is_slips, .func (PySem.W.fnOf "is_slips" "is_slips" (defArgs s_is_slips) (defBody s_is_slips) (defScope s_is_slips) .none kV_is_slips dc_is_slips pm_is_slips an_is_slips cd_is_slips ct_is_slips), sl_is_slips⟩)
    (c_is_slips_ : PySem.W.codeIn K cd_is_slips "is_slips" = true)
    (k_is_slips : PySem.W.keepIn K (.ref f_is_slips) = true)
    (a_listed_behind : PySem.W.nsIn K mainGlobals "listed_behind" = some (some (.ref f_listed_behind)))
    (l_listed_behind : K.lookup f_listed_behind = some ⟨oc_listed_behind, od_listed_behind, .func (PySem.W.fnOf "listed_behind" "listed_behind" (defArgs s_listed_behind) (defBody s_listed_behind) (defScope s_listed_behind) .none kV_listed_behind dc_listed_behind pm_listed_behind an_listed_behind cd_listed_behind ct_listed_behind), sl_listed_behind⟩)
    (c_listed_behind_ : PySem.W.codeIn K cd_listed_behind "listed_behind" = true)
    (k_listed_behind : PySem.W.keepIn K (.ref f_listed_behind) = true)
    (a_who_sit : PySem.W.nsIn K mainGlobals "who_sit" = some (some (.ref f_who_sit)))
    (l_who_sit : K.lookup f_who_sit = some ⟨oc_who_sit, od_who_sit, .func (PySem.W.fnOf "who_sit" "who_sit" (defArgs s_who_sit) (defBody s_who_sit) (defScope s_who_sit) .none kV_who_sit dc_who_sit pm_who_sit an_who_sit cd_who_sit ct_who_sit), sl_who_sit⟩)
    (c_who_sit_ : PySem.W.codeIn K cd_who_sit "who_sit" = true)
    (k_who_sit : PySem.W.keepIn K (.ref f_who_sit) = true)
    (a_l_state : PySem.W.nsIn K mainGlobals "_law_state" = some (some (.ref f_l_state)))
    (l_l_state : K.lookup f_l_state = some ⟨oc_l_state, od_l_state, .func (PySem.W.fnOf "_law_state" "_law_state" (defArgs s_l_state) (defBody s_l_state) (defScope s_l_state) .none kV_l_state dc_l_state pm_l_state an_l_state cd_l_state ct_l_state), sl_l_state⟩)
    (c_l_state_ : PySem.W.codeIn K cd_l_state "_law_state" = true)
    (k_l_state : PySem.W.keepIn K (.ref f_l_state) = true)
    (a_l_draw : PySem.W.nsIn K mainGlobals "_law_draw" = some (some (.ref f_l_draw)))
    (l_l_draw : K.lookup f_l_draw = some ⟨oc_l_draw, od_l_draw, .func (PySem.W.fnOf "_law_draw" "_law_draw" (defArgs s_l_draw) (defBody s_l_draw) (defScope s_l_draw) .none kV_l_draw dc_l_draw pm_l_draw an_l_draw cd_l_draw ct_l_draw), sl_l_draw⟩)
    (c_l_draw_ : PySem.W.codeIn K cd_l_draw "_law_draw" = true)
    (k_l_draw : PySem.W.keepIn K (.ref f_l_draw) = true)
    (a_l_pick : PySem.W.nsIn K mainGlobals "_law_pick" = some (some (.ref f_l_pick)))
    (l_l_pick : K.lookup f_l_pick = some ⟨oc_l_pick, od_l_pick, .func (PySem.W.fnOf "_law_pick" "_law_pick" (defArgs s_l_pick) (defBody s_l_pick) (defScope s_l_pick) .none kV_l_pick dc_l_pick pm_l_pick an_l_pick cd_l_pick ct_l_pick), sl_l_pick⟩)
    (c_l_pick_ : PySem.W.codeIn K cd_l_pick "_law_pick" = true)
    (k_l_pick : PySem.W.keepIn K (.ref f_l_pick) = true)
    (a_l_mixed : PySem.W.nsIn K mainGlobals "_law_mixed" = some (some (.ref f_l_mixed)))
    (l_l_mixed : K.lookup f_l_mixed = some ⟨oc_l_mixed, od_l_mixed, .func (PySem.W.fnOf "_law_mixed" "_law_mixed" (defArgs s_l_mixed) (defBody s_l_mixed) (defScope s_l_mixed) .none kV_l_mixed dc_l_mixed pm_l_mixed an_l_mixed cd_l_mixed ct_l_mixed), sl_l_mixed⟩)
    (c_l_mixed_ : PySem.W.codeIn K cd_l_mixed "_law_mixed" = true)
    (k_l_mixed : PySem.W.keepIn K (.ref f_l_mixed) = true)
    (a_l_names : PySem.W.nsIn K mainGlobals "_law_names" = some (some (.ref f_l_names)))
    (l_l_names : K.lookup f_l_names = some ⟨oc_l_names, od_l_names, .func (PySem.W.fnOf "_law_names" "_law_names" (defArgs s_l_names) (defBody s_l_names) (defScope s_l_names) .none kV_l_names dc_l_names pm_l_names an_l_names cd_l_names ct_l_names), sl_l_names⟩)
    (c_l_names_ : PySem.W.codeIn K cd_l_names "_law_names" = true)
    (k_l_names : PySem.W.keepIn K (.ref f_l_names) = true)
    (a_l_slip : PySem.W.nsIn K mainGlobals "_law_slip" = some (some (.ref f_l_slip)))
    (l_l_slip : K.lookup f_l_slip = some ⟨oc_l_slip, od_l_slip, .func (PySem.W.fnOf "_law_slip" "_law_slip" (defArgs s_l_slip) (defBody s_l_slip) (defScope s_l_slip) .none kV_l_slip dc_l_slip pm_l_slip an_l_slip cd_l_slip ct_l_slip), sl_l_slip⟩)
    (c_l_slip_ : PySem.W.codeIn K cd_l_slip "_law_slip" = true)
    (k_l_slip : PySem.W.keepIn K (.ref f_l_slip) = true)
    (a_l_slips : PySem.W.nsIn K mainGlobals "_law_slips" = some (some (.ref f_l_slips)))
    (l_l_slips : K.lookup f_l_slips = some ⟨oc_l_slips, od_l_slips, .func (PySem.W.fnOf "_law_slips" "_law_slips" (defArgs s_l_slips) (defBody s_l_slips) (defScope s_l_slips) .none kV_l_slips dc_l_slips pm_l_slips an_l_slips cd_l_slips ct_l_slips), sl_l_slips⟩)
    (c_l_slips_ : PySem.W.codeIn K cd_l_slips "_law_slips" = true)
    (k_l_slips : PySem.W.keepIn K (.ref f_l_slips) = true)
    (a_l_multiple : PySem.W.nsIn K mainGlobals "_law_multiple" = some (some (.ref f_l_multiple)))
    (l_l_multiple : K.lookup f_l_multiple = some ⟨oc_l_multiple, od_l_multiple, .func (PySem.W.fnOf "_law_multiple" "_law_multiple" (defArgs s_l_multiple) (defBody s_l_multiple) (defScope s_l_multiple) .none kV_l_multiple dc_l_multiple pm_l_multiple an_l_multiple cd_l_multiple ct_l_multiple), sl_l_multiple⟩)
    (c_l_multiple_ : PySem.W.codeIn K cd_l_multiple "_law_multiple" = true)
    (k_l_multiple : PySem.W.keepIn K (.ref f_l_multiple) = true)
    (a_l_rounds : PySem.W.nsIn K mainGlobals "_law_rounds" = some (some (.ref f_l_rounds)))
    (l_l_rounds : K.lookup f_l_rounds = some ⟨oc_l_rounds, od_l_rounds, .func (PySem.W.fnOf "_law_rounds" "_law_rounds" (defArgs s_l_rounds) (defBody s_l_rounds) (defScope s_l_rounds) .none kV_l_rounds dc_l_rounds pm_l_rounds an_l_rounds cd_l_rounds ct_l_rounds), sl_l_rounds⟩)
    (c_l_rounds_ : PySem.W.codeIn K cd_l_rounds "_law_rounds" = true)
    (k_l_rounds : PySem.W.keepIn K (.ref f_l_rounds) = true)
    (a_l_renamed : PySem.W.nsIn K mainGlobals "_law_renamed" = some (some (.ref f_l_renamed)))
    (l_l_renamed : K.lookup f_l_renamed = some ⟨oc_l_renamed, od_l_renamed, .func (PySem.W.fnOf "_law_renamed" "_law_renamed" (defArgs s_l_renamed) (defBody s_l_renamed) (defScope s_l_renamed) .none kV_l_renamed dc_l_renamed pm_l_renamed an_l_renamed cd_l_renamed ct_l_renamed), sl_l_renamed⟩)
    (c_l_renamed_ : PySem.W.codeIn K cd_l_renamed "_law_renamed" = true)
    (k_l_renamed : PySem.W.keepIn K (.ref f_l_renamed) = true)
    (a_l_mirrored_right : PySem.W.nsIn K mainGlobals "_law_mirrored_right" = some (some (.ref f_l_mirrored_right)))
    (l_l_mirrored_right : K.lookup f_l_mirrored_right = some ⟨oc_l_mirrored_right, od_l_mirrored_right, .func (PySem.W.fnOf "_law_mirrored_right" "_law_mirrored_right" (defArgs s_l_mirrored_right) (defBody s_l_mirrored_right) (defScope s_l_mirrored_right) .none kV_l_mirrored_right dc_l_mirrored_right pm_l_mirrored_right an_l_mirrored_right cd_l_mirrored_right ct_l_mirrored_right), sl_l_mirrored_right⟩)
    (c_l_mirrored_right_ : PySem.W.codeIn K cd_l_mirrored_right "_law_mirrored_right" = true)
    (k_l_mirrored_right : PySem.W.keepIn K (.ref f_l_mirrored_right) = true)
    (a_law : PySem.W.nsIn K mainGlobals "law" = some (some (.ref f_law)))
    (l_law : K.lookup f_law = some ⟨oc_law, od_law, .func (PySem.W.fnOf "law" "law" (defArgs s_law) (defBody s_law) (defScope s_law) .none kV_law dc_law pm_law an_law cd_law ct_law), sl_law⟩)
    (c_law_ : PySem.W.codeIn K cd_law "law" = true)
    (k_law : PySem.W.keepIn K (.ref f_law) = true)
    (a_Ring_init : PySem.W.findIn K (.ref c_Ring) "__init__" = some (some (.ref f_Ring_init)))
    (i_Ring_init : PySem.W.isFn K (.ref f_Ring_init) = true)
    (l_Ring_init : K.lookup f_Ring_init = some ⟨oc_Ring_init, od_Ring_init, .func (PySem.W.fnOf "__init__" "Ring.__init__" (defArgs s_Ring_init) (defBody s_Ring_init) (defScope s_Ring_init) .none kV_Ring_init dc_Ring_init pm_Ring_init an_Ring_init cd_Ring_init ct_Ring_init), sl_Ring_init⟩)
    (c_Ring_init_ : PySem.W.codeIn K cd_Ring_init "Ring.__init__" = true)
    (k_Ring_init : PySem.W.keepIn K (.ref f_Ring_init) = true)
    (a_Ring_slip : PySem.W.findIn K (.ref c_Ring) "slip" = some (some (.ref f_Ring_slip)))
    (i_Ring_slip : PySem.W.isFn K (.ref f_Ring_slip) = true)
    (l_Ring_slip : K.lookup f_Ring_slip = some ⟨oc_Ring_slip, od_Ring_slip, .func (PySem.W.fnOf "slip" "Ring.slip" (defArgs s_Ring_slip) (defBody s_Ring_slip) (defScope s_Ring_slip) .none kV_Ring_slip dc_Ring_slip pm_Ring_slip an_Ring_slip cd_Ring_slip ct_Ring_slip), sl_Ring_slip⟩)
    (c_Ring_slip_ : PySem.W.codeIn K cd_Ring_slip "Ring.slip" = true)
    (k_Ring_slip : PySem.W.keepIn K (.ref f_Ring_slip) = true)
    (a_Ring_order : PySem.W.findIn K (.ref c_Ring) "order" = some (some (.ref f_Ring_order)))
    (i_Ring_order : PySem.W.isFn K (.ref f_Ring_order) = true)
    (l_Ring_order : K.lookup f_Ring_order = some ⟨oc_Ring_order, od_Ring_order, .func (PySem.W.fnOf "order" "Ring.order" (defArgs s_Ring_order) (defBody s_Ring_order) (defScope s_Ring_order) .none kV_Ring_order dc_Ring_order pm_Ring_order an_Ring_order cd_Ring_order ct_Ring_order), sl_Ring_order⟩)
    (c_Ring_order_ : PySem.W.codeIn K cd_Ring_order "Ring.order" = true)
    (k_Ring_order : PySem.W.keepIn K (.ref f_Ring_order) = true)
    (a_Ring_next_of : PySem.W.findIn K (.ref c_Ring) "next_of" = some (some (.ref f_Ring_next_of)))
    (i_Ring_next_of : PySem.W.isFn K (.ref f_Ring_next_of) = true)
    (l_Ring_next_of : K.lookup f_Ring_next_of = some ⟨oc_Ring_next_of, od_Ring_next_of, .func (PySem.W.fnOf "next_of" "Ring.next_of" (defArgs s_Ring_next_of) (defBody s_Ring_next_of) (defScope s_Ring_next_of) .none kV_Ring_next_of dc_Ring_next_of pm_Ring_next_of an_Ring_next_of cd_Ring_next_of ct_Ring_next_of), sl_Ring_next_of⟩)
    (c_Ring_next_of_ : PySem.W.codeIn K cd_Ring_next_of "Ring.next_of" = true)
    (k_Ring_next_of : PySem.W.keepIn K (.ref f_Ring_next_of) = true)
    (a_Ring_counted_on : PySem.W.findIn K (.ref c_Ring) "_counted_on" = some (some (.ref f_Ring_counted_on)))
    (i_Ring_counted_on : PySem.W.isFn K (.ref f_Ring_counted_on) = true)
    (l_Ring_counted_on : K.lookup f_Ring_counted_on = some ⟨oc_Ring_counted_on, od_Ring_counted_on, .func (PySem.W.fnOf "_counted_on" "Ring._counted_on" (defArgs s_Ring_counted_on) (defBody s_Ring_counted_on) (defScope s_Ring_counted_on) .none kV_Ring_counted_on dc_Ring_counted_on pm_Ring_counted_on an_Ring_counted_on cd_Ring_counted_on ct_Ring_counted_on), sl_Ring_counted_on⟩)
    (c_Ring_counted_on_ : PySem.W.codeIn K cd_Ring_counted_on "Ring._counted_on" = true)
    (k_Ring_counted_on : PySem.W.keepIn K (.ref f_Ring_counted_on) = true)
    (z_LETTERS : PySem.W.nsIn K mainGlobals "LETTERS" = some (some (.str "abcdefghijklmnopqrstuvwxyz" tk_LETTERS)))
    (z_LONGEST_NAME : PySem.W.nsIn K mainGlobals "LONGEST_NAME" = some (some (.int 8 tk_LONGEST_NAME)))
    (z_FEWEST : PySem.W.nsIn K mainGlobals "FEWEST" = some (some (.int 2 tk_FEWEST)))
    (z_MOST : PySem.W.nsIn K mainGlobals "MOST" = some (some (.int 12 tk_MOST)))
    (zm_abs : PySem.W.nsIn K mainGlobals "abs" = some none)
    (zm_all : PySem.W.nsIn K mainGlobals "all" = some none)
    (zm_bool : PySem.W.nsIn K mainGlobals "bool" = some none)
    (zm_dict : PySem.W.nsIn K mainGlobals "dict" = some none)
    (zm_int : PySem.W.nsIn K mainGlobals "int" = some none)
    (zm_isinstance : PySem.W.nsIn K mainGlobals "isinstance" = some none)
    (zm_len : PySem.W.nsIn K mainGlobals "len" = some none)
    (zm_list : PySem.W.nsIn K mainGlobals "list" = some none)
    (zm_min : PySem.W.nsIn K mainGlobals "min" = some none)
    (zm_range : PySem.W.nsIn K mainGlobals "range" = some none)
    (zm_set : PySem.W.nsIn K mainGlobals "set" = some none)
    (zm_str : PySem.W.nsIn K mainGlobals "str" = some none)
    (zm_tuple : PySem.W.nsIn K mainGlobals "tuple" = some none)
    (zm_zip : PySem.W.nsIn K mainGlobals "zip" = some none) :
    ∃ fd : FuncData, (∀ (s : Shared) (v : Value), BindsTo s fd ⟨[v], []⟩ [("_law_script", v)]) ∧ ∀ base : Heap, K.In base → base.Ns mainGlobals mg → FnOk l.prog w K mg base CX0 9 fa fd ["_law_script"] (spLaw K) := by
  obtain rfl : f_law = fa := (Value.ref.inj (Option.some.inj (hfa.symm.trans (PySem.W.mg_of X G a_law)))).symm
  have F_is_number := fun_mk (st := s_is_number) l_is_number c_is_number_ k_is_number
  have F_is_name := fun_mk (st := s_is_name) l_is_name c_is_name_ k_is_name
  have F_is_names := fun_mk (st := s_is_names) l_is_names c_is_names_ k_is_names
  have F_check_names := fun_mk (st := s_check_names) l_check_names c_check_names_ k_check_names
  have F_check_name := fun_mk (st := s_check_name) l_check_name c_check_name_ k_check_name
  have F_is_slips := fun_mk (st := s_is_slips) l_is_slips c_is_slips_ k_is_slips
  have F_listed_behind := fun_mk (st := s_listed_behind) l_listed_behind c_listed_behind_ k_listed_behind
  have F_who_sit := fun_mk (st := s_who_sit) l_who_sit c_who_sit_ k_who_sit
  have F_l_state := fun_mk (st := s_l_state) l_l_state c_l_state_ k_l_state
  have F_l_draw := fun_mk (st := s_l_draw) l_l_draw c_l_draw_ k_l_draw
  have F_l_pick := fun_mk (st := s_l_pick) l_l_pick c_l_pick_ k_l_pick
  have F_l_mixed := fun_mk (st := s_l_mixed) l_l_mixed c_l_mixed_ k_l_mixed
  have F_l_names := fun_mk (st := s_l_names) l_l_names c_l_names_ k_l_names
  have F_l_slip := fun_mk (st := s_l_slip) l_l_slip c_l_slip_ k_l_slip
  have F_l_slips := fun_mk (st := s_l_slips) l_l_slips c_l_slips_ k_l_slips
  have F_l_multiple := fun_mk (st := s_l_multiple) l_l_multiple c_l_multiple_ k_l_multiple
  have F_l_rounds := fun_mk (st := s_l_rounds) l_l_rounds c_l_rounds_ k_l_rounds
  have F_l_renamed := fun_mk (st := s_l_renamed) l_l_renamed c_l_renamed_ k_l_renamed
  have F_l_mirrored_right := fun_mk (st := s_l_mirrored_right) l_l_mirrored_right c_l_mirrored_right_ k_l_mirrored_right
  have F_law := fun_mk (st := s_law) l_law c_law_ k_law
  have F_Ring_init := fun_mk (st := s_Ring_init) l_Ring_init c_Ring_init_ k_Ring_init
  have F_Ring_slip := fun_mk (st := s_Ring_slip) l_Ring_slip c_Ring_slip_ k_Ring_slip
  have F_Ring_order := fun_mk (st := s_Ring_order) l_Ring_order c_Ring_order_ k_Ring_order
  have F_Ring_next_of := fun_mk (st := s_Ring_next_of) l_Ring_next_of c_Ring_next_of_ k_Ring_next_of
  have F_Ring_counted_on := fun_mk (st := s_Ring_counted_on) l_Ring_counted_on c_Ring_counted_on_ k_Ring_counted_on
  let T : Tx K mg := {
    a_Ring := c_Ring,
    cl_Ring := ⟨pg_Ring, hd_Ring, po_Ring, sa_Ring⟩,
    g_Ring := PySem.W.mg_of X G aC_Ring,
    n_Ring__names := na_Ring__names,
    n_Ring__slips := na_Ring__slips,
    a_is_number := f_is_number,
    fd_is_number := PySem.W.fnOf "is_number" "is_number" (defArgs s_is_number) (defBody s_is_number) (defScope s_is_number) .none kV_is_number dc_is_number pm_is_number an_is_number cd_is_number ct_is_number,
    F_is_number := F_is_number,
    b_is_number := F_is_number.binds (ps := P_is_number) fun _ _ _ _ _ _ us hl => match us, hl with | [_], _ => rfl,
    g_is_number := PySem.W.mg_of X G a_is_number,
    a_is_name := f_is_name,
    fd_is_name := PySem.W.fnOf "is_name" "is_name" (defArgs s_is_name) (defBody s_is_name) (defScope s_is_name) .none kV_is_name dc_is_name pm_is_name an_is_name cd_is_name ct_is_name,
    F_is_name := F_is_name,
    b_is_name := F_is_name.binds (ps := P_is_name) fun _ _ _ _ _ _ us hl => match us, hl with | [_], _ => rfl,
    g_is_name := PySem.W.mg_of X G a_is_name,
    a_is_names := f_is_names,
    fd_is_names := PySem.W.fnOf "is_names" "is_names" (defArgs s_is_names) (defBody s_is_names) (defScope s_is_names) .none kV_is_names dc_is_names pm_is_names an_is_names cd_is_names ct_is_names,
    F_is_names := F_is_names,
    b_is_names := F_is_names.binds (ps := P_is_names) fun _ _ _ _ _ _ us hl => match us, hl with | [_], _ => rfl,
    g_is_names := PySem.W.mg_of X G a_is_names,
    a_check_names := f_check_names,
    fd_check_names := PySem.W.fnOf "check_names" "check_names" (defArgs s_check_names) (defBody s_check_names) (defScope s_check_names) .none kV_check_names dc_check_names pm_check_names an_check_names cd_check_names ct_check_names,
    F_check_names := F_check_names,
    b_check_names := F_check_names.binds (ps := P_check_names) fun _ _ _ _ _ _ us hl => match us, hl with | [_], _ => rfl,
    g_check_names := PySem.W.mg_of X G a_check_names,
    a_check_name := f_check_name,
    fd_check_name := PySem.W.fnOf "check_name" "check_name" (defArgs s_check_name) (defBody s_check_name) (defScope s_check_name) .none kV_check_name dc_check_name pm_check_name an_check_name cd_check_name ct_check_name,
    F_check_name := F_check_name,
    b_check_name := F_check_name.binds (ps := P_check_name) fun _ _ _ _ _ _ us hl => match us, hl with | [_, _], _ => rfl,
    g_check_name := PySem.W.mg_of X G a_check_name,
    a_is_slips := f_is_slips,
    fd_is_slips := PySem.W.fnOf "is_slips" "is_slips" (defArgs s_is_slips) (defBody s_is_slips) (defScope s_is_slips) .none kV_is_slips dc_is_slips pm_is_slips an_is_slips cd_is_slips ct_is_slips,
    F_is_slips := F_is_slips,
    b_is_slips := F_is_slips.binds (ps := P_is_slips) fun _ _ _ _ _ _ us hl => match us, hl with | [_, _], _ => rfl,
    g_is_slips := PySem.W.mg_of X G a_is_slips,
    a_listed_behind := f_listed_behind,
    fd_listed_behind := PySem.W.fnOf "listed_behind" "listed_behind" (defArgs s_listed_behind) (defBody s_listed_behind) (defScope s_listed_behind) .none kV_listed_behind dc_listed_behind pm_listed_behind an_listed_behind cd_listed_behind ct_listed_behind,
    F_listed_behind := F_listed_behind,
    b_listed_behind := F_listed_behind.binds (ps := P_listed_behind) fun _ _ _ _ _ _ us hl => match us, hl with | [_, _], _ => rfl,
    g_listed_behind := PySem.W.mg_of X G a_listed_behind,
    a_who_sit := f_who_sit,
    fd_who_sit := PySem.W.fnOf "who_sit" "who_sit" (defArgs s_who_sit) (defBody s_who_sit) (defScope s_who_sit) .none kV_who_sit dc_who_sit pm_who_sit an_who_sit cd_who_sit ct_who_sit,
    F_who_sit := F_who_sit,
    b_who_sit := F_who_sit.binds (ps := P_who_sit) fun _ _ _ _ _ _ us hl => match us, hl with | [_, _], _ => rfl,
    g_who_sit := PySem.W.mg_of X G a_who_sit,
    a_l_state := f_l_state,
    fd_l_state := PySem.W.fnOf "_law_state" "_law_state" (defArgs s_l_state) (defBody s_l_state) (defScope s_l_state) .none kV_l_state dc_l_state pm_l_state an_l_state cd_l_state ct_l_state,
    F_l_state := F_l_state,
    b_l_state := F_l_state.binds (ps := P_l_state) fun _ _ _ _ _ _ us hl => match us, hl with | [_], _ => rfl,
    g_l_state := PySem.W.mg_of X G a_l_state,
    a_l_draw := f_l_draw,
    fd_l_draw := PySem.W.fnOf "_law_draw" "_law_draw" (defArgs s_l_draw) (defBody s_l_draw) (defScope s_l_draw) .none kV_l_draw dc_l_draw pm_l_draw an_l_draw cd_l_draw ct_l_draw,
    F_l_draw := F_l_draw,
    b_l_draw := F_l_draw.binds (ps := P_l_draw) fun _ _ _ _ _ _ us hl => match us, hl with | [_, _], _ => rfl,
    g_l_draw := PySem.W.mg_of X G a_l_draw,
    a_l_pick := f_l_pick,
    fd_l_pick := PySem.W.fnOf "_law_pick" "_law_pick" (defArgs s_l_pick) (defBody s_l_pick) (defScope s_l_pick) .none kV_l_pick dc_l_pick pm_l_pick an_l_pick cd_l_pick ct_l_pick,
    F_l_pick := F_l_pick,
    b_l_pick := F_l_pick.binds (ps := P_l_pick) fun _ _ _ _ _ _ us hl => match us, hl with | [_, _], _ => rfl,
    g_l_pick := PySem.W.mg_of X G a_l_pick,
    a_l_mixed := f_l_mixed,
    fd_l_mixed := PySem.W.fnOf "_law_mixed" "_law_mixed" (defArgs s_l_mixed) (defBody s_l_mixed) (defScope s_l_mixed) .none kV_l_mixed dc_l_mixed pm_l_mixed an_l_mixed cd_l_mixed ct_l_mixed,
    F_l_mixed := F_l_mixed,
    b_l_mixed := F_l_mixed.binds (ps := P_l_mixed) fun _ _ _ _ _ _ us hl => match us, hl with | [_, _], _ => rfl,
    g_l_mixed := PySem.W.mg_of X G a_l_mixed,
    a_l_names := f_l_names,
    fd_l_names := PySem.W.fnOf "_law_names" "_law_names" (defArgs s_l_names) (defBody s_l_names) (defScope s_l_names) .none kV_l_names dc_l_names pm_l_names an_l_names cd_l_names ct_l_names,
    F_l_names := F_l_names,
    b_l_names := F_l_names.binds (ps := P_l_names) fun _ _ _ _ _ _ us hl => match us, hl with | [_, _], _ => rfl,
    g_l_names := PySem.W.mg_of X G a_l_names,
    a_l_slip := f_l_slip,
    fd_l_slip := PySem.W.fnOf "_law_slip" "_law_slip" (defArgs s_l_slip) (defBody s_l_slip) (defScope s_l_slip) .none kV_l_slip dc_l_slip pm_l_slip an_l_slip cd_l_slip ct_l_slip,
    F_l_slip := F_l_slip,
    b_l_slip := F_l_slip.binds (ps := P_l_slip) fun _ _ _ _ _ _ us hl => match us, hl with | [_], _ => rfl,
    g_l_slip := PySem.W.mg_of X G a_l_slip,
    a_l_slips := f_l_slips,
    fd_l_slips := PySem.W.fnOf "_law_slips" "_law_slips" (defArgs s_l_slips) (defBody s_l_slips) (defScope s_l_slips) .none kV_l_slips dc_l_slips pm_l_slips an_l_slips cd_l_slips ct_l_slips,
    F_l_slips := F_l_slips,
    b_l_slips := F_l_slips.binds (ps := P_l_slips) fun _ _ _ _ _ _ us hl => match us, hl with | [_, _], _ => rfl,
    g_l_slips := PySem.W.mg_of X G a_l_slips,
    a_l_multiple := f_l_multiple,
    fd_l_multiple := PySem.W.fnOf "_law_multiple" "_law_multiple" (defArgs s_l_multiple) (defBody s_l_multiple) (defScope s_l_multiple) .none kV_l_multiple dc_l_multiple pm_l_multiple an_l_multiple cd_l_multiple ct_l_multiple,
    F_l_multiple := F_l_multiple,
    b_l_multiple := F_l_multiple.binds (ps := P_l_multiple) fun _ _ _ _ _ _ us hl => match us, hl with | [_], _ => rfl,
    g_l_multiple := PySem.W.mg_of X G a_l_multiple,
    a_l_rounds := f_l_rounds,
    fd_l_rounds := PySem.W.fnOf "_law_rounds" "_law_rounds" (defArgs s_l_rounds) (defBody s_l_rounds) (defScope s_l_rounds) .none kV_l_rounds dc_l_rounds pm_l_rounds an_l_rounds cd_l_rounds ct_l_rounds,
    F_l_rounds := F_l_rounds,
    b_l_rounds := F_l_rounds.binds (ps := P_l_rounds) fun _ _ _ _ _ _ us hl => match us, hl with | [_, _], _ => rfl,
    g_l_rounds := PySem.W.mg_of X G a_l_rounds,
    a_l_renamed := f_l_renamed,
    fd_l_renamed := PySem.W.fnOf "_law_renamed" "_law_renamed" (defArgs s_l_renamed) (defBody s_l_renamed) (defScope s_l_renamed) .none kV_l_renamed dc_l_renamed pm_l_renamed an_l_renamed cd_l_renamed ct_l_renamed,
    F_l_renamed := F_l_renamed,
    b_l_renamed := F_l_renamed.binds (ps := P_l_renamed) fun _ _ _ _ _ _ us hl => match us, hl with | [_, _], _ => rfl,
    g_l_renamed := PySem.W.mg_of X G a_l_renamed,
    a_l_mirrored_right := f_l_mirrored_right,
    fd_l_mirrored_right := PySem.W.fnOf "_law_mirrored_right" "_law_mirrored_right" (defArgs s_l_mirrored_right) (defBody s_l_mirrored_right) (defScope s_l_mirrored_right) .none kV_l_mirrored_right dc_l_mirrored_right pm_l_mirrored_right an_l_mirrored_right cd_l_mirrored_right ct_l_mirrored_right,
    F_l_mirrored_right := F_l_mirrored_right,
    b_l_mirrored_right := F_l_mirrored_right.binds (ps := P_l_mirrored_right) fun _ _ _ _ _ _ us hl => match us, hl with | [_, _, _], _ => rfl,
    g_l_mirrored_right := PySem.W.mg_of X G a_l_mirrored_right,
    a_law := f_law,
    fd_law := PySem.W.fnOf "law" "law" (defArgs s_law) (defBody s_law) (defScope s_law) .none kV_law dc_law pm_law an_law cd_law ct_law,
    F_law := F_law,
    b_law := F_law.binds (ps := P_law) fun _ _ _ _ _ _ us hl => match us, hl with | [_], _ => rfl,
    g_law := PySem.W.mg_of X G a_law,
    a_Ring_init := f_Ring_init,
    fd_Ring_init := PySem.W.fnOf "__init__" "Ring.__init__" (defArgs s_Ring_init) (defBody s_Ring_init) (defScope s_Ring_init) .none kV_Ring_init dc_Ring_init pm_Ring_init an_Ring_init cd_Ring_init ct_Ring_init,
    F_Ring_init := F_Ring_init,
    b_Ring_init := F_Ring_init.binds (ps := P_Ring_init) fun _ _ _ _ _ _ us hl => match us, hl with | [_, _, _], _ => rfl,
    M_Ring := ⟨mk_Ring, a_Ring_init, i_Ring_init, kc_Ring⟩,
    a_Ring_slip := f_Ring_slip,
    fd_Ring_slip := PySem.W.fnOf "slip" "Ring.slip" (defArgs s_Ring_slip) (defBody s_Ring_slip) (defScope s_Ring_slip) .none kV_Ring_slip dc_Ring_slip pm_Ring_slip an_Ring_slip cd_Ring_slip ct_Ring_slip,
    F_Ring_slip := F_Ring_slip,
    b_Ring_slip := F_Ring_slip.binds (ps := P_Ring_slip) fun _ _ _ _ _ _ us hl => match us, hl with | [_, _], _ => rfl,
    mt_Ring_slip := ⟨a_Ring_slip, i_Ring_slip, k_Ring_slip⟩,
    a_Ring_order := f_Ring_order,
    fd_Ring_order := PySem.W.fnOf "order" "Ring.order" (defArgs s_Ring_order) (defBody s_Ring_order) (defScope s_Ring_order) .none kV_Ring_order dc_Ring_order pm_Ring_order an_Ring_order cd_Ring_order ct_Ring_order,
    F_Ring_order := F_Ring_order,
    b_Ring_order := F_Ring_order.binds (ps := P_Ring_order) fun _ _ _ _ _ _ us hl => match us, hl with | [_, _], _ => rfl,
    mt_Ring_order := ⟨a_Ring_order, i_Ring_order, k_Ring_order⟩,
    a_Ring_next_of := f_Ring_next_of,
    fd_Ring_next_of := PySem.W.fnOf "next_of" "Ring.next_of" (defArgs s_Ring_next_of) (defBody s_Ring_next_of) (defScope s_Ring_next_of) .none kV_Ring_next_of dc_Ring_next_of pm_Ring_next_of an_Ring_next_of cd_Ring_next_of ct_Ring_next_of,
    F_Ring_next_of := F_Ring_next_of,
    b_Ring_next_of := F_Ring_next_of.binds (ps := P_Ring_next_of) fun _ _ _ _ _ _ us hl => match us, hl with | [_, _], _ => rfl,
    mt_Ring_next_of := ⟨a_Ring_next_of, i_Ring_next_of, k_Ring_next_of⟩,
    a_Ring_counted_on := f_Ring_counted_on,
    fd_Ring_counted_on := PySem.W.fnOf "_counted_on" "Ring._counted_on" (defArgs s_Ring_counted_on) (defBody s_Ring_counted_on) (defScope s_Ring_counted_on) .none kV_Ring_counted_on dc_Ring_counted_on pm_Ring_counted_on an_Ring_counted_on cd_Ring_counted_on ct_Ring_counted_on,
    F_Ring_counted_on := F_Ring_counted_on,
    b_Ring_counted_on := F_Ring_counted_on.binds (ps := P_Ring_counted_on) fun _ _ _ _ _ _ us hl => match us, hl with | [_, _, _], _ => rfl,
    mt_Ring_counted_on := ⟨a_Ring_counted_on, i_Ring_counted_on, k_Ring_counted_on⟩,
    tk_LETTERS := tk_LETTERS,
    g_LETTERS := PySem.W.mg_of X G z_LETTERS,
    tk_LONGEST_NAME := tk_LONGEST_NAME,
    g_LONGEST_NAME := PySem.W.mg_of X G z_LONGEST_NAME,
    tk_FEWEST := tk_FEWEST,
    g_FEWEST := PySem.W.mg_of X G z_FEWEST,
    tk_MOST := tk_MOST,
    g_MOST := PySem.W.mg_of X G z_MOST,
    m_abs := PySem.W.mg_none_of X G zm_abs,
    m_all := PySem.W.mg_none_of X G zm_all,
    m_bool := PySem.W.mg_none_of X G zm_bool,
    m_dict := PySem.W.mg_none_of X G zm_dict,
    m_int := PySem.W.mg_none_of X G zm_int,
    m_isinstance := PySem.W.mg_none_of X G zm_isinstance,
    m_len := PySem.W.mg_none_of X G zm_len,
    m_list := PySem.W.mg_none_of X G zm_list,
    m_min := PySem.W.mg_none_of X G zm_min,
    m_range := PySem.W.mg_none_of X G zm_range,
    m_set := PySem.W.mg_none_of X G zm_set,
    m_str := PySem.W.mg_none_of X G zm_str,
    m_tuple := PySem.W.mg_none_of X G zm_tuple,
    m_zip := PySem.W.mg_none_of X G zm_zip
  }
  exact ⟨T.fd_law, fun s v => .of_eq rfl, fun base _ _ => ok_law T⟩
end K13
open PySem PySem.W PyProof.Rows
set_option maxRecDepth 100000 in
set_option maxHeartbeats 0 in
theorem PySem.Challenge.cw_goersay_k13_whole_rings_turned_holds : PySem.Challenge.rw_goersay_k13_whole_rings_turned.Holds := by
  w_on; o_law; k_head; (case hw => w_witness2)
  k_fill
  refine L2.walk_of (l := PySem.Challenge.rw_goersay_k13_whole_rings_turned) (n := 63) (k := 9) (x := "_law_script") (CX := fun _ => L2.CX0) (sp := fun w => GL.spLaw _) rfl (by decide) rfl ⟨rfl, by decide, by decide⟩ (fun w h Y => PySem.W.kIn_of Y) ?F (fun _ _ a ns hl _ hS => ⟨a, ns, rfl, hS, hl, fun _ => rfl⟩) (fun _ _ _ _ _ h => h)
  case F =>
    intro w mg fa h KX G hmg
    refine' K13.all_mk KX G hmg ?aC_Ring ?pg_Ring ?hd_Ring ?po_Ring ?sa_Ring ?mk_Ring ?kc_Ring ?na_Ring__names ?na_Ring__slips ?a_is_number ?l_is_number ?c_is_number_ ?k_is_number ?a_is_name ?l_is_name ?c_is_name_ ?k_is_name ?a_is_names ?l_is_names ?c_is_names_ ?k_is_names ?a_check_names ?l_check_names ?c_check_names_ ?k_check_names ?a_check_name ?l_check_name ?c_check_name_ ?k_check_name ?a_is_slips ?l_is_slips ?c_is_slips_ ?k_is_slips ?a_listed_behind ?l_listed_behind ?c_listed_behind_ ?k_listed_behind ?a_who_sit ?l_who_sit ?c_who_sit_ ?k_who_sit ?a_l_state ?l_l_state ?c_l_state_ ?k_l_state ?a_l_draw ?l_l_draw ?c_l_draw_ ?k_l_draw ?a_l_pick ?l_l_pick ?c_l_pick_ ?k_l_pick ?a_l_mixed ?l_l_mixed ?c_l_mixed_ ?k_l_mixed ?a_l_names ?l_l_names ?c_l_names_ ?k_l_names ?a_l_slip ?l_l_slip ?c_l_slip_ ?k_l_slip ?a_l_slips ?l_l_slips ?c_l_slips_ ?k_l_slips ?a_l_multiple ?l_l_multiple ?c_l_multiple_ ?k_l_multiple ?a_l_rounds ?l_l_rounds ?c_l_rounds_ ?k_l_rounds ?a_l_renamed ?l_l_renamed ?c_l_renamed_ ?k_l_renamed ?a_l_mirrored_right ?l_l_mirrored_right ?c_l_mirrored_right_ ?k_l_mirrored_right ?a_law ?l_law ?c_law_ ?k_law ?a_Ring_init ?i_Ring_init ?l_Ring_init ?c_Ring_init_ ?k_Ring_init ?a_Ring_slip ?i_Ring_slip ?l_Ring_slip ?c_Ring_slip_ ?k_Ring_slip ?a_Ring_order ?i_Ring_order ?l_Ring_order ?c_Ring_order_ ?k_Ring_order ?a_Ring_next_of ?i_Ring_next_of ?l_Ring_next_of ?c_Ring_next_of_ ?k_Ring_next_of ?a_Ring_counted_on ?i_Ring_counted_on ?l_Ring_counted_on ?c_Ring_counted_on_ ?k_Ring_counted_on ?z_LETTERS ?z_LONGEST_NAME ?z_FEWEST ?z_MOST ?zm_abs ?zm_all ?zm_bool ?zm_dict ?zm_int ?zm_isinstance ?zm_len ?zm_list ?zm_min ?zm_range ?zm_set ?zm_str ?zm_tuple ?zm_zip
    (case aC_Ring => k_is)
    (case pg_Ring => k_is)
    (case hd_Ring => k_is)
    (case po_Ring => k_is)
    (case sa_Ring => k_is)
    (case mk_Ring => k_is)
    (case kc_Ring => k_is)
    (case na_Ring__names => k_is)
    (case na_Ring__slips => k_is)
    (case a_is_number => k_is)
    (case l_is_number => k_is)
    (case c_is_number_ => k_is)
    (case k_is_number => k_is)
    (case a_is_name => k_is)
    (case l_is_name => k_is)
    (case c_is_name_ => k_is)
    (case k_is_name => k_is)
    (case a_is_names => k_is)
    (case l_is_names => k_is)
    (case c_is_names_ => k_is)
    (case k_is_names => k_is)
    (case a_check_names => k_is)
    (case l_check_names => k_is)
    (case c_check_names_ => k_is)
    (case k_check_names => k_is)
    (case a_check_name => k_is)
    (case l_check_name => k_is)
    (case c_check_name_ => k_is)
    (case k_check_name => k_is)
    (case a_is_slips => k_is)
    (case l_is_slips => k_is)
    (case c_is_slips_ => k_is)
    (case k_is_slips => k_is)
    (case a_listed_behind => k_is)
    (case l_listed_behind => k_is)
    (case c_listed_behind_ => k_is)
    (case k_listed_behind => k_is)
    (case a_who_sit => k_is)
    (case l_who_sit => k_is)
    (case c_who_sit_ => k_is)
    (case k_who_sit => k_is)
    (case a_l_state => k_is)
    (case l_l_state => k_is)
    (case c_l_state_ => k_is)
    (case k_l_state => k_is)
    (case a_l_draw => k_is)
    (case l_l_draw => k_is)
    (case c_l_draw_ => k_is)
    (case k_l_draw => k_is)
    (case a_l_pick => k_is)
    (case l_l_pick => k_is)
    (case c_l_pick_ => k_is)
    (case k_l_pick => k_is)
    (case a_l_mixed => k_is)
    (case l_l_mixed => k_is)
    (case c_l_mixed_ => k_is)
    (case k_l_mixed => k_is)
    (case a_l_names => k_is)
    (case l_l_names => k_is)
    (case c_l_names_ => k_is)
    (case k_l_names => k_is)
    (case a_l_slip => k_is)
    (case l_l_slip => k_is)
    (case c_l_slip_ => k_is)
    (case k_l_slip => k_is)
    (case a_l_slips => k_is)
    (case l_l_slips => k_is)
    (case c_l_slips_ => k_is)
    (case k_l_slips => k_is)
    (case a_l_multiple => k_is)
    (case l_l_multiple => k_is)
    (case c_l_multiple_ => k_is)
    (case k_l_multiple => k_is)
    (case a_l_rounds => k_is)
    (case l_l_rounds => k_is)
    (case c_l_rounds_ => k_is)
    (case k_l_rounds => k_is)
    (case a_l_renamed => k_is)
    (case l_l_renamed => k_is)
    (case c_l_renamed_ => k_is)
    (case k_l_renamed => k_is)
    (case a_l_mirrored_right => k_is)
    (case l_l_mirrored_right => k_is)
    (case c_l_mirrored_right_ => k_is)
    (case k_l_mirrored_right => k_is)
    (case a_law => k_is)
    (case l_law => k_is)
    (case c_law_ => k_is)
    (case k_law => k_is)
    (case a_Ring_init => k_is)
    (case i_Ring_init => k_is)
    (case l_Ring_init => k_is)
    (case c_Ring_init_ => k_is)
    (case k_Ring_init => k_is)
    (case a_Ring_slip => k_is)
    (case i_Ring_slip => k_is)
    (case l_Ring_slip => k_is)
    (case c_Ring_slip_ => k_is)
    (case k_Ring_slip => k_is)
    (case a_Ring_order => k_is)
    (case i_Ring_order => k_is)
    (case l_Ring_order => k_is)
    (case c_Ring_order_ => k_is)
    (case k_Ring_order => k_is)
    (case a_Ring_next_of => k_is)
    (case i_Ring_next_of => k_is)
    (case l_Ring_next_of => k_is)
    (case c_Ring_next_of_ => k_is)
    (case k_Ring_next_of => k_is)
    (case a_Ring_counted_on => k_is)
    (case i_Ring_counted_on => k_is)
    (case l_Ring_counted_on => k_is)
    (case c_Ring_counted_on_ => k_is)
    (case k_Ring_counted_on => k_is)
    (case z_LETTERS => k_is)
    (case z_LONGEST_NAME => k_is)
    (case z_FEWEST => k_is)
    (case z_MOST => k_is)
    (case zm_abs => k_is)
    (case zm_all => k_is)
    (case zm_bool => k_is)
    (case zm_dict => k_is)
    (case zm_int => k_is)
    (case zm_isinstance => k_is)
    (case zm_len => k_is)
    (case zm_list => k_is)
    (case zm_min => k_is)
    (case zm_range => k_is)
    (case zm_set => k_is)
    (case zm_str => k_is)
    (case zm_tuple => k_is)
    (case zm_zip => k_is)
