/- A statement of several orders whose last operations wait for all that stand before them: those in front are proved in whatever order, the last ones as they stand. -/
import Derived.Test.YtfifnahcobjjdaaPk16
namespace Go.Proofs.Ytfifnahcobjjdaa
open Go.RowKit

/-- Whom an operation waits for, also through others, as a set of bits. -/
def maskOf (acc : List Nat) (o : Oper) : Nat := (waits o).foldl (fun m j => m ||| (2 ^ j ||| acc.getD j 0)) 0
def masks (l : List Oper) : List Nat := l.foldl (fun acc o => acc ++ [maskOf acc o]) []

theorem masks_snoc (l : List Oper) (o : Oper) : masks (l ++ [o]) = masks l ++ [maskOf (masks l) o] := by simp [masks]
theorem masks_len (l : List Oper) : (masks l).length = l.length := by
  have h : ∀ (l : List Oper) (acc : List Nat), (l.foldl (fun acc o => acc ++ [maskOf acc o]) acc).length = acc.length + l.length := by
    intro l
    induction l with
    | nil => intro acc; rfl
    | cons o r ih => intro acc; rw [List.foldl_cons, ih]; simp; omega
  have := h l []
  simpa [masks] using this
theorem masks_at (l : List Oper) (i : Nat) (o : Oper) (h : l[i]? = some o) : (masks l).getD i 0 = maskOf (masks (l.take i)) o := by
  have hi := (List.getElem?_eq_some_iff.1 h).1
  have e : l = l.take i ++ [o] ++ l.drop (i + 1) := by
    have h1 : l.take (i + 1) = l.take i ++ [o] := by rw [List.take_add_one, h]; rfl
    rw [← h1, List.take_append_drop]
  have hpre : ∀ (r : List Oper) (a : List Oper), (masks (a ++ r)).take a.length = masks a := by
    intro r a
    have hx : ∀ (r : List Oper) (acc : List Nat), ∃ t, r.foldl (fun acc o => acc ++ [maskOf acc o]) acc = acc ++ t := by
      intro r
      induction r with
      | nil => intro acc; exact ⟨[], by simp⟩
      | cons x r ih =>
        intro acc
        obtain ⟨t, ht⟩ := ih (acc ++ [maskOf acc x])
        exact ⟨[maskOf acc x] ++ t, by rw [List.foldl_cons, ht, List.append_assoc]⟩
    obtain ⟨t, ht⟩ := hx r (masks a)
    have h3 : masks (a ++ r) = masks a ++ t := by unfold masks at ht ⊢; rw [List.foldl_append]; exact ht
    rw [h3, List.take_left' (masks_len a)]
  have hl : (l.take i).length = i := by rw [List.length_take]; omega
  have h2 := hpre (l.drop (i + 1)) (l.take i ++ [o])
  rw [← e, List.length_append, hl, masks_snoc] at h2
  have h3 : (masks l)[i]? = ((masks l).take (i + 1))[i]? := by rw [List.getElem?_take, if_pos (by omega)]
  rw [List.getD_eq_getElem?_getD, h3]
  show (((masks l).take (i + [o].length))[i]?).getD 0 = _
  rw [h2, List.getElem?_append_right (by rw [masks_len, hl]; exact Nat.le_refl _), masks_len, hl, Nat.sub_self]
  rfl

theorem fold_or (f : Nat → Nat) (j : Nat) : ∀ (l : List Nat) (m : Nat), (l.foldl (fun m k => m ||| f k) m).testBit j = true → m.testBit j = true ∨ ∃ k ∈ l, (f k).testBit j = true
  | [], m, h => .inl h
  | k :: l, m, h => by
    rcases fold_or f j l _ h with h | ⟨k', hk, h⟩
    · rw [Nat.testBit_or, Bool.or_eq_true] at h
      rcases h with h | h
      · exact .inl h
      · exact .inr ⟨k, List.mem_cons_self, h⟩
    · exact .inr ⟨k', List.mem_cons_of_mem _ hk, h⟩

/-- What is in the mask of an operation that may come up is listed. -/
theorem mask_listed {l : List Oper} {listed : Array Bool} (hback : ∀ i o, l[i]? = some o → ∀ e ∈ o.after, Region.binds .any e = true → e.on < i)
    (hshut : ∀ j oj, l[j]? = some oj → listed.getD j false = true → ∀ e ∈ oj.after, Region.binds .any e = true → listed.getD e.on false = true) :
    ∀ i o, l[i]? = some o → (∀ e ∈ o.after, Region.binds .any e = true → listed.getD e.on false = true) → ∀ j, ((masks l).getD i 0).testBit j = true → listed.getD j false = true := by
  intro i
  induction i using Nat.strongRecOn with
  | _ i ih =>
    intro o ho hw j hj
    rw [masks_at l i o ho] at hj
    rcases fold_or _ j _ _ hj with h | ⟨k, hk, h⟩
    · simp at h
    · obtain ⟨e, he, hb, hon⟩ := mem_waits.1 hk
      have hkl : listed.getD k false = true := by rw [← hon]; exact hw e he hb
      have hki : k < i := by rw [← hon]; exact hback i o ho e he hb
      rw [Nat.testBit_or, Bool.or_eq_true] at h
      rcases h with h | h
      · rw [Nat.testBit_two_pow] at h
        have : k = j := by simpa using h
        rw [← this]; exact hkl
      · have hil := (List.getElem?_eq_some_iff.1 ho).1
        have hk2 : l[k]? = some (l[k]'(by omega)) := List.getElem?_eq_getElem (by omega)
        have hkt : (l.take i)[k]? = some (l[k]'(by omega)) := by rw [List.getElem?_take, if_pos hki]; exact hk2
        have h' : ((masks l).getD k 0).testBit j = true := by
          rw [masks_at l k _ hk2]
          rw [masks_at (l.take i) k _ hkt, List.take_take, Nat.min_eq_left (by omega)] at h
          exact h
        exact ih k hki _ hk2 (hshut k _ hk2 hkl) j h'

/-- From the n-th on each operation waits for all before it. -/
def tailOk (l : List Oper) (n : Nat) : Bool := (List.range l.length).all fun i => decide (i < n) || (masks l).getD i 0 == 2 ^ i - 1

section
variable {P : Program} {Q : Exit → Act → World → Prop} {a0 : Act} {w : World} {R : List Fact} {D : List (List (Nat × Nat))} {every : List (Nat × Nat)} {l : List Oper} {n : Nat}

theorem forced (hback : ∀ i o, l[i]? = some o → ∀ e ∈ o.after, Region.binds .any e = true → e.on < i) (ht : tailOk l n = true) :
    ∀ (fuel m : Nat) (listed : Array Bool) (a : Act) (W : World), n ≤ m → l.length ≤ m + fuel → listed.size = l.length → (∀ j, j < m → listed.getD j false = true) → (∀ j, m ≤ j → j < l.length → listed.getD j true = false) →
      wpList P l.toArray Q (l.drop m) a W → wpAny P .any l.toArray Q fuel listed a W := by
  intro fuel
  induction fuel with
  | zero =>
    intro m listed a W hn hm hs h1 h2 h
    rw [List.drop_of_length_le (by omega)] at h
    refine ⟨?_, h⟩
    cases hr : Region.ready .any l.toArray listed with
    | nil => rfl
    | cons x xs =>
      have hx : x ∈ Region.ready .any l.toArray listed := by rw [hr]; exact List.mem_cons_self
      obtain ⟨hl, o, hi, _⟩ := mem_ready.1 hx
      have hlt : x < l.length := by
        have := (Array.getElem?_eq_some_iff.1 hi).1
        simpa using this
      have h3 := h1 x (by omega)
      have hxl : x < listed.size := by omega
      simp [hxl] at hl h3
      rw [hl] at h3; cases h3
  | succ fuel ih =>
    intro m listed a W hn hm hs h1 h2 h
    rcases Nat.lt_or_ge m l.length with hml | hml
    rotate_left
    · rw [List.drop_of_length_le hml] at h
      refine ⟨fun _ => h, fun i hi => ?_⟩
      exfalso
      obtain ⟨hl, o, hio, _⟩ := mem_ready.1 hi
      have hlt : i < l.length := by
        have := (Array.getElem?_eq_some_iff.1 hio).1
        simpa using this
      have h3 := h1 i (by omega)
      have hxl : i < listed.size := by omega
      simp [hxl] at hl h3
      rw [hl] at h3; cases h3
    have hmo : l[m]? = some l[m] := List.getElem?_eq_getElem hml
    have hmr : m ∈ Region.ready .any l.toArray listed := mem_ready.2 ⟨h2 m (Nat.le_refl _) hml, l[m], by simp, fun e he hb => h1 _ (hback m _ hmo e he hb)⟩
    refine ⟨fun hr => (by rw [hr] at hmr; cases hmr), fun i hi => ?_⟩
    obtain ⟨hil, o, hio, hall⟩ := mem_ready.1 hi
    have hio' : l[i]? = some o := by simpa using hio
    have hilt := (List.getElem?_eq_some_iff.1 hio').1
    have him : m ≤ i := by
      rcases Nat.lt_or_ge i m with hlt | hge
      · have h3 := h1 i hlt
        have hxl : i < listed.size := by omega
        simp [hxl] at hil h3
        rw [hil] at h3; cases h3
      · exact hge
    have hshut : ∀ j oj, l[j]? = some oj → listed.getD j false = true → ∀ e ∈ oj.after, Region.binds .any e = true → listed.getD e.on false = true := by
      intro j oj hj hlj e he hb
      have hjl := (List.getElem?_eq_some_iff.1 hj).1
      have hjm : j < m := by
        rcases Nat.lt_or_ge j m with hlt | hge
        · exact hlt
        · have h3 := h2 j hge hjl
          have hxl : j < listed.size := by omega
          simp [hxl] at h3 hlj
          rw [h3] at hlj; cases hlj
      exact h1 _ (Nat.lt_trans (hback j oj hj e he hb) hjm)
    have hie : i = m := by
      rcases Nat.lt_or_ge m i with hlt | hge
      · exfalso
        have ht1 := List.all_eq_true.1 ht i (List.mem_range.2 hilt)
        have ht2 : (masks l).getD i 0 = 2 ^ i - 1 := by
          simp only [Bool.or_eq_true, decide_eq_true_eq, beq_iff_eq] at ht1
          rcases ht1 with h | h
          · omega
          · exact h
        have h3 := mask_listed hback hshut i o hio' hall m (by rw [ht2, Nat.testBit_two_pow_sub_one]; simpa using hlt)
        have h4 := h2 m (Nat.le_refl _) hml
        have hxl : m < listed.size := by omega
        simp [hxl] at h3 h4
        rw [h4] at h3; cases h3
      · omega
    subst hie
    have hoo : o = l[i] := by rw [hmo] at hio'; cases hio'; rfl
    subst hoo
    rw [List.drop_eq_getElem_cons hml] at h
    have hK : ∀ a' W', wpList P l.toArray Q (l.drop (i + 1)) a' W' → wpAny P .any l.toArray Q fuel (listed.setIfInBounds i true) a' W' := fun a' W' h' =>
      ih (i + 1) _ a' W' (by omega) (by omega) (by simpa using hs) (fun j hj => by
        by_cases hji : j = i
        · subst hji
          have : j < listed.size := by omega
          simp [this]
        · exact getD_set_true (h1 j (by omega))) (fun j hj hjl => by rw [getD_set_ne true (by omega)]; exact h2 j (by omega) hjl) h'
    unfold wpOp
    rw [hio]
    simp only
    unfold wpList at h
    split
    · rename_i hw
      rw [if_pos hw] at h
      exact h.imp (Oper.wp_mono hK) id
    · rename_i hw
      rw [if_neg hw] at h
      exact hK _ _ h

theorem parts_tail {E : List (Nat × Nat)} (hok : ∀ i o, l.toArray[i]? = some o → OpOk l.toArray D E a0.tmps.size i o) (hev : ∀ p ∈ every, p.1 < n ∧ ∃ oj, l[p.1]? = some oj ∧ oj.dst = some p.2) (ht : tailOk l n = true) (hn : n ≤ l.length)
    (hob : ∀ i o, i < n → l.toArray[i]? = some o → ∀ W, Below w.heap.size w W → given R W (fun a1 => wpList P l.toArray (PartPost a0.defers W o (factAt R i)) [o] a1 W) (D.getD i []) a0)
    (hmem : ∀ i o d, i < n → l[i]? = some o → o.dst = some d → (i, d) ∈ every)
    (hend : ∀ W, Below w.heap.size w W → given R W (fun a => wpList P l.toArray Q (l.drop n) a W) every a0) :
    ∀ (fuel : Nat) (listed : Array Bool) (a : Act) (W : World), PInv l.toArray R a0 w listed a W → (∀ j, n ≤ j → j < l.length → listed.getD j true = false) → (listed.toList.take n).count false + (l.length - n) ≤ fuel → wpAny P .any l.toArray Q fuel listed a W := by
  have hback : ∀ i o, l[i]? = some o → ∀ e ∈ o.after, Region.binds .any e = true → e.on < i := fun i o hi => (hok i o (by simpa using hi)).back
  have switch : ∀ (fuel : Nat) (listed : Array Bool) (a : Act) (W : World), PInv l.toArray R a0 w listed a W → (∀ j, n ≤ j → j < l.length → listed.getD j true = false) → (∀ j, j < n → listed.getD j false = true) → l.length - n ≤ fuel → wpAny P .any l.toArray Q fuel listed a W := by
    intro fuel listed a W h h2 h1 hf
    have hs : listed.size = l.length := by have := h.size; simpa using this
    refine forced hback ht fuel n listed a W (Nat.le_refl _) (by omega) hs h1 h2 ?_
    have h3 := given_fill (a := a) every a0 (hend W h.ext) fun p hp => by
      obtain ⟨hpn, oj, hj, hd⟩ := hev p hp
      exact h.got p.1 oj p.2 (by simpa using hj) hd (h1 p.1 hpn)
    have e1 : fill a every a0 = a := by
      have e2 : (fill a every a0).tmps = a.tmps := by
        apply Array.ext_getElem?
        intro t
        rw [fill_at]
        by_cases hc : t ∈ every.map (·.2) ∧ t < a0.tmps.size
        · rw [if_pos hc, getD_of a t (by rw [h.tsz]; exact hc.2)]
        · rw [if_neg hc]
          by_cases hts : t < a0.tmps.size
          · refine (h.old t fun j oj hj hd => ?_).symm
            have hj' : l[j]? = some oj := by simpa using hj
            rcases Nat.lt_or_ge j n with hjn | hjn
            · exact absurd ⟨List.mem_map.2 ⟨(j, t), hmem j oj t hjn hj' hd, rfl⟩, hts⟩ hc
            · have hjl := (List.getElem?_eq_some_iff.1 hj').1
              have h4 := h2 j hjn hjl
              have hxl : j < listed.size := by omega
              simp [hxl] at h4 ⊢; exact h4
          · rw [Array.getElem?_eq_none (by omega), Array.getElem?_eq_none (by rw [h.tsz]; omega)]
      have e3 := (fill_def a every a0).trans h.defs.symm
      cases hf : fill a every a0
      cases a
      rw [hf] at e2 e3
      simp only at e2 e3
      rw [e2, e3]
    rw [e1] at h3
    exact h3
  intro fuel
  induction fuel with
  | zero =>
    intro listed a W h h2 hc
    refine switch 0 listed a W h h2 (fun j hj => ?_) (by omega)
    have hs : listed.size = l.length := by have := h.size; simpa using this
    have hn0 : false ∉ listed.toList.take n := List.count_eq_zero.1 (by omega)
    have hjl : j < listed.size := by omega
    cases hb : listed[j]
    · refine absurd ?_ hn0
      have : (listed.toList.take n)[j]? = some false := by rw [List.getElem?_take, if_pos hj]; simp [hjl, hb]
      exact List.mem_of_getElem? this
    · simp [hjl, hb]
  | succ fuel ih =>
    intro listed a W h h2 hc
    have hs : listed.size = l.length := by have := h.size; simpa using this
    by_cases hall : ∀ j, j < n → listed.getD j false = true
    · exact switch _ listed a W h h2 hall (by omega)
    · refine ⟨fun hr => ?_, fun i hi => ?_⟩
      · exact absurd (fun j hj => all_listed hok h.size hr j (by simp; omega)) hall
      · obtain ⟨hl, o, hio, hw⟩ := mem_ready.1 hi
        have hio' : l[i]? = some o := by simpa using hio
        have hil := (List.getElem?_eq_some_iff.1 hio').1
        have hin : i < n := by
          rcases Nat.lt_or_ge i n with hlt | hge
          · exact hlt
          · exfalso
            refine hall fun j hj => ?_
            have ht1 := List.all_eq_true.1 ht i (List.mem_range.2 hil)
            have ht2 : (masks l).getD i 0 = 2 ^ i - 1 := by
              simp only [Bool.or_eq_true, decide_eq_true_eq, beq_iff_eq] at ht1
              rcases ht1 with h | h
              · omega
              · exact h
            exact mask_listed hback (fun j oj hj => h.shut j oj (by simpa using hj)) i o hio' hw j (by rw [ht2, Nat.testBit_two_pow_sub_one]; simpa using (by omega : j < i))
        refine part_one hio (hok i o hio) (hob i o hin hio) h hi fun a' W' h' => ih _ _ _ h' (fun j hj hjl => by rw [getD_set_ne true (by omega)]; exact h2 j hj hjl) ?_
        have hixl : i < listed.size := by omega
        have := count_set (listed.toList.take n) i (by
          rw [List.getElem?_take, if_pos hin]
          simp [hixl] at hl ⊢; exact hl)
        rw [Array.toList_setIfInBounds, List.take_set]
        omega

/-- THE RULE, where the last operations wait for all before them. -/
theorem region_tail {id : Nat} (n : Nat) (R : List Fact) (D : List (List (Nat × Nat))) (every : List (Nat × Nat)) (hm : P.follows .mixedOrders = true) (hok : partsOk l.toArray D (every ++ ((List.range l.length).filterMap fun i => if n ≤ i then ((l[i]?).bind (·.dst)).map fun d => (i, d) else none)) a0.tmps.size = true)
    (ht : tailOk l n = true) (hn : decide (n ≤ l.length) = true) (hev : every.all (fun p => decide (p.1 < n)) = true)
    (hob : obs P l.toArray R D w a0 0 (l.take n)) (hend : ∀ W, Below w.heap.size w W → given R W (fun a => wpList P l.toArray Q (l.drop n) a W) every a0) : (Code.region id l.toArray true).wp P Q a0 w := by
  unfold partsOk at hok
  simp only [Bool.and_eq_true] at hok
  generalize hE : every ++ ((List.range l.length).filterMap fun i => if n ≤ i then ((l[i]?).bind (·.dst)).map fun d => (i, d) else none) = E at hok
  have hn' : n ≤ l.length := by simpa using hn
  have ok : ∀ i o, l.toArray[i]? = some o → OpOk l.toArray D E a0.tmps.size i o := fun i o hi => OpOk.of (by
    have := List.all_eq_true.1 hok.1 i (List.mem_range.2 (Array.getElem?_eq_some_iff.1 hi).1)
    rw [hi] at this
    exact this)
  have hmem : ∀ i o d, i < n → l[i]? = some o → o.dst = some d → (i, d) ∈ every := fun i o d hin hio hd => by
    have h1 := ((ok i o (by simpa using hio)).dst d hd).2.1
    rw [← hE, List.mem_append] at h1
    rcases h1 with h1 | h1
    · exact h1
    · exfalso
      obtain ⟨k, hk, hkk⟩ := List.mem_filterMap.1 h1
      split at hkk
      · obtain ⟨d', _, hdd⟩ := Option.map_eq_some_iff.1 hkk
        cases hdd; omega
      · cases hkk
  have hev' : ∀ p ∈ every, p.1 < n ∧ ∃ oj, l[p.1]? = some oj ∧ oj.dst = some p.2 := fun p hp => by
    have h1 := List.all_eq_true.1 hok.2 p (by rw [← hE]; exact List.mem_append_left _ hp)
    obtain ⟨oj, h6, h7⟩ := Option.bind_eq_some_iff.1 (beq_iff_eq.1 h1)
    have h2 := List.all_eq_true.1 hev p hp
    exact ⟨by simpa using h2, oj, by simpa using h6, h7⟩
  refine wp_region_any hm (parts_tail (every := every) (D := D) (R := R) (n := n) ok hev' ht hn' (fun i o hin hio W hW => ?_) hmem hend _ _ a0 _ ⟨by simp, ⟨rfl, rfl, rfl, Nat.le_refl _, fun _ _ => rfl⟩, rfl, rfl, fun j oj d hj _ hl => ?_, fun _ _ => rfl, fun j oj hj hl => ?_⟩ (fun j _ hjl => by simp [hjl]) ?_)
  · have h1 := obs_at (l.take n) 0 hob i o (by rw [List.getElem?_take, if_pos hin]; simpa using hio) W hW
    rw [Nat.zero_add] at h1
    exact h1
  · exfalso
    have hlt : j < l.length := by have := (Array.getElem?_eq_some_iff.1 hj).1; simpa using this
    simp [hlt] at hl
  · exfalso
    have hlt : j < l.length := by have := (Array.getElem?_eq_some_iff.1 hj).1; simpa using this
    simp [hlt] at hl
  · simp; omega
end

end Go.Proofs.Ytfifnahcobjjdaa
