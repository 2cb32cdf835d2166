/- RelMath, Tail, ProgP3a, in one text. -/
import Derived.Test.YtkhfolpffjihgaaPk5
import Derived.Test.YtkhfolpffjihgaaPk6
import Derived.Test.YtkhfolpffjihgaaPk4
import Derived.Test.YtkhfolpffjihgaaProgRef5
import Derived.Test.YtkhfolpffjihgaaPk2
import Derived.BigQuiet
import Derived.Deep.QuietTactic
import Derived.Deep.RegionWith
namespace Go.Proofs.Ytkhfolpffjihgaa.Q
structure Clo (R : Nat → Nat → Prop) (n k a b : Nat) (G : Nat → Nat → Prop) : Prop where
  sound : ∀ x y, x < n → y < n → G x y → Reach R n x y
  base : ∀ x y, x < n → y < n → Via R k x y → G x y
  done : ∀ x y, x < n → y < n → (x < a ∨ (x = a ∧ y < b)) → Via R k x k → Via R k k y → G x y
section
variable {R : Nat → Nat → Prop} {n k a b : Nat} {G G' : Nat → Nat → Prop}
theorem Clo.step (h : Clo R n k a b G) (hk : k < n) (ha : a < n) (hb : b < n) (hG : ∀ x y, x < n → y < n → (G' x y ↔ G x y ∨ (x = a ∧ y = b ∧ G a k ∧ G k b))) : Clo R n k a (b + 1) G' := by
  refine ⟨fun x y hx hy e => ?_, fun x y hx hy v => (hG x y hx hy).2 (.inl (h.base x y hx hy v)), fun x y hx hy hlt v1 v2 => ?_⟩
  · rcases (hG x y hx hy).1 e with e | ⟨rfl, rfl, g1, g2⟩
    · exact h.sound x y hx hy e
    · exact (h.sound x k hx hk g1).trans hk (h.sound k y hk hy g2)
  · by_cases e : x = a ∧ y = b
    · obtain ⟨rfl, rfl⟩ := e
      exact (hG x y hx hy).2 (.inr ⟨rfl, rfl, h.base x k hx hk v1, h.base k y hk hy v2⟩)
    · exact (hG x y hx hy).2 (.inl (h.done x y hx hy (by omega) v1 v2))
theorem Clo.line (h : Clo R n k a n G) : Clo R n k (a + 1) 0 G :=
  ⟨h.sound, h.base, fun x y hx hy _ v1 v2 => h.done x y hx hy (by omega) v1 v2⟩
theorem Clo.round (h : Clo R n k n 0 G) : Clo R n (k + 1) 0 0 G :=
  ⟨h.sound, fun x y hx hy v => by
    rcases v with v | ⟨v1, v2⟩
    · exact h.base x y hx hy v
    · exact h.done x y hx hy (by omega) v1 v2, fun x y _ _ hlt _ _ => by omega⟩
theorem Clo.end_ (h : Clo R n n 0 0 G) (x y : Nat) (hx : x < n) (hy : y < n) : G x y ↔ Reach R n x y :=
  ⟨h.sound x y hx hy, fun r => h.base x y hx hy (reach_via r)⟩
theorem Clo.start (h : ∀ x y, x < n → y < n → (G x y ↔ R x y)) : Clo R n 0 0 0 G :=
  ⟨fun x y hx hy e => .one ((h x y hx hy).1 e), fun x y hx hy v => (h x y hx hy).2 v, fun x y _ _ hlt _ _ => by omega⟩
end
def ent (L : List Bool) (x y : Nat) : Prop := L.getD (x * 16 + y) false = true
theorem ent_set {L : List Bool} (hL : L.length = 256) {a b : Nat} (ha : a < 16) (hb : b < 16) (v : Bool) (x y : Nat) (_hx : x < 16) (hy : y < 16) : ent (L.set (a * 16 + b) v) x y ↔ if x = a ∧ y = b then v = true else ent L x y := by
  unfold ent
  by_cases e : x = a ∧ y = b
  · obtain ⟨rfl, rfl⟩ := e
    rw [if_pos ⟨rfl, rfl⟩, List.getD_eq_getElem?_getD, List.getElem?_set_self (by omega)]
    simp
  · rw [if_neg e, List.getD_eq_getElem?_getD, List.getElem?_set_ne (by omega), ← List.getD_eq_getElem?_getD]
theorem ent_zero (x y : Nat) : ¬ ent (List.replicate 256 false) x y := by
  unfold ent
  rw [List.getD_eq_getElem?_getD, List.getElem?_replicate]
  split <;> simp
theorem ent_at {L : List Bool} (hL : L.length = 256) {x y : Nat} (hx : x < 16) (hy : y < 16) : ∃ v, L[x * 16 + y]? = some v ∧ (ent L x y ↔ v = true) := by
  have h : x * 16 + y < L.length := by omega
  refine ⟨L[x * 16 + y], List.getElem?_eq_getElem h, ?_⟩
  unfold ent
  rw [List.getD_eq_getElem?_getD, List.getElem?_eq_getElem h]
  rfl
theorem reach_less {R : Nat → Nat → Prop} {n m : Nat} (hR : ∀ x y, R x y → y < m) {x y : Nat} (h : Reach R n x y) : Reach R m x y := by
  induction h with
  | one h => exact .one h
  | more h _ _ ih => exact .more h (hR _ _ h) ih
theorem reach_more {R : Nat → Nat → Prop} {n m : Nat} (hnm : m ≤ n) {x y : Nat} (h : Reach R m x y) : Reach R n x y := by
  induction h with
  | one h => exact .one h
  | more h hj _ ih => exact .more h (by omega) ih
theorem calls_lt {p : Pg} (h : CallsFit p) (x y : Nat) (hc : calls p x y) : y < p.len := by
  obtain ⟨f, hf, nd, hnd, h7, ha⟩ := hc
  have := h f (List.mem_of_getElem? hf) nd hnd h7
  omega
end Go.Proofs.Ytkhfolpffjihgaa.Q
namespace Go.Proofs.Ytkhfolpffjihgaa
open Go.RowKit
def maskOf (acc : List Nat) (o : Oper) : Nat := (waits o).foldl (fun m j => m ||| (2 ^ j ||| acc.getD j 0)) 0
def masks (l : List Oper) : List Nat := l.foldl (fun acc o => acc ++ [maskOf acc o]) []
theorem masks_snoc (l : List Oper) (o : Oper) : masks (l ++ [o]) = masks l ++ [maskOf (masks l) o] := by simp [masks]
theorem vR (l : List Oper) : (masks l).length = l.length := by
  have h : ∀ (l : List Oper) (acc : List Nat), (l.foldl (fun acc o => acc ++ [maskOf acc o]) acc).length = acc.length + l.length := by
    intro l
    induction l with
    | nil => intro acc; rfl
    | cons o r ih => intro acc; rw [List.foldl_cons, ih]; simp; omega
  have := h l []
  simpa [masks] using this
theorem masks_at (l : List Oper) (i : Nat) (o : Oper) (h : l[i]? = some o) : (masks l).getD i 0 = maskOf (masks (l.take i)) o := by
  have hi := (List.getElem?_eq_some_iff.1 h).1
  have e : l = l.take i ++ [o] ++ l.drop (i + 1) := by
    have h1 : l.take (i + 1) = l.take i ++ [o] := by rw [List.take_add_one, h]; rfl
    rw [← h1, List.take_append_drop]
  have hpre : ∀ (r : List Oper) (a : List Oper), (masks (a ++ r)).take a.length = masks a := by
    intro r a
    have hx : ∀ (r : List Oper) (acc : List Nat), ∃ t, r.foldl (fun acc o => acc ++ [maskOf acc o]) acc = acc ++ t := by
      intro r
      induction r with
      | nil => intro acc; exact ⟨[], by simp⟩
      | cons x r ih =>
        intro acc
        obtain ⟨t, ht⟩ := ih (acc ++ [maskOf acc x])
        exact ⟨[maskOf acc x] ++ t, by rw [List.foldl_cons, ht, List.append_assoc]⟩
    obtain ⟨t, ht⟩ := hx r (masks a)
    have h3 : masks (a ++ r) = masks a ++ t := by unfold masks at ht ⊢; rw [List.foldl_append]; exact ht
    rw [h3, List.take_left' (vR a)]
  have hl : (l.take i).length = i := by rw [List.length_take]; omega
  have h2 := hpre (l.drop (i + 1)) (l.take i ++ [o])
  rw [← e, List.length_append, hl, masks_snoc] at h2
  have h3 : (masks l)[i]? = ((masks l).take (i + 1))[i]? := by rw [List.getElem?_take, if_pos (by omega)]
  rw [List.getD_eq_getElem?_getD, h3]
  show (((masks l).take (i + [o].length))[i]?).getD 0 = _
  rw [h2, List.getElem?_append_right (by rw [vR, hl]; exact Nat.le_refl _), vR, hl, Nat.sub_self]
  rfl
theorem fold_or (f : Nat → Nat) (j : Nat) : ∀ (l : List Nat) (m : Nat), (l.foldl (fun m k => m ||| f k) m).testBit j = true → m.testBit j = true ∨ ∃ k ∈ l, (f k).testBit j = true
  | [], m, h => .inl h
  | k :: l, m, h => by
    rcases fold_or f j l _ h with h | ⟨k', hk, h⟩
    · rw [Nat.testBit_or, Bool.or_eq_true] at h
      rcases h with h | h
      · exact .inl h
      · exact .inr ⟨k, List.mem_cons_self, h⟩
    · exact .inr ⟨k', List.mem_cons_of_mem _ hk, h⟩
theorem x0 {l : List Oper} {listed : Array Bool} (hback : ∀ i o, l[i]? = some o → ∀ e ∈ o.after, Region.binds .any e = true → e.on < i)
    (hshut : ∀ j oj, l[j]? = some oj → listed.getD j false = true → ∀ e ∈ oj.after, Region.binds .any e = true → listed.getD e.on false = true) :
    ∀ i o, l[i]? = some o → (∀ e ∈ o.after, Region.binds .any e = true → listed.getD e.on false = true) → ∀ j, ((masks l).getD i 0).testBit j = true → listed.getD j false = true := by
  intro i
  induction i using Nat.strongRecOn with
  | _ i ih =>
    intro o ho hw j hj
    rw [masks_at l i o ho] at hj
    rcases fold_or _ j _ _ hj with h | ⟨k, hk, h⟩
    · simp at h
    · obtain ⟨e, he, hb, hon⟩ := zC.1 hk
      have hkl : listed.getD k false = true := by rw [← hon]; exact hw e he hb
      have hki : k < i := by rw [← hon]; exact hback i o ho e he hb
      rw [Nat.testBit_or, Bool.or_eq_true] at h
      rcases h with h | h
      · rw [Nat.testBit_two_pow] at h
        have : k = j := by simpa using h
        rw [← this]; exact hkl
      · have hil := (List.getElem?_eq_some_iff.1 ho).1
        have hk2 : l[k]? = some (l[k]'(by omega)) := List.getElem?_eq_getElem (by omega)
        have hkt : (l.take i)[k]? = some (l[k]'(by omega)) := by rw [List.getElem?_take, if_pos hki]; exact hk2
        have h' : ((masks l).getD k 0).testBit j = true := by
          rw [masks_at l k _ hk2]
          rw [masks_at (l.take i) k _ hkt, List.take_take, Nat.min_eq_left (by omega)] at h
          exact h
        exact ih k hki _ hk2 (hshut k _ hk2 hkl) j h'
def tailOk (l : List Oper) (n : Nat) : Bool := (List.range l.length).all fun i => decide (i < n) || (masks l).getD i 0 == 2 ^ i - 1
section
variable {P : Program} {Q : Exit → Act → World → Prop} {a0 : Act} {w : World} {R : List Fact} {D : List (List (Nat × Nat))} {every : List (Nat × Nat)} {l : List Oper} {n : Nat}
theorem forced (hback : ∀ i o, l[i]? = some o → ∀ e ∈ o.after, Region.binds .any e = true → e.on < i) (ht : tailOk l n = true) :
    ∀ (fuel m : Nat) (listed : Array Bool) (a : Act) (W : World), n ≤ m → l.length ≤ m + fuel → listed.size = l.length → (∀ j, j < m → listed.getD j false = true) → (∀ j, m ≤ j → j < l.length → listed.getD j true = false) →
      wpList P l.toArray Q (l.drop m) a W → wpAny P .any l.toArray Q fuel listed a W := by
  intro fuel
  induction fuel with
  | zero =>
    intro m listed a W hn hm hs h1 h2 h
    rw [List.drop_of_length_le (by omega)] at h
    refine ⟨?_, h⟩
    cases hr : Region.ready .any l.toArray listed with
    | nil => rfl
    | cons x xs =>
      have hx : x ∈ Region.ready .any l.toArray listed := by rw [hr]; exact List.mem_cons_self
      obtain ⟨hl, o, hi, _⟩ := mem_ready.1 hx
      have hlt : x < l.length := by
        have := (Array.getElem?_eq_some_iff.1 hi).1
        simpa using this
      have h3 := h1 x (by omega)
      have hxl : x < listed.size := by omega
      simp [hxl] at hl h3
      rw [hl] at h3; cases h3
  | succ fuel ih =>
    intro m listed a W hn hm hs h1 h2 h
    rcases Nat.lt_or_ge m l.length with hml | hml
    rotate_left
    · rw [List.drop_of_length_le hml] at h
      refine ⟨fun _ => h, fun i hi => ?_⟩
      exfalso
      obtain ⟨hl, o, hio, _⟩ := mem_ready.1 hi
      have hlt : i < l.length := by
        have := (Array.getElem?_eq_some_iff.1 hio).1
        simpa using this
      have h3 := h1 i (by omega)
      have hxl : i < listed.size := by omega
      simp [hxl] at hl h3
      rw [hl] at h3; cases h3
    have hmo : l[m]? = some l[m] := List.getElem?_eq_getElem hml
    have hmr : m ∈ Region.ready .any l.toArray listed := mem_ready.2 ⟨h2 m (Nat.le_refl _) hml, l[m], by simp, fun e he hb => h1 _ (hback m _ hmo e he hb)⟩
    refine ⟨fun hr => (by rw [hr] at hmr; cases hmr), fun i hi => ?_⟩
    obtain ⟨hil, o, hio, hall⟩ := mem_ready.1 hi
    have hio' : l[i]? = some o := by simpa using hio
    have hilt := (List.getElem?_eq_some_iff.1 hio').1
    have him : m ≤ i := by
      rcases Nat.lt_or_ge i m with hlt | hge
      · have h3 := h1 i hlt
        have hxl : i < listed.size := by omega
        simp [hxl] at hil h3
        rw [hil] at h3; cases h3
      · exact hge
    have hshut : ∀ j oj, l[j]? = some oj → listed.getD j false = true → ∀ e ∈ oj.after, Region.binds .any e = true → listed.getD e.on false = true := by
      intro j oj hj hlj e he hb
      have hjl := (List.getElem?_eq_some_iff.1 hj).1
      have hjm : j < m := by
        rcases Nat.lt_or_ge j m with hlt | hge
        · exact hlt
        · have h3 := h2 j hge hjl
          have hxl : j < listed.size := by omega
          simp [hxl] at h3 hlj
          rw [h3] at hlj; cases hlj
      exact h1 _ (Nat.lt_trans (hback j oj hj e he hb) hjm)
    have hie : i = m := by
      rcases Nat.lt_or_ge m i with hlt | hge
      · exfalso
        have ht1 := List.all_eq_true.1 ht i (List.mem_range.2 hilt)
        have ht2 : (masks l).getD i 0 = 2 ^ i - 1 := by
          simp only [Bool.or_eq_true, decide_eq_true_eq, beq_iff_eq] at ht1
          rcases ht1 with h | h
          · omega
          · exact h
        have h3 := x0 hback hshut i o hio' hall m (by rw [ht2, Nat.testBit_two_pow_sub_one]; simpa using hlt)
        have h4 := h2 m (Nat.le_refl _) hml
        have hxl : m < listed.size := by omega
        simp [hxl] at h3 h4
        rw [h4] at h3; cases h3
      · omega
    subst hie
    have hoo : o = l[i] := by rw [hmo] at hio'; cases hio'; rfl
    subst hoo
    rw [List.drop_eq_getElem_cons hml] at h
    have hK : ∀ a' W', wpList P l.toArray Q (l.drop (i + 1)) a' W' → wpAny P .any l.toArray Q fuel (listed.setIfInBounds i true) a' W' := fun a' W' h' =>
      ih (i + 1) _ a' W' (by omega) (by omega) (by simpa using hs) (fun j hj => by
        by_cases hji : j = i
        · subst hji
          have : j < listed.size := by omega
          simp [this]
        · exact getD_set_true (h1 j (by omega))) (fun j hj hjl => by rw [getD_set_ne true (by omega)]; exact h2 j (by omega) hjl) h'
    unfold wpOp
    rw [hio]
    simp only
    unfold wpList at h
    split
    · rename_i hw
      rw [if_pos hw] at h
      exact h.imp (Oper.wp_mono hK) id
    · rename_i hw
      rw [if_neg hw] at h
      exact hK _ _ h
theorem parts_tail {E : List (Nat × Nat)} (hok : ∀ i o, l.toArray[i]? = some o → OpOk l.toArray D E a0.tmps.size i o) (hev : ∀ p ∈ every, p.1 < n ∧ ∃ oj, l[p.1]? = some oj ∧ oj.dst = some p.2) (ht : tailOk l n = true) (hn : n ≤ l.length)
    (hob : ∀ i o, i < n → l.toArray[i]? = some o → ∀ W, Below w.heap.size w W → given R W (fun a1 => wpList P l.toArray (PartPost a0.defers W o (factAt R i)) [o] a1 W) (D.getD i []) a0)
    (hmem : ∀ i o d, i < n → l[i]? = some o → o.dst = some d → (i, d) ∈ every)
    (hend : ∀ W, Below w.heap.size w W → given R W (fun a => wpList P l.toArray Q (l.drop n) a W) every a0) :
    ∀ (fuel : Nat) (listed : Array Bool) (a : Act) (W : World), PInv l.toArray R a0 w listed a W → (∀ j, n ≤ j → j < l.length → listed.getD j true = false) → (listed.toList.take n).count false + (l.length - n) ≤ fuel → wpAny P .any l.toArray Q fuel listed a W := by
  have hback : ∀ i o, l[i]? = some o → ∀ e ∈ o.after, Region.binds .any e = true → e.on < i := fun i o hi => (hok i o (by simpa using hi)).back
  have switch : ∀ (fuel : Nat) (listed : Array Bool) (a : Act) (W : World), PInv l.toArray R a0 w listed a W → (∀ j, n ≤ j → j < l.length → listed.getD j true = false) → (∀ j, j < n → listed.getD j false = true) → l.length - n ≤ fuel → wpAny P .any l.toArray Q fuel listed a W := by
    intro fuel listed a W h h2 h1 hf
    have hs : listed.size = l.length := by have := h.size; simpa using this
    refine forced hback ht fuel n listed a W (Nat.le_refl _) (by omega) hs h1 h2 ?_
    have h3 := yA (a := a) every a0 (hend W h.ext) fun p hp => by
      obtain ⟨hpn, oj, hj, hd⟩ := hev p hp
      exact h.got p.1 oj p.2 (by simpa using hj) hd (h1 p.1 hpn)
    have e1 : fill a every a0 = a := by
      have e2 : (fill a every a0).tmps = a.tmps := by
        apply Array.ext_getElem?
        intro t
        rw [zE]
        by_cases hc : t ∈ every.map (·.2) ∧ t < a0.tmps.size
        · rw [if_pos hc, vE a t (by rw [h.tsz]; exact hc.2)]
        · rw [if_neg hc]
          by_cases hts : t < a0.tmps.size
          · refine (h.old t fun j oj hj hd => ?_).symm
            have hj' : l[j]? = some oj := by simpa using hj
            rcases Nat.lt_or_ge j n with hjn | hjn
            · exact absurd ⟨List.mem_map.2 ⟨(j, t), hmem j oj t hjn hj' hd, rfl⟩, hts⟩ hc
            · have hjl := (List.getElem?_eq_some_iff.1 hj').1
              have h4 := h2 j hjn hjl
              have hxl : j < listed.size := by omega
              simp [hxl] at h4 ⊢; exact h4
          · rw [Array.getElem?_eq_none (by omega), Array.getElem?_eq_none (by rw [h.tsz]; omega)]
      have e3 := (xY a every a0).trans h.defs.symm
      cases hf : fill a every a0
      cases a
      rw [hf] at e2 e3
      simp only at e2 e3
      rw [e2, e3]
    rw [e1] at h3
    exact h3
  intro fuel
  induction fuel with
  | zero =>
    intro listed a W h h2 hc
    refine switch 0 listed a W h h2 (fun j hj => ?_) (by omega)
    have hs : listed.size = l.length := by have := h.size; simpa using this
    have hn0 : false ∉ listed.toList.take n := List.count_eq_zero.1 (by omega)
    have hjl : j < listed.size := by omega
    cases hb : listed[j]
    · refine absurd ?_ hn0
      have : (listed.toList.take n)[j]? = some false := by rw [List.getElem?_take, if_pos hj]; simp [hjl, hb]
      exact List.mem_of_getElem? this
    · simp [hjl, hb]
  | succ fuel ih =>
    intro listed a W h h2 hc
    have hs : listed.size = l.length := by have := h.size; simpa using this
    by_cases hall : ∀ j, j < n → listed.getD j false = true
    · exact switch _ listed a W h h2 hall (by omega)
    · refine ⟨fun hr => ?_, fun i hi => ?_⟩
      · exact absurd (fun j hj => zP hok h.size hr j (by simp; omega)) hall
      · obtain ⟨hl, o, hio, hw⟩ := mem_ready.1 hi
        have hio' : l[i]? = some o := by simpa using hio
        have hil := (List.getElem?_eq_some_iff.1 hio').1
        have hin : i < n := by
          rcases Nat.lt_or_ge i n with hlt | hge
          · exact hlt
          · exfalso
            refine hall fun j hj => ?_
            have ht1 := List.all_eq_true.1 ht i (List.mem_range.2 hil)
            have ht2 : (masks l).getD i 0 = 2 ^ i - 1 := by
              simp only [Bool.or_eq_true, decide_eq_true_eq, beq_iff_eq] at ht1
              rcases ht1 with h | h
              · omega
              · exact h
            exact x0 hback (fun j oj hj => h.shut j oj (by simpa using hj)) i o hio' hw j (by rw [ht2, Nat.testBit_two_pow_sub_one]; simpa using (by omega : j < i))
        refine part_one hio (hok i o hio) (hob i o hin hio) h hi fun a' W' h' => ih _ _ _ h' (fun j hj hjl => by rw [getD_set_ne true (by omega)]; exact h2 j hj hjl) ?_
        have hixl : i < listed.size := by omega
        have := zF (listed.toList.take n) i (by
          rw [List.getElem?_take, if_pos hin]
          simp [hixl] at hl ⊢; exact hl)
        rw [Array.toList_setIfInBounds, List.take_set]
        omega
theorem jD {id : Nat} (n : Nat) (R : List Fact) (D : List (List (Nat × Nat))) (every : List (Nat × Nat)) (hm : P.follows .mixedOrders = true) (hok : partsOk l.toArray D (every ++ ((List.range l.length).filterMap fun i => if n ≤ i then ((l[i]?).bind (·.dst)).map fun d => (i, d) else none)) a0.tmps.size = true)
    (ht : tailOk l n = true) (hn : decide (n ≤ l.length) = true) (hev : every.all (fun p => decide (p.1 < n)) = true)
    (hob : obs P l.toArray R D w a0 0 (l.take n)) (hend : ∀ W, Below w.heap.size w W → given R W (fun a => wpList P l.toArray Q (l.drop n) a W) every a0) : (Code.region id l.toArray true).wp P Q a0 w := by
  unfold partsOk at hok
  simp only [Bool.and_eq_true] at hok
  generalize hE : every ++ ((List.range l.length).filterMap fun i => if n ≤ i then ((l[i]?).bind (·.dst)).map fun d => (i, d) else none) = E at hok
  have hn' : n ≤ l.length := by simpa using hn
  have ok : ∀ i o, l.toArray[i]? = some o → OpOk l.toArray D E a0.tmps.size i o := fun i o hi => OpOk.of (by
    have := List.all_eq_true.1 hok.1 i (List.mem_range.2 (Array.getElem?_eq_some_iff.1 hi).1)
    rw [hi] at this
    exact this)
  have hmem : ∀ i o d, i < n → l[i]? = some o → o.dst = some d → (i, d) ∈ every := fun i o d hin hio hd => by
    have h1 := ((ok i o (by simpa using hio)).dst d hd).2.1
    rw [← hE, List.mem_append] at h1
    rcases h1 with h1 | h1
    · exact h1
    · exfalso
      obtain ⟨k, hk, hkk⟩ := List.mem_filterMap.1 h1
      split at hkk
      · obtain ⟨d', _, hdd⟩ := Option.map_eq_some_iff.1 hkk
        cases hdd; omega
      · cases hkk
  have hev' : ∀ p ∈ every, p.1 < n ∧ ∃ oj, l[p.1]? = some oj ∧ oj.dst = some p.2 := fun p hp => by
    have h1 := List.all_eq_true.1 hok.2 p (by rw [← hE]; exact List.mem_append_left _ hp)
    obtain ⟨oj, h6, h7⟩ := Option.bind_eq_some_iff.1 (beq_iff_eq.1 h1)
    have h2 := List.all_eq_true.1 hev p hp
    exact ⟨by simpa using h2, oj, by simpa using h6, h7⟩
  refine wp_region_any hm (parts_tail (every := every) (D := D) (R := R) (n := n) ok hev' ht hn' (fun i o hin hio W hW => ?_) hmem hend _ _ a0 _ ⟨by simp, ⟨rfl, rfl, rfl, Nat.le_refl _, fun _ _ => rfl⟩, rfl, rfl, fun j oj d hj _ hl => ?_, fun _ _ => rfl, fun j oj hj hl => ?_⟩ (fun j _ hjl => by simp [hjl]) ?_)
  · have h1 := obs_at (l.take n) 0 hob i o (by rw [List.getElem?_take, if_pos hin]; simpa using hio) W hW
    rw [Nat.zero_add] at h1
    exact h1
  · exfalso
    have hlt : j < l.length := by have := (Array.getElem?_eq_some_iff.1 hj).1; simpa using this
    simp [hlt] at hl
  · exfalso
    have hlt : j < l.length := by have := (Array.getElem?_eq_some_iff.1 hj).1; simpa using this
    simp [hlt] at hl
  · simp; omega
end
def relC (L : List Bool) : List Value := L.map Value.bool
theorem rel_zero : (Try.prog.info? 140).map (·.zero) = some (some (.agg (relC (List.replicate 256 false)).toArray)) := by kernel_rfl
theorem zW : (Try.prog.info? 140).map (·.size) = some 256 := by kernel_rfl
theorem rel_ones (L : List Bool) : ∀ u ∈ relC L, u.oneCell' = true := by
  intro u hu
  obtain ⟨b, _, rfl⟩ := List.mem_map.1 hu
  rfl
theorem qY (L : List Bool) : (relC L).length = L.length := List.length_map _
theorem qE {L : List Bool} {k : Nat} {v : Bool} (h : L[k]? = some v) : (relC L)[k]? = some (.bool v) := by unfold relC; rw [List.getElem?_map, h]; rfl
theorem zX (L : List Bool) (k : Nat) (v : Bool) : (relC L).set k (.bool v) = relC (L.set k v) := by unfold relC; rw [List.map_set]
theorem ret_rel {L : List Bool} {w w' : World} {R : Nat → Nat → Prop} (hL : L.length = 256) (he : ∀ x y, x < 16 → y < 16 → (Q.ent L x y ↔ Q.Reach R 16 x y)) (hb : Below w.heap.size w w') :
    ∃ L' : List Bool, Ending.returned (.agg (relC L).toArray) = Ending.returned (.agg (relC L').toArray) ∧ L'.length = 256 ∧ (∀ x y, x < 16 → y < 16 → (Q.ent L' x y ↔ Q.Reach R 16 x y)) ∧ Below w.heap.size w w' := ⟨L, rfl, hL, he, hb⟩
theorem calls_at {p : Pg} {f : Nat} {fn : Fn} (h : p.fns[f]? = some fn) (y : Nat) : Q.callsTo fn.nodes y ↔ Q.calls p f y := by
  unfold Q.callsTo Q.calls
  constructor
  · rintro ⟨nd, h1, h2⟩
    exact ⟨fn, h, nd, h1, h2⟩
  · rintro ⟨f', h1, nd, h2, h3⟩
    rw [h] at h1
    cases h1
    exact ⟨nd, h2, h3⟩
theorem l1 {P : Program} {ops : Array Oper} {o : Oper} {a : Act} {D : List Deferred} {W : World} (d : Nat) (ho : o.dst = some d) (hw : Region.wanted o (yielded ops a.tmps) = false) (hd : a.defers = D) (hlt : Nat.ble (d + 1) a.tmps.size = true) : wpList P ops (PartPost D W o (Fact.is undef)) [o] a W := by
  unfold wpList
  rw [if_neg (by rw [hw]; exact Bool.false_ne_true)]
  show PartPost D W o (Fact.is undef) .normal (a.put o.dst undef) W
  refine ⟨(yZ _ _ _).trans hd, Below.refl _ _, ?_⟩
  show slotOf o (a.put o.dst undef) = undef
  have := xR a d d undef
  rw [if_pos ⟨rfl, Nat.le_of_ble_eq_true hlt⟩] at this
  simp [slotOf, ho, Array.getD_eq_getD_getElem?, this]
def loopsOf : Code → List Code
  | .loop c => c :: loopsOf c
  | .seq a b => loopsOf a ++ loopsOf b
  | .block _ c => loopsOf c
  | .scope c => loopsOf c
  | .cond _ a b => loopsOf a ++ loopsOf b
  | _ => []
noncomputable def loopBody (f : Func) (i : Nat) : Code := (loopsOf (f.body.getD .skip)).getD i .skip
set_option maxRecDepth 1000000 in
set_option maxHeartbeats 4000000 in
theorem rel_loop5 (R : Nat → Nat → Prop) (B : Nat) (g3 k a : Nat) (hk16 : k < 16) (ha16 : a < 16) (L0 : List Bool) (hL0 : L0.length = 256) (w0 w : World) (hclo0 : Q.Clo R 16 k a 0 (Q.ent L0)) (hk0 : Blk w g3 140 (relC L0)) (hg3 : B ≤ g3) (hb0 : Below B w0 w) {Q0 : Exit → Act → World → Prop} (p0 p1 p2 p4 p5 p6 p7 p10 p11 p12 p13 p14 p15 p16 p17 p18 p19 p20 p21 p22 p23 p24 p25 p26 p27 p28 p29 p30 p31 p32 p33 p34 p35 p36 p37 p38 p39 p40 p42 p43 p44 p45 p46 p47 p48 p49 p50 p51 p52 p53 p54 p55 p56 p57 p58 p59 p60 p61 p62 p63 p64 p65 p66 p67 p68 p69 p70 : Value)
    (hexit : ∀ (x10 x41 x42 x43 x44 x45 x46 x47 x48 x49 x50 x51 x52 x53 x54 x55 x56 x57 x58 x59 x60 x61 x62 x63 x64 x65 x66 x67 : Value) (W : World), ∀ L : List Bool, L.length = 256 → Q.Clo R 16 k (a + 1) 0 (Q.ent L) → Blk W g3 140 (relC L) → Below B w0 W → Q0 (.exit 8) ⟨List.toArray (p0 :: p1 :: p2 :: .pointer (some ⟨g3, 0, none⟩) :: p4 :: p5 :: p6 :: p7 :: .int .i64 (k : Int) :: .int .i64 (a : Int) :: x10 :: p11 :: p12 :: p13 :: p14 :: p15 :: p16 :: p17 :: p18 :: p19 :: p20 :: p21 :: p22 :: p23 :: p24 :: p25 :: p26 :: p27 :: p28 :: p29 :: p30 :: p31 :: p32 :: p33 :: p34 :: p35 :: p36 :: p37 :: p38 :: p39 :: p40 :: x41 :: x42 :: x43 :: x44 :: x45 :: x46 :: x47 :: x48 :: x49 :: x50 :: x51 :: x52 :: x53 :: x54 :: x55 :: x56 :: x57 :: x58 :: x59 :: x60 :: x61 :: x62 :: x63 :: x64 :: x65 :: x66 :: x67 :: p68 :: p69 :: p70 :: []), []⟩ W) :
    Code.wp Try.prog (Code.loop (loopBody Try.f80 4)) Q0 ⟨List.toArray (p0 :: p1 :: p2 :: .pointer (some ⟨g3, 0, none⟩) :: p4 :: p5 :: p6 :: p7 :: .int .i64 (k : Int) :: .int .i64 (a : Int) :: p10 :: p11 :: p12 :: p13 :: p14 :: p15 :: p16 :: p17 :: p18 :: p19 :: p20 :: p21 :: p22 :: p23 :: p24 :: p25 :: p26 :: p27 :: p28 :: p29 :: p30 :: p31 :: p32 :: p33 :: p34 :: p35 :: p36 :: p37 :: p38 :: p39 :: p40 :: .int .i64 0 :: p42 :: p43 :: p44 :: p45 :: p46 :: p47 :: p48 :: p49 :: p50 :: p51 :: p52 :: p53 :: p54 :: p55 :: p56 :: p57 :: p58 :: p59 :: p60 :: p61 :: p62 :: p63 :: p64 :: p65 :: p66 :: p67 :: p68 :: p69 :: p70 :: []), []⟩ w := by
  have HX := kp hexit; clear hexit
  conv => arg 2; arg 1; whnf
  have HK0 := kp hk0; have HClo0 := kp hclo0; have HG3 := kp hg3; have HB0 := kp hb0
  clear hk0 hclo0 hg3 hb0
  go_loopw [41] (fun v41 wq => ∃ (b : Nat) (L : List Bool), b ≤ 16 ∧ v41 = .int .i64 b ∧ L.length = 256 ∧ Q.Clo R 16 k a b (Q.ent L) ∧ Blk wq g3 140 (relC L) ∧ Below B w0 wq) (fun v41 _ => 16 - (intOf v41).toNat)
  case atStart => exact ⟨0, L0, by omega, rfl, hL0, HClo0.out, HK0.out, HB0.out⟩
  case round =>
    obtain ⟨b, L3, hb, rfl, hL, hclo, hkb, hbl⟩ := hrel
    have HClo := kp hclo; have HK := kp hkb; have HBL := kp hbl; have HL := kp hL
    have HBS : Kept (B ≤ wr.heap.size) := kp (Nat.le_trans HG3.out (Nat.le_of_lt hkb.lt))
    clear hclo hkb hbl HClo0 HK0 HB0
    by_cases hb16 : b < 16
    · obtain ⟨v0, hv0, he0⟩ := Q.ent_at hL ha16 hb16
      obtain ⟨v1, hv1, he1⟩ := Q.ent_at hL ha16 hk16
      obtain ⟨v2, hv2, he2⟩ := Q.ent_at hL hk16 hb16
      have HV0 := kp hv0; have HV1 := kp hv1; have HV2 := kp hv2
      have HStep : Kept (∀ v : Bool, (v = true ↔ v0 = true ∨ (v1 = true ∧ v2 = true)) → Q.Clo R 16 k a (b + 1) (Q.ent (L3.set (a * 16 + b) v))) := kp fun v hv =>
        HClo.out.step hk16 ha16 hb16 fun x y hx hy => by
          rw [Q.ent_set hL ha16 hb16 v x y hx hy]
          by_cases e : x = a ∧ y = b
          · rw [if_pos e, hv]
            obtain ⟨rfl, rfl⟩ := e
            rw [he0, he1, he2]
            constructor
            · rintro (h | h)
              · exact .inl h
              · exact .inr ⟨rfl, rfl, h⟩
            · rintro (h | ⟨_, _, h⟩)
              · exact .inl h
              · exact .inr h
          · rw [if_neg e]
            constructor
            · exact .inl
            · rintro (h | ⟨h1, h2, _⟩)
              · exact h
              · exact absurd ⟨h1, h2⟩ e
      have hai : (a : Int) < (16 : Int) := by omega
      have hbi : (b : Int) < (16 : Int) := by omega
      have hki : (k : Int) < (16 : Int) := by omega
      have ha0 : (0 : Int) ≤ (a : Int) := by omega
      have hb0 : (0 : Int) ≤ (b : Int) := by omega
      have hk0 : (0 : Int) ≤ (k : Int) := by omega
      clear he0 he1 he2 hv0 hv1 hv2 hL
      cases v0
      · cases v1
        · go_wp2
          apply jD 23 (.is _ :: .is _ :: .is _ :: .is _ :: .is _ :: .is _ :: .is _ :: .is _ :: .is _ :: .is _ :: .is _ :: .is _ :: .is _ :: .is _ :: .is undef :: .is undef :: .is undef :: .is undef :: .is undef :: .is _ :: .is _ :: .is _ :: .is _ :: [])
            [[], [], [], [], [(2, 46)], [(4, 48), (3, 47)], [(5, 49)], [(6, 50)], [(7, 51)], [(7, 51)], [(8, 52), (7, 51)], [(10, 54), (9, 53), (7, 51)], [(11, 55), (7, 51)], [(12, 56), (7, 51)], [(13, 57)], [(13, 57)], [(14, 58), (13, 57)], [(16, 60), (15, 59), (13, 57)], [(17, 61), (13, 57)], [(13, 57), (18, 62), (7, 51)], [(7, 51), (19, 63)], [(0, 44)], [(21, 65), (1, 45)], [(22, 66), (20, 64)]]
            [(0, 44), (1, 45), (2, 46), (3, 47), (4, 48), (5, 49), (6, 50), (7, 51), (8, 52), (9, 53), (10, 54), (11, 55), (12, 56), (13, 57), (14, 58), (15, 59), (16, 60), (17, 61), (18, 62), (19, 63), (20, 64), (21, 65), (22, 66)] (by kernel_rfl) (by kernel_rfl) (by kernel_rfl) (by kernel_rfl) (by kernel_rfl)
          case hob =>
            refine ⟨?o0, ?o1, ?o2, ?o3, ?o4, ?o5, ?o6, ?o7, ?o8, ?o9, ?o10, ?o11, ?o12, ?o13, ?o14, ?o15, ?o16, ?o17, ?o18, ?o19, ?o20, ?o21, ?o22, trivial⟩
            case o0 => intro W hW; change wpList _ _ _ _ _ _; go_wp2; exact j0 rfl rfl rfl
            case o1 => intro W hW; change wpList _ _ _ _ _ _; go_wp2; exact j0 rfl rfl rfl
            case o2 => intro W hW; change wpList _ _ _ _ _ _; go_wp2; exact j0 rfl rfl rfl
            case o3 => intro W hW; change wpList _ _ _ _ _ _; go_wp2; exact j0 rfl rfl rfl
            case o4 => intro W hW; rintro _ rfl; change wpList _ _ _ _ _ _; go_wp2; exact j0 rfl rfl rfl
            case o5 => intro W hW; rintro _ rfl; rintro _ rfl; change wpList _ _ _ _ _ _; go_wp2; exact j0 rfl rfl rfl
            case o6 =>
              intro W hW; rintro _ rfl; change wpList _ _ _ _ _ _
              have hc := ((HK.out.below hW HK.out.lt).cell (a * 16 + b)).trans (qE HV0.out)
              go_wp2; exact j0 rfl rfl rfl
            case o7 => intro W hW; rintro _ rfl; change wpList _ _ _ _ _ _; go_wp2; exact j0 rfl rfl rfl
            case o8 => intro W hW; rintro _ rfl; change wpList _ _ _ _ _ _; go_wp2; exact j0 rfl rfl rfl
            case o9 => intro W hW; rintro _ rfl; change wpList _ _ _ _ _ _; go_wp2; exact j0 rfl rfl rfl
            case o10 => intro W hW; rintro _ rfl; rintro _ rfl; change wpList _ _ _ _ _ _; go_wp2; exact j0 rfl rfl rfl
            case o11 => intro W hW; rintro _ rfl; rintro _ rfl; rintro _ rfl; change wpList _ _ _ _ _ _; go_wp2; exact j0 rfl rfl rfl
            case o12 =>
              intro W hW; rintro _ rfl; rintro _ rfl; change wpList _ _ _ _ _ _
              have hc := ((HK.out.below hW HK.out.lt).cell (a * 16 + k)).trans (qE HV1.out)
              go_wp2; exact j0 rfl rfl rfl
            case o13 => intro W hW; rintro _ rfl; rintro _ rfl; change wpList _ _ _ _ _ _; go_wp2; exact j0 rfl rfl rfl
            case o14 => intro W hW; rintro _ rfl; change wpList _ _ _ _ _ _; exact l1 _ rfl rfl rfl rfl
            case o15 => intro W hW; rintro _ rfl; change wpList _ _ _ _ _ _; exact l1 _ rfl rfl rfl rfl
            case o16 => intro W hW; rintro _ rfl; rintro _ rfl; change wpList _ _ _ _ _ _; exact l1 _ rfl rfl rfl rfl
            case o17 => intro W hW; rintro _ rfl; rintro _ rfl; rintro _ rfl; change wpList _ _ _ _ _ _; exact l1 _ rfl rfl rfl rfl
            case o18 => intro W hW; rintro _ rfl; rintro _ rfl; change wpList _ _ _ _ _ _; exact l1 _ rfl rfl rfl rfl
            case o19 => intro W hW; rintro _ rfl; rintro _ rfl; rintro _ rfl; change wpList _ _ _ _ _ _; go_wp2; exact j0 rfl rfl rfl
            case o20 => intro W hW; rintro _ rfl; rintro _ rfl; change wpList _ _ _ _ _ _; go_wp2; exact j0 rfl rfl rfl
            case o21 => intro W hW; rintro _ rfl; change wpList _ _ _ _ _ _; go_wp2; exact j0 rfl rfl rfl
            case o22 => intro W hW; rintro _ rfl; rintro _ rfl; change wpList _ _ _ _ _ _; go_wp2; exact j0 rfl rfl rfl
          case hend =>
            intro W hW; rintro _ rfl; rintro _ rfl; rintro _ rfl; rintro _ rfl; rintro _ rfl; rintro _ rfl; rintro _ rfl; rintro _ rfl; rintro _ rfl; rintro _ rfl; rintro _ rfl; rintro _ rfl; rintro _ rfl; rintro _ rfl; rintro _ rfl; rintro _ rfl; rintro _ rfl; rintro _ rfl; rintro _ rfl; rintro _ rfl; rintro _ rfl; rintro _ rfl; rintro _ rfl
            simp only [given, jI, List.set, List.drop]
            have HK8 := kp (HK.out.below hW HK.out.lt)
            have HB8 := kp (HBL.out.trans (Below.mono hW HBS.out))
            have hcv := (HK8.out.cell (a * 16 + b)).trans (qE HV0.out)
            have hfv := HK8.out.frozen (a * 16 + b)
            go_wp2
            go_roundw
            case rel => exact ⟨b + 1, L3.set (a * 16 + b) false, by omega, by go_num, by rw [List.length_set]; exact HL.out, HStep.out _ (by simp), by rw [← zX]; exact HK8.out.set (a * 16 + b) (.bool false), HB8.out.setCell HG3.out _⟩
            case measure => simp [intOf]; omega
        · go_wp2
          apply jD 23 (.is _ :: .is _ :: .is _ :: .is _ :: .is _ :: .is _ :: .is _ :: .is _ :: .is _ :: .is _ :: .is _ :: .is _ :: .is _ :: .is _ :: .is _ :: .is _ :: .is _ :: .is _ :: .is _ :: .is _ :: .is _ :: .is _ :: .is _ :: [])
            [[], [], [], [], [(2, 46)], [(4, 48), (3, 47)], [(5, 49)], [(6, 50)], [(7, 51)], [(7, 51)], [(8, 52), (7, 51)], [(10, 54), (9, 53), (7, 51)], [(11, 55), (7, 51)], [(12, 56), (7, 51)], [(13, 57)], [(13, 57)], [(14, 58), (13, 57)], [(16, 60), (15, 59), (13, 57)], [(17, 61), (13, 57)], [(13, 57), (18, 62), (7, 51)], [(7, 51), (19, 63)], [(0, 44)], [(21, 65), (1, 45)], [(22, 66), (20, 64)]]
            [(0, 44), (1, 45), (2, 46), (3, 47), (4, 48), (5, 49), (6, 50), (7, 51), (8, 52), (9, 53), (10, 54), (11, 55), (12, 56), (13, 57), (14, 58), (15, 59), (16, 60), (17, 61), (18, 62), (19, 63), (20, 64), (21, 65), (22, 66)] (by kernel_rfl) (by kernel_rfl) (by kernel_rfl) (by kernel_rfl) (by kernel_rfl)
          case hob =>
            refine ⟨?o0, ?o1, ?o2, ?o3, ?o4, ?o5, ?o6, ?o7, ?o8, ?o9, ?o10, ?o11, ?o12, ?o13, ?o14, ?o15, ?o16, ?o17, ?o18, ?o19, ?o20, ?o21, ?o22, trivial⟩
            case o0 => intro W hW; change wpList _ _ _ _ _ _; go_wp2; exact j0 rfl rfl rfl
            case o1 => intro W hW; change wpList _ _ _ _ _ _; go_wp2; exact j0 rfl rfl rfl
            case o2 => intro W hW; change wpList _ _ _ _ _ _; go_wp2; exact j0 rfl rfl rfl
            case o3 => intro W hW; change wpList _ _ _ _ _ _; go_wp2; exact j0 rfl rfl rfl
            case o4 => intro W hW; rintro _ rfl; change wpList _ _ _ _ _ _; go_wp2; exact j0 rfl rfl rfl
            case o5 => intro W hW; rintro _ rfl; rintro _ rfl; change wpList _ _ _ _ _ _; go_wp2; exact j0 rfl rfl rfl
            case o6 =>
              intro W hW; rintro _ rfl; change wpList _ _ _ _ _ _
              have hc := ((HK.out.below hW HK.out.lt).cell (a * 16 + b)).trans (qE HV0.out)
              go_wp2; exact j0 rfl rfl rfl
            case o7 => intro W hW; rintro _ rfl; change wpList _ _ _ _ _ _; go_wp2; exact j0 rfl rfl rfl
            case o8 => intro W hW; rintro _ rfl; change wpList _ _ _ _ _ _; go_wp2; exact j0 rfl rfl rfl
            case o9 => intro W hW; rintro _ rfl; change wpList _ _ _ _ _ _; go_wp2; exact j0 rfl rfl rfl
            case o10 => intro W hW; rintro _ rfl; rintro _ rfl; change wpList _ _ _ _ _ _; go_wp2; exact j0 rfl rfl rfl
            case o11 => intro W hW; rintro _ rfl; rintro _ rfl; rintro _ rfl; change wpList _ _ _ _ _ _; go_wp2; exact j0 rfl rfl rfl
            case o12 =>
              intro W hW; rintro _ rfl; rintro _ rfl; change wpList _ _ _ _ _ _
              have hc := ((HK.out.below hW HK.out.lt).cell (a * 16 + k)).trans (qE HV1.out)
              go_wp2; exact j0 rfl rfl rfl
            case o13 => intro W hW; rintro _ rfl; rintro _ rfl; change wpList _ _ _ _ _ _; go_wp2; exact j0 rfl rfl rfl
            case o14 => intro W hW; rintro _ rfl; change wpList _ _ _ _ _ _; go_wp2; exact j0 rfl rfl rfl
            case o15 => intro W hW; rintro _ rfl; change wpList _ _ _ _ _ _; go_wp2; exact j0 rfl rfl rfl
            case o16 => intro W hW; rintro _ rfl; rintro _ rfl; change wpList _ _ _ _ _ _; go_wp2; exact j0 rfl rfl rfl
            case o17 => intro W hW; rintro _ rfl; rintro _ rfl; rintro _ rfl; change wpList _ _ _ _ _ _; go_wp2; exact j0 rfl rfl rfl
            case o18 =>
              intro W hW; rintro _ rfl; rintro _ rfl; change wpList _ _ _ _ _ _
              have hc := ((HK.out.below hW HK.out.lt).cell (k * 16 + b)).trans (qE HV2.out)
              go_wp2; exact j0 rfl rfl rfl
            case o19 => intro W hW; rintro _ rfl; rintro _ rfl; rintro _ rfl; change wpList _ _ _ _ _ _; go_wp2; exact j0 rfl rfl rfl
            case o20 => intro W hW; rintro _ rfl; rintro _ rfl; change wpList _ _ _ _ _ _; go_wp2; exact j0 rfl rfl rfl
            case o21 => intro W hW; rintro _ rfl; change wpList _ _ _ _ _ _; go_wp2; exact j0 rfl rfl rfl
            case o22 => intro W hW; rintro _ rfl; rintro _ rfl; change wpList _ _ _ _ _ _; go_wp2; exact j0 rfl rfl rfl
          case hend =>
            intro W hW; rintro _ rfl; rintro _ rfl; rintro _ rfl; rintro _ rfl; rintro _ rfl; rintro _ rfl; rintro _ rfl; rintro _ rfl; rintro _ rfl; rintro _ rfl; rintro _ rfl; rintro _ rfl; rintro _ rfl; rintro _ rfl; rintro _ rfl; rintro _ rfl; rintro _ rfl; rintro _ rfl; rintro _ rfl; rintro _ rfl; rintro _ rfl; rintro _ rfl; rintro _ rfl
            simp only [given, jI, List.set, List.drop]
            have HK8 := kp (HK.out.below hW HK.out.lt)
            have HB8 := kp (HBL.out.trans (Below.mono hW HBS.out))
            have hcv := (HK8.out.cell (a * 16 + b)).trans (qE HV0.out)
            have hfv := HK8.out.frozen (a * 16 + b)
            go_wp2
            go_roundw
            case rel => exact ⟨b + 1, L3.set (a * 16 + b) v2, by omega, by go_num, by rw [List.length_set]; exact HL.out, HStep.out _ (by simp), by rw [← zX]; exact HK8.out.set (a * 16 + b) (.bool v2), HB8.out.setCell HG3.out _⟩
            case measure => simp [intOf]; omega
      · go_wp2
        apply jD 23 (.is _ :: .is _ :: .is _ :: .is _ :: .is _ :: .is _ :: .is _ :: .is _ :: .is undef :: .is undef :: .is undef :: .is undef :: .is undef :: .is undef :: .is undef :: .is undef :: .is undef :: .is undef :: .is undef :: .is undef :: .is _ :: .is _ :: .is _ :: [])
          [[], [], [], [], [(2, 46)], [(4, 48), (3, 47)], [(5, 49)], [(6, 50)], [(7, 51)], [(7, 51)], [(8, 52), (7, 51)], [(10, 54), (9, 53), (7, 51)], [(11, 55), (7, 51)], [(12, 56), (7, 51)], [(13, 57)], [(13, 57)], [(14, 58), (13, 57)], [(16, 60), (15, 59), (13, 57)], [(17, 61), (13, 57)], [(13, 57), (18, 62), (7, 51)], [(7, 51), (19, 63)], [(0, 44)], [(21, 65), (1, 45)], [(22, 66), (20, 64)]]
          [(0, 44), (1, 45), (2, 46), (3, 47), (4, 48), (5, 49), (6, 50), (7, 51), (8, 52), (9, 53), (10, 54), (11, 55), (12, 56), (13, 57), (14, 58), (15, 59), (16, 60), (17, 61), (18, 62), (19, 63), (20, 64), (21, 65), (22, 66)] (by kernel_rfl) (by kernel_rfl) (by kernel_rfl) (by kernel_rfl) (by kernel_rfl)
        case hob =>
          refine ⟨?o0, ?o1, ?o2, ?o3, ?o4, ?o5, ?o6, ?o7, ?o8, ?o9, ?o10, ?o11, ?o12, ?o13, ?o14, ?o15, ?o16, ?o17, ?o18, ?o19, ?o20, ?o21, ?o22, trivial⟩
          case o0 => intro W hW; change wpList _ _ _ _ _ _; go_wp2; exact j0 rfl rfl rfl
          case o1 => intro W hW; change wpList _ _ _ _ _ _; go_wp2; exact j0 rfl rfl rfl
          case o2 => intro W hW; change wpList _ _ _ _ _ _; go_wp2; exact j0 rfl rfl rfl
          case o3 => intro W hW; change wpList _ _ _ _ _ _; go_wp2; exact j0 rfl rfl rfl
          case o4 => intro W hW; rintro _ rfl; change wpList _ _ _ _ _ _; go_wp2; exact j0 rfl rfl rfl
          case o5 => intro W hW; rintro _ rfl; rintro _ rfl; change wpList _ _ _ _ _ _; go_wp2; exact j0 rfl rfl rfl
          case o6 =>
            intro W hW; rintro _ rfl; change wpList _ _ _ _ _ _
            have hc := ((HK.out.below hW HK.out.lt).cell (a * 16 + b)).trans (qE HV0.out)
            go_wp2; exact j0 rfl rfl rfl
          case o7 => intro W hW; rintro _ rfl; change wpList _ _ _ _ _ _; go_wp2; exact j0 rfl rfl rfl
          case o8 => intro W hW; rintro _ rfl; change wpList _ _ _ _ _ _; exact l1 _ rfl rfl rfl rfl
          case o9 => intro W hW; rintro _ rfl; change wpList _ _ _ _ _ _; exact l1 _ rfl rfl rfl rfl
          case o10 => intro W hW; rintro _ rfl; rintro _ rfl; change wpList _ _ _ _ _ _; exact l1 _ rfl rfl rfl rfl
          case o11 => intro W hW; rintro _ rfl; rintro _ rfl; rintro _ rfl; change wpList _ _ _ _ _ _; exact l1 _ rfl rfl rfl rfl
          case o12 => intro W hW; rintro _ rfl; rintro _ rfl; change wpList _ _ _ _ _ _; exact l1 _ rfl rfl rfl rfl
          case o13 => intro W hW; rintro _ rfl; rintro _ rfl; change wpList _ _ _ _ _ _; exact l1 _ rfl rfl rfl rfl
          case o14 => intro W hW; rintro _ rfl; change wpList _ _ _ _ _ _; exact l1 _ rfl rfl rfl rfl
          case o15 => intro W hW; rintro _ rfl; change wpList _ _ _ _ _ _; exact l1 _ rfl rfl rfl rfl
          case o16 => intro W hW; rintro _ rfl; rintro _ rfl; change wpList _ _ _ _ _ _; exact l1 _ rfl rfl rfl rfl
          case o17 => intro W hW; rintro _ rfl; rintro _ rfl; rintro _ rfl; change wpList _ _ _ _ _ _; exact l1 _ rfl rfl rfl rfl
          case o18 => intro W hW; rintro _ rfl; rintro _ rfl; change wpList _ _ _ _ _ _; exact l1 _ rfl rfl rfl rfl
          case o19 => intro W hW; rintro _ rfl; rintro _ rfl; rintro _ rfl; change wpList _ _ _ _ _ _; exact l1 _ rfl rfl rfl rfl
          case o20 => intro W hW; rintro _ rfl; rintro _ rfl; change wpList _ _ _ _ _ _; go_wp2; exact j0 rfl rfl rfl
          case o21 => intro W hW; rintro _ rfl; change wpList _ _ _ _ _ _; go_wp2; exact j0 rfl rfl rfl
          case o22 => intro W hW; rintro _ rfl; rintro _ rfl; change wpList _ _ _ _ _ _; go_wp2; exact j0 rfl rfl rfl
        case hend =>
          intro W hW; rintro _ rfl; rintro _ rfl; rintro _ rfl; rintro _ rfl; rintro _ rfl; rintro _ rfl; rintro _ rfl; rintro _ rfl; rintro _ rfl; rintro _ rfl; rintro _ rfl; rintro _ rfl; rintro _ rfl; rintro _ rfl; rintro _ rfl; rintro _ rfl; rintro _ rfl; rintro _ rfl; rintro _ rfl; rintro _ rfl; rintro _ rfl; rintro _ rfl; rintro _ rfl
          simp only [given, jI, List.set, List.drop]
          have HK8 := kp (HK.out.below hW HK.out.lt)
          have HB8 := kp (HBL.out.trans (Below.mono hW HBS.out))
          have hcv := (HK8.out.cell (a * 16 + b)).trans (qE HV0.out)
          have hfv := HK8.out.frozen (a * 16 + b)
          go_wp2
          go_roundw
          case rel => exact ⟨b + 1, L3.set (a * 16 + b) true, by omega, by go_num, by rw [List.length_set]; exact HL.out, HStep.out _ (by simp), by rw [← zX]; exact HK8.out.set (a * 16 + b) (.bool true), HB8.out.setCell HG3.out _⟩
          case measure => simp [intOf]; omega
    · have hbe : b = 16 := by omega
      have HClo2 : Kept (Q.Clo R 16 k (a + 1) 0 (Q.ent L3)) := kp (by have h := HClo.out; rw [hbe] at h; exact h.line)
      have hge : 16 ≤ b := by omega
      clear hb16 hbe hL
      go_wp2
      refine HX.out _ _ _ _ _ _ _ _ _ _ _ _ _ _ _ _ _ _ _ _ _ _ _ _ _ _ _ _ _ L3 HL.out HClo2.out HK.out HBL.out
end Go.Proofs.Ytkhfolpffjihgaa
