/- SetMath2, SetRef2, SetP1, SemP4, in one text. -/
import Derived.Test.YtkblgafackmckaaPq9
import Derived.Test.YtkblgafackmckaaRows
import Derived.Test.YtkblgafackmckaaPq3
import Derived.Test.YtkblgafackmckaaPq1
import Derived.Deep.QuietTactic
import Derived.BigQuiet
import Derived.Deep.RegionWith
import Derived.Laws.BitsAllLaws
import Derived.Test.YtkblgafackmckaaPq12
/- Taking the least id off a set, on plain numbers: nothing here speaks of the program. -/
namespace Go.Proofs.Ytkblgafackmckaa.S

/-- A set without its least id. -/
def rest (m : Nat) : Nat := m &&& (m - 1)
theorem low_split : ∀ m : Nat, 0 < m → ∃ k q, m = 2 ^ (k + 1) * q + 2 ^ k := by
  intro m
  induction m using Nat.strongRecOn with
  | _ m ih =>
    intro h
    by_cases ho : m % 2 = 1
    · exact ⟨0, m / 2, by omega⟩
    · obtain ⟨k, q, e⟩ := ih (m / 2) (by omega) (by omega)
      refine ⟨k + 1, q, ?_⟩
      have e1 : 2 ^ (k + 1 + 1) * q = 2 * (2 ^ (k + 1) * q) := by rw [Nat.pow_succ 2 (k + 1)]; rw [Nat.mul_comm (2 ^ (k + 1)) 2, Nat.mul_assoc]
      have e2 : 2 ^ (k + 1) = 2 * 2 ^ k := by rw [Nat.pow_succ]; omega
      rw [e1]
      generalize 2 ^ (k + 1) * q = z at *
      omega
theorem bit_split (k q i : Nat) : (2 ^ (k + 1) * q + 2 ^ k).testBit i = (decide (i = k) || (decide (k < i) && q.testBit (i - (k + 1)))) := by
  have h2 : 2 ^ k < 2 ^ (k + 1) := Nat.pow_lt_pow_right (by decide) (by omega)
  rw [Nat.testBit_two_pow_mul_add q h2]
  by_cases hi : i < k + 1
  · rw [if_pos hi, Nat.testBit_two_pow, decide_eq_false (by omega : ¬ k < i)]
    simp [eq_comm]
  · rw [if_neg hi, decide_eq_false (by omega : ¬ i = k), decide_eq_true (by omega : k < i)]
    simp
theorem bit_pred (k q i : Nat) : (2 ^ (k + 1) * q + 2 ^ k - 1).testBit i = (decide (i < k) || (decide (k < i) && q.testBit (i - (k + 1)))) := by
  have h1 : 0 < 2 ^ k := Nat.pow_pos (by decide)
  have h2 : 2 ^ k - 1 < 2 ^ (k + 1) := by have : 2 ^ k < 2 ^ (k + 1) := Nat.pow_lt_pow_right (by decide) (by omega); omega
  rw [show 2 ^ (k + 1) * q + 2 ^ k - 1 = 2 ^ (k + 1) * q + (2 ^ k - 1) by omega, Nat.testBit_two_pow_mul_add q h2]
  by_cases hi : i < k + 1
  · rw [if_pos hi, Nat.testBit_two_pow_sub_one, decide_eq_false (by omega : ¬ k < i)]
    simp
  · rw [if_neg hi, decide_eq_false (by omega : ¬ i < k), decide_eq_true (by omega : k < i)]
    simp
theorem rest_bit (k q i : Nat) : (rest (2 ^ (k + 1) * q + 2 ^ k)).testBit i = (decide (k < i) && q.testBit (i - (k + 1))) := by
  unfold rest
  rw [Nat.testBit_and, bit_split, bit_pred]
  by_cases h : k < i
  · rw [decide_eq_true h, decide_eq_false (by omega : ¬ i = k)]; cases q.testBit (i - (k + 1)) <;> simp
  · rw [decide_eq_false h]
    by_cases h2 : i = k
    · rw [decide_eq_true h2, decide_eq_false (by omega : ¬ i < k)]; simp
    · rw [decide_eq_false h2]; simp
theorem ids_split (k q : Nat) : ∀ n, ids (2 ^ (k + 1) * q + 2 ^ k) n = if k < n then k :: ids (rest (2 ^ (k + 1) * q + 2 ^ k)) n else ids (rest (2 ^ (k + 1) * q + 2 ^ k)) n
  | 0 => by simp [ids]
  | n + 1 => by
    rw [ids_succ, ids_succ, ids_split k q n, rest_bit, bit_split]
    by_cases h1 : k < n
    · rw [if_pos h1, if_pos (by omega : k < n + 1), decide_eq_false (by omega : ¬ n = k)]; rfl
    · rw [if_neg h1]
      by_cases h2 : n = k
      · subst h2
        have e : ids (rest (2 ^ (n + 1) * q + 2 ^ n)) n = [] := by
          unfold ids
          rw [List.filter_eq_nil_iff]
          intro i hi
          have := List.mem_range.1 hi
          rw [rest_bit, decide_eq_false (by omega)]; simp
        rw [e]; simp
      · rw [decide_eq_false h2, decide_eq_false h1, if_neg (show ¬ k < n + 1 by omega)]; rfl
theorem neg_bit (k q : Nat) (hm : 2 ^ (k + 1) * q + 2 ^ k < 4294967296) : ((2 ^ (k + 1) * q + 2 ^ k) &&& (4294967296 - (2 ^ (k + 1) * q + 2 ^ k))) = 2 ^ k := by
  have h1 : 0 < 2 ^ k := Nat.pow_pos (by decide)
  apply Nat.eq_of_testBit_eq
  intro j
  have e : 4294967296 - (2 ^ (k + 1) * q + 2 ^ k) = 2 ^ 32 - ((2 ^ (k + 1) * q + 2 ^ k - 1) + 1) := by
    have : 4294967296 = 2 ^ 32 := by decide
    omega
  rw [Nat.testBit_and, e, Nat.testBit_two_pow_sub_succ (by omega), bit_split, bit_pred, Nat.testBit_two_pow]
  by_cases h2 : j = k
  · subst h2
    have : j < 32 := by
      rcases Nat.lt_or_ge j 32 with h | h
      · exact h
      · have := Nat.pow_le_pow_right (by decide : 0 < 2) h
        omega
    simp [this]
  · rw [decide_eq_false h2, decide_eq_false (by omega : ¬ k = j)]
    by_cases h3 : k < j
    · rw [decide_eq_true h3, decide_eq_false (by omega : ¬ j < k)]
      cases q.testBit (j - (k + 1)) <;> simp
    · rw [decide_eq_false h3]; simp
/-- All of it, of a set that isn't empty. -/
theorem low (m : Nat) (h0 : m ≠ 0) (hm : m < 4294967296) : ∃ k, k ≤ 31 ∧ ids m 32 = k :: ids (rest m) 32 ∧ (m &&& (4294967296 - m)) = 2 ^ k ∧ rest m < m := by
  obtain ⟨k, q, rfl⟩ := low_split m (by omega)
  have h1 : 0 < 2 ^ k := Nat.pow_pos (by decide)
  have hk : k < 32 := by
    rcases Nat.lt_or_ge k 32 with h | h
    · exact h
    · have := Nat.pow_le_pow_right (by decide : 0 < 2) h
      omega
  refine ⟨k, by omega, ?_, neg_bit k q hm, ?_⟩
  · have := ids_split k q 32
    rw [if_pos hk] at this
    exact this
  · unfold rest
    exact Nat.lt_of_le_of_lt Nat.and_le_right (by omega)
theorem ids_zero (n : Nat) : ids 0 n = [] := by simp [ids]
theorem count_zero : count 0 = 0 := by simp [count, ids_zero]
theorem count_rest (m : Nat) (h0 : m ≠ 0) (hm : m < 4294967296) : count m = count (rest m) + 1 := by
  obtain ⟨k, _, h, _⟩ := low m h0 hm
  unfold count
  rw [h]; rfl
theorem count_le (m : Nat) : count m ≤ 32 := ids_len m 32
theorem least_low (m k : Nat) (l : List Nat) (h : ids m 32 = k :: l) : least m = k := by unfold least; rw [h]
/-- What the program asks instead of 'within'. -/
theorem within_not (a b : Nat) (ha : a < 4294967296) (hb : b < 4294967296) : within a b 32 = decide ((a &&& (4294967295 - b)) = 0) := by
  have hbit : ∀ i, (4294967295 - b).testBit i = (decide (i < 32) && !b.testBit i) := fun i => by
    have := Nat.testBit_two_pow_sub_succ (n := 32) (x := b) hb i
    rw [← this, show 2 ^ 32 - (b + 1) = 4294967295 - b by omega]
  rw [Bool.eq_iff_iff, within_iff, decide_eq_true_iff]
  constructor
  · intro h
    apply Nat.eq_of_testBit_eq
    intro i
    rw [Nat.testBit_and, hbit, Nat.zero_testBit]
    rcases Nat.lt_or_ge i 32 with hi | hi
    · cases h1 : a.testBit i
      · rfl
      · rw [h i hi h1]; simp
    · rw [bit_high a i ha hi]; rfl
  · intro h i hi h1
    have := congrArg (·.testBit i) h
    simp only [Nat.testBit_and, hbit, h1, Nat.zero_testBit, decide_eq_true hi, Bool.true_and] at this
    simpa using this
theorem has_one (m : Nat) (id : Int) : has m id = decide ((m &&& one id) ≠ 0) := by
  by_cases h : 0 ≤ id ∧ id ≤ 31
  · obtain ⟨n, rfl⟩ : ∃ n : Nat, id = (n : Int) := ⟨id.toNat, by omega⟩
    have hn : n ≤ 31 := by omega
    rw [has_in m n hn, one_nat n hn, Bool.eq_iff_iff, decide_eq_true_iff]
    constructor
    · intro h1 h2
      have := congrArg (·.testBit n) h2
      simp [Nat.testBit_and, h1] at this
    · intro h1
      cases h2 : m.testBit n
      · exfalso
        apply h1
        apply Nat.eq_of_testBit_eq
        intro i
        rw [Nat.testBit_and, Nat.testBit_two_pow, Nat.zero_testBit]
        by_cases hi : n = i
        · subst hi; rw [h2]; rfl
        · rw [decide_eq_false hi, Bool.and_false]
      · rfl
  · rw [has_out m id (by omega), one_out id (by omega)]; simp
theorem has_all (n id : Int) (hn : id < n) (h0 : 0 ≤ id) (h1 : id ≤ 31) : has (all n) id = true := by
  obtain ⟨i, rfl⟩ : ∃ i : Nat, id = (i : Int) := ⟨id.toNat, by omega⟩
  rw [has_in _ i (by omega)]
  by_cases h : 32 ≤ n
  · have e : all n = all ((32 : Nat) : Int) := by unfold all; rw [if_neg (by omega), if_pos h]; rfl
    rw [e, all_bit 32 i (by omega)]; simp; omega
  · obtain ⟨k, rfl⟩ : ∃ k : Nat, n = (k : Int) := ⟨n.toNat, by omega⟩
    rw [all_bit k i (by omega)]; simp; omega
theorem has_all_not (n id : Int) (h : id < 0 ∨ n ≤ id ∨ 31 < id) : has (all n) id = false := by
  by_cases ho : id < 0 ∨ 31 < id
  · exact has_out _ _ ho
  · obtain ⟨i, rfl⟩ : ∃ i : Nat, id = (i : Int) := ⟨id.toNat, by omega⟩
    rw [has_in _ i (by omega)]
    by_cases h0 : n ≤ 0
    · unfold all; rw [if_pos h0]; simp
    · obtain ⟨k, rfl⟩ : ∃ k : Nat, n = (k : Int) := ⟨n.toNat, by omega⟩
      rw [all_bit k i (by omega)]; simp; omega
end Go.Proofs.Ytkblgafackmckaa.S

/- The document's own making of sets, walked: Mask, Of. -/
namespace Go.Proofs.Ytkblgafackmckaa
open Go.RowKit

theorem pow_le31 (k : Nat) (h : k ≤ 31) : 2 ^ k ≤ 2147483648 := Nat.pow_le_pow_right (by decide) h

set_option maxRecDepth 100000 in
set_option maxHeartbeats 800000 in
theorem ref_mask (B : Nat) (A : Option Addr) (n c : Nat) (l : List Nat) (w : World) (hr : Row natV w B A n l) (hl : ∀ x ∈ l, x ≤ 31) (hn : n ≤ 100000) (m : Nat) (hm : S.mask l % 4294967296 = m) :
    Calls Try.prog 23 #[.slice A n c] w fun e w' => e = .returned (.int .u32 (m : Int)) ∧ w = w' := by
  have HR := kp hr; have HL := kp hl; have HMm := kp hm
  clear hr hl hm
  go_enter Try.func23, Try.ntmps23
  go_wp2
  go_loop [3, 4] (fun v3 v4 => ∃ k : Nat, k ≤ n ∧ v4 = .int .i64 k ∧ v3 = .int .u64 ((S.mask (l.take k) : Nat) : Int)) (fun _ v4 => n - (intOf v4).toNat)
  case atStart => exact ⟨0, by omega, rfl, rfl⟩
  case round =>
    obtain ⟨k, hk, rfl, rfl⟩ := hrel
    have hle : S.mask (l.take k) ≤ 214748364800000 := by
      have h1 := S.mask_le (l.take k) fun x hx => HL.out x (List.mem_of_mem_take hx)
      have h2 : (l.take k).length ≤ k := List.length_take_le _ _
      have h3 : (l.take k).length * 2147483648 ≤ 100000 * 2147483648 := Nat.mul_le_mul_right _ (by omega)
      omega
    by_cases hlt : k < n
    · obtain ⟨ad, x, rfl, hab, hx, hc⟩ := HR.out.get hlt
      rw [natV_def] at hc
      have hx31 := HL.out x (List.mem_of_getElem? hx)
      have HN : Kept (S.mask (l.take (k + 1)) = S.mask (l.take k) + 2 ^ x) := kp <| by rw [List.take_add_one, hx]; exact S.mask_snoc _ _
      have hp := pow_le31 x hx31
      clear hx hab
      generalize S.mask (l.take k) = q at *
      go_wp2
      go_loop [5, 6] (fun v5 v6 => ∃ j : Nat, j ≤ x ∧ v6 = .int .i64 j ∧ v5 = .int .u64 ((2 ^ j : Nat) : Int)) (fun _ v6 => x - (intOf v6).toNat)
      case atStart => exact ⟨0, by omega, rfl, rfl⟩
      case round =>
        obtain ⟨j, hj, rfl, rfl⟩ := hrel
        have hp2 := pow_le31 j (by omega)
        have HP : Kept (2 ^ (j + 1) = 2 ^ j * 2) := kp <| Nat.pow_succ 2 j
        by_cases hjx : j < x
        · generalize 2 ^ j = p at *
          go_wp2
          go_round
          case rel => exact ⟨j + 1, by omega, by go_num, by rw [HP.out]; go_num⟩
          case measure => simp [intOf]; omega
        · have HE : Kept (2 ^ j = 2 ^ x) := kp <| by rw [show j = x by omega]
          generalize 2 ^ j = p at *
          go_wp2
          go_round
          case rel => exact ⟨k + 1, by omega, by go_num, by rw [HN.out, ← HE.out]; go_num⟩
          case measure => simp [intOf]; omega
    · have HT : Kept (l.take k = l) := kp <| List.take_of_length_le (by rw [HR.out.len]; omega)
      have HM : Kept (S.mask (l.take k) = S.mask l) := kp <| by rw [HT.out]
      have hge : n ≤ k := by omega
      clear HT hlt
      generalize S.mask (l.take k) = q at *
      go_wp2
      go_ret
      exact ⟨ret_int (by rw [← HMm.out, ← HM.out]; omega), rfl⟩

theorem bad_one (l : List Int) (size x : Int) (i : Nat) (h : l[i]? = some x) (hx : x < 0 ∨ size ≤ x ∨ 31 < x) : S.bad l size i = 1 := by
  unfold S.bad
  simp only [List.getD_eq_getElem?_getD, h, Option.getD_some]
  rw [if_pos hx]
theorem bad_five (l : List Int) (size x y : Int) (i : Nat) (h : l[i]? = some x) (hx : ¬ (x < 0 ∨ size ≤ x ∨ 31 < x)) (h0 : 0 < i) (hy : l[i - 1]? = some y) (hxy : x ≤ y) : S.bad l size i = 5 := by
  unfold S.bad
  simp only [List.getD_eq_getElem?_getD, h, hy, Option.getD_some]
  rw [if_neg hx, if_pos ⟨h0, hxy⟩]
theorem bad_none (l : List Int) (size x : Int) (i : Nat) (h : l[i]? = some x) (hx : ¬ (x < 0 ∨ size ≤ x ∨ 31 < x)) (hy : ¬ (0 < i ∧ x ≤ l.getD (i - 1) 0)) : S.bad l size i = 0 := by
  unfold S.bad
  simp only [List.getD_eq_getElem?_getD, h, Option.getD_some] at *
  rw [if_neg hx, if_neg hy]
theorem bad_zero (l : List Int) (size x : Int) (i : Nat) (h : l[i]? = some x) (hb : S.bad l size i = 0) : 0 ≤ x ∧ x < size ∧ x ≤ 31 := by
  unfold S.bad at hb
  simp only [List.getD_eq_getElem?_getD, h, Option.getD_some] at hb
  split at hb
  · cases hb
  · omega
theorem first_at (l : List Int) (size : Int) (n i : Nat) (h0 : S.first l size i = 0) (hi : i < n) (hb : S.bad l size i ≠ 0) : S.first l size n = S.bad l size i := by
  have h1 : S.first l size (i + 1) = S.bad l size i := by simp only [S.first]; rw [if_pos h0]
  have := S.first_stays l size (i + 1) (by rw [h1]; exact hb) (n - (i + 1))
  rw [show i + 1 + (n - (i + 1)) = n by omega] at this
  rw [this, h1]
/-- What Of answers. -/
def ofMask (l : List Int) (size : Int) : Nat := if S.first l size l.length = 0 then S.mask (l.map Int.toNat) % 4294967296 else 0
end Go.Proofs.Ytkblgafackmckaa

/- The program's functions on sets, walked: One, All, Has, Within, rest. -/
namespace Go.Proofs.Ytkblgafackmckaa
open Go.RowKit

theorem pow_cast (n : Nat) : (2 : Int) ^ n = ((2 ^ n : Nat) : Int) := (Int.natCast_pow 2 n).symm
theorem ne_cast (x : Nat) : (((x : Nat) : Int) != 0) = decide (x ≠ 0) := by rw [Bool.eq_iff_iff]; simp
theorem eq_cast (x : Nat) : (((x : Nat) : Int) == 0) = decide (x = 0) := by rw [Bool.eq_iff_iff]; simp

set_option maxRecDepth 100000 in
set_option maxHeartbeats 800000 in
theorem one_any (id : Int) (hid : -9223372036854775808 ≤ id ∧ id ≤ 9223372036854775807) (m : Nat) (hm : S.one id = m) (w : World) :
    Calls Try.prog 36 #[.int .i64 id] w fun e w' => e = .returned (.int .u32 (m : Int)) ∧ w = w' := by
  have HM := kp hm; clear hm
  obtain ⟨hid1, hid2⟩ := hid
  by_cases h : id < 0
  · have HF : Kept (0 = m) := kp <| by rw [← HM.out, S.one_out id (.inl h)]
    go_enter Try.func36, Try.ntmps36
    go_wp2
    go_ret
    exact ⟨ret_int (by rw [← HF.out]; rfl), rfl⟩
  · by_cases h2 : 31 < id
    · have HF : Kept (0 = m) := kp <| by rw [← HM.out, S.one_out id (.inr h2)]
      go_enter Try.func36, Try.ntmps36
      go_wp2
      go_ret
      exact ⟨ret_int (by rw [← HF.out]; rfl), rfl⟩
    · obtain ⟨n, rfl⟩ : ∃ n : Nat, id = (n : Int) := ⟨id.toNat, by omega⟩
      have hn : n ≤ 31 := by omega
      have HF : Kept (2 ^ n = m) := kp <| by rw [← HM.out, S.one_nat n hn]
      have hp := pow_le31 n hn
      clear h h2 hid1 hid2
      go_enter Try.func36, Try.ntmps36
      go_wp2
      go_ret
      refine ⟨ret_int ?_, rfl⟩
      rw [← HF.out, pow_cast]
      generalize 2 ^ n = p at *
      omega
end Go.Proofs.Ytkblgafackmckaa

/- The program's interpreter, walked: the locks that a thread has. -/
namespace Go.Proofs.Ytkblgafackmckaa
open Go.RowKit

theorem owners_size : (Try.prog.info? 29).map (·.size) = some 16 := by kernel_rfl
theorem conf_size : (Try.prog.info? 31).map (·.size) = some 17 := by kernel_rfl
theorem owner_at {o : List Nat} (h16 : o.length = 16) {k : Nat} (hk : k < 16) : (o.map natV)[k]? = some (.int .i64 (o.getD k 0 : Int)) := by
  rw [List.getElem?_map, List.getElem?_eq_getElem (by omega), List.getD_eq_getElem?_getD, List.getElem?_eq_getElem (by omega)]; rfl

set_option maxRecDepth 100000 in
set_option maxHeartbeats 1600000 in
/-- Which locks a thread has. -/
theorem sem_held (q : Pc) (w : World) (hl : q.tvs.length = q.len) (h8 : q.len ≤ 8) (h16 : q.ow.length = 16) (how : ∀ o ∈ q.ow, o ≤ 8) (t : Int) (ht : I64 t) (m : Nat) (hm : M.held q.cf t = m) :
    Calls Try.prog 22 #[pcA q, .int .i64 t] w fun e w' => e = .returned (.int .u32 (m : Int)) ∧ Below w.heap.size w w' := by
  have HT := kp ht
  have HLc : Kept (I64 (q.len : Int)) := kp (by unfold I64; omega)
  have hm2 : (if 0 ≤ t ∧ t < (q.len : Int) then M.heldTo q.ow t.toNat 16 else 0) = m := by rw [← hm]; unfold M.held; rw [q.ths_len, hl]; rfl
  by_cases hin : 0 ≤ t ∧ t < (q.len : Int)
  · rw [if_pos hin] at hm2
    obtain ⟨k, rfl⟩ : ∃ k : Nat, t = (k : Int) := ⟨t.toNat, by omega⟩
    rw [Int.toNat_natCast] at hm2
    have hk : k < 8 := by omega
    have HIn := kp (decide_eq_true hin)
    have HM := kp hm2; have H16 := kp h16; have HOw := kp how
    obtain ⟨ow, how2⟩ : ∃ ow, q.ow = ow := ⟨_, rfl⟩
    have hE : pcC q = .slice q.A q.len q.cap :: ow.map natV := by unfold pcC; rw [how2]
    rw [how2] at HM H16 HOw
    unfold pcA
    rw [hE]
    have hcl : (Value.slice q.A q.len q.cap :: ow.map natV).length = 17 := by simp [H16.out]
    have hol : (ow.map natV).length = 16 := by simp [H16.out]
    have HCl := kp hcl; have HOl := kp hol
    have HS : Kept (∀ i : Nat, i < 16 → I64 (i : Int)) := kp fun i hi => by unfold I64; omega
    clear hm hm2 h16 how how2 hE hl hin ht hcl hol
    go_enter Try.func22, Try.ntmps22
    go_wp2_with (first
      | ((with_reducible refine wpList_box_agg rfl 31 (.tmp 0) rfl (.slice q.A q.len q.cap :: ow.map natV) rfl ?_); intro g1 w1 hg1 hk1 hw1; have HW1 := kp hw1; have hf0 := hk1.cell 0; simp only [List.getElem?_cons_zero] at hf0
         have HR1 : Kept (w1.rangeAt g1 1 (ow.map natV)) := kp (by have h := hk1.range 1 16; rw [List.drop_succ_cons, List.drop_zero, List.take_of_length_le (Nat.le_of_eq HOl.out)] at h; exact h)
         clear hk1 hw1)
      | ((with_reducible show wpList _ _ _ (⟨some 16, _, _, _, _, _⟩ :: _) _ _); go_must (refine wpList_load_mid rfl 29 (.tmp 15) rfl g1 1 rfl (ow.map natV) _ HR1.out Try.underlying29 rfl (by rw [HOl.out]; exact owners_size) ?_))
      | (go_at_call 31; go_must (refine (sem_among _ _ HT.out HLc.out true HIn.out _).mono ?_); rintro e w2 ⟨rfl, rfl⟩))
    clear hf0
    go_loop [5, 17] (fun v5 v17 => ∃ i : Nat, i ≤ 16 ∧ v17 = .int .i64 i ∧ v5 = .int .u32 (M.heldTo ow k i : Int)) (fun _ v17 => 16 - (intOf v17).toNat)
    case atStart => exact ⟨0, by omega, rfl, rfl⟩
    case round =>
      obtain ⟨i, hi, rfl, rfl⟩ := hrel
      by_cases hlt : i < 16
      · have hoc := owner_at H16.out hlt
        have HOc := kp hoc
        have ho8 : ow.getD i 0 ≤ 8 := by rw [List.getD_eq_getElem?_getD, List.getElem?_eq_getElem (by rw [H16.out]; exact hlt)]; exact HOw.out _ (List.getElem_mem _)
        have HN : Kept (M.heldTo ow k (i + 1) = if ow.getD i 0 = k + 1 then M.heldTo ow k i ||| 2 ^ i else M.heldTo ow k i) := kp rfl
        have hlim := M.held_lt ow k i
        have hp2 : 2 ^ i ≤ 2 ^ 15 := Nat.pow_le_pow_right (by decide) (by omega)
        obtain ⟨o, ho⟩ : ∃ o, ow.getD i 0 = o := ⟨_, rfl⟩
        obtain ⟨mm, hmm⟩ : ∃ mm, M.heldTo ow k i = mm := ⟨_, rfl⟩
        rw [ho] at HOc ho8 HN
        rw [hmm] at HN hlim ⊢
        have HOne : Kept (S.one (i : Int) = 2 ^ i) := kp (S.one_nat i (by omega))
        obtain ⟨pw, hpw⟩ : ∃ pw, 2 ^ i = pw := ⟨_, rfl⟩
        rw [hpw] at HN HOne hp2
        have hmlt : mm < 65536 := by
          have : 2 ^ i ≤ 2 ^ 15 := Nat.pow_le_pow_right (by decide) (by omega)
          omega
        have HBits : Kept (bits .or .u32 (mm : Int) (pw : Int) = ((mm ||| pw : Nat) : Int)) := kp (u32_or_nat mm pw (by omega) (by omega))
        have HMk := kp (by omega : k ≤ 1000)
        have HI := kp (HS.out i hlt)
        clear hoc ho hmm hlim hp2 hpw
        by_cases hok : o = k + 1
        · rw [if_pos hok] at HN
          have hoe : ((o : Int) == ((k + 1 : Nat) : Int)) = true := by rw [beq_iff_eq]; omega
          clear hok
          go_wp2_with (first
            | ((with_reducible show wpList _ _ _ (⟨some 20, _, _, _, _, _⟩ :: _) _ _); go_must (refine wpList_index_agg rfl 29 (.tmp 16) (.tmp 17) rfl 16 3 Try.underlying29 _ Try.underlying3 rfl size1i (ow.map natV) rfl i rfl hlt _ HOc.out ?_))
            | (go_at_call 35; go_must (refine (sem_mark k HMk.out _).mono ?_); rintro e w2 ⟨rfl, rfl⟩)
            | (go_at_call 36; go_must (refine (one_any (i : Int) HI.out pw HOne.out _).mono ?_); rintro e w2 ⟨rfl, rfl⟩))
          go_round
          case rel => exact ⟨i + 1, by omega, by go_num, by rw [HN.out, HBits.out]⟩
          case measure => simp [intOf]; omega
        · rw [if_neg hok] at HN
          have hoe : ((o : Int) == ((k + 1 : Nat) : Int)) = false := by rw [beq_eq_false_iff_ne]; omega
          clear hok
          go_wp2_with (first
            | ((with_reducible show wpList _ _ _ (⟨some 20, _, _, _, _, _⟩ :: _) _ _); go_must (refine wpList_index_agg rfl 29 (.tmp 16) (.tmp 17) rfl 16 3 Try.underlying29 _ Try.underlying3 rfl size1i (ow.map natV) rfl i rfl hlt _ HOc.out ?_))
            | (go_at_call 35; go_must (refine (sem_mark k HMk.out _).mono ?_); rintro e w2 ⟨rfl, rfl⟩))
          go_round
          case rel => exact ⟨i + 1, by omega, by go_num, by rw [HN.out]⟩
          case measure => simp [intOf]; omega
      · have he : i = 16 := by omega
        subst he
        have HM2 := kp HM.out
        go_wp2
        go_ret
        exact ⟨ret_int (by rw [HM2.out]), HW1.out⟩
  · rw [if_neg hin] at hm2
    subst hm2
    have HIn := kp (decide_eq_false hin)
    clear hm hl how ht hin
    go_enter Try.func22, Try.ntmps22
    go_wp2_with (first
      | ((with_reducible refine wpList_box_agg rfl 31 (.tmp 0) rfl (pcC q) rfl ?_); intro g1 w1 hg1 hk1 hw1; have HW1 := kp hw1; have hf0 := hk1.cell 0; simp only [pcC, List.getElem?_cons_zero] at hf0; clear hk1 hw1)
      | (go_at_call 31; go_must (refine (sem_among _ _ HT.out HLc.out false HIn.out _).mono ?_); rintro e w2 ⟨rfl, rfl⟩))
    go_ret
    exact ⟨rfl, HW1.out⟩
end Go.Proofs.Ytkblgafackmckaa
