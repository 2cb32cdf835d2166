/- SemIn, SemP1, SemP2, SetMath2, SetRef2, in one text. -/
import Derived.Test.YtkhfolpffjihgaaPk12
import Derived.Test.YtkhfolpffjihgaaPk13
import Derived.Test.YtkhfolpffjihgaaPk4
import Derived.BigQuiet
import Derived.Deep.QuietTactic
import Derived.Test.YtkhfolpffjihgaaPk11
import Derived.Test.YtkhfolpffjihgaaRows
import Derived.Test.YtkhfolpffjihgaaPk3
import Derived.Test.YtkhfolpffjihgaaPk1
import Derived.Deep.RegionWith
namespace Go.Proofs.Ytkhfolpffjihgaa
open Go.RowKit
def frV (f : Nat × Nat) : Nat → Value
  | 0 => .int .i64 (f.1 : Int)
  | _ => .int .i64 (f.2 : Int)
structure Sv where
  A : Option Addr
  len : Nat
  cap : Nat
  stack : List (Nat × Nat)
instance : Inhabited Sv := ⟨⟨none, 0, 0, []⟩⟩
def svV (x : Sv) : Value := .slice x.A x.len x.cap
structure Sv.Ok (x : Sv) (w : World) (B : Nat) : Prop where
  row : Recs 2 frV w B x.A x.len x.stack
  lc : x.len ≤ x.cap
  cm : x.cap ≤ maxLen
structure Tv where
  sv : Sv
  slots : List Nat
instance : Inhabited Tv := ⟨⟨default, []⟩⟩
def tvV (x : Tv) : Nat → Value
  | 0 => .slice x.sv.A x.sv.len x.sv.cap
  | j + 1 => .int .i64 (x.slots.getD j 0 : Int)
def tvT (x : Tv) : M.Th := ⟨x.sv.stack, x.slots⟩
structure Pc where
  A : Option Addr
  len : Nat
  cap : Nat
  tvs : List Tv
  ow : List Nat
def pcC (q : Pc) : List Value := .slice q.A q.len q.cap :: q.ow.map natV
def pcA (q : Pc) : Value := .agg (pcC q).toArray
def Pc.cf (q : Pc) : M.Cf := ⟨q.tvs.map tvT, q.ow⟩
structure Pc.Ok (q : Pc) (w : World) (B : Nat) : Prop where
  row : Recs 9 tvV w B q.A q.len q.tvs
  lc : q.len ≤ q.cap
  cm : q.cap ≤ maxLen
  svs : ∀ x ∈ q.tvs, x.sv.Ok w B
theorem Sv.Ok.keep {x : Sv} {w w' : World} {B : Nat} (h : x.Ok w B) (hk : ∀ p : Addr, p.block < B → w'.cell? p = w.cell? p) : x.Ok w' B := ⟨h.row.keep hk, h.lc, h.cm⟩
theorem Sv.Ok.more {x : Sv} {w : World} {B B' : Nat} (h : x.Ok w B) (hB : B ≤ B') : x.Ok w B' := ⟨h.row.more hB, h.lc, h.cm⟩
theorem Pc.Ok.keep {q : Pc} {w w' : World} {B : Nat} (h : q.Ok w B) (hk : ∀ p : Addr, p.block < B → w'.cell? p = w.cell? p) : q.Ok w' B := ⟨h.row.keep hk, h.lc, h.cm, fun x hx => (h.svs x hx).keep hk⟩
theorem Pc.Ok.below {q : Pc} {w w' : World} {B : Nat} (h : q.Ok w B) (hb : Below B w w') : q.Ok w' B := h.keep fun _ hp => hb.cell hp
theorem Pc.Ok.more {q : Pc} {w : World} {B B' : Nat} (h : q.Ok w B) (hB : B ≤ B') : q.Ok w B' := ⟨h.row.more hB, h.lc, h.cm, fun x hx => (h.svs x hx).more hB⟩
theorem Pc.ths_len (q : Pc) : q.cf.ths.length = q.tvs.length := by simp [Pc.cf]
theorem Pc.Ok.len {q : Pc} {w : World} {B : Nat} (h : q.Ok w B) : q.cf.ths.length = q.len := by rw [q.ths_len]; exact h.row.len
theorem Pc.th_of {q : Pc} {k : Nat} {x : Tv} (h : q.tvs[k]? = some x) : M.th q.cf k = tvT x := M.th_is (by show (q.tvs.map tvT)[k]? = _; rw [List.getElem?_map, h]; rfl)
theorem Pc.Ok.thread {q : Pc} {w : World} {B : Nat} (h : q.Ok w B) {k : Nat} (hk : k < q.len) :
    ∃ ad x, q.A = some ad ∧ ad.block < B ∧ q.tvs[k]? = some x ∧ x.sv.Ok w B ∧ M.th q.cf k = tvT x ∧ x.sv.stack.length = x.sv.len ∧ w.cell? (ad.add (k * 9)) = some (.slice x.sv.A x.sv.len x.sv.cap) ∧
      ∀ j, w.cell? ⟨(ad.add (k * 9)).block, (ad.add (k * 9)).off + (j + 1), none⟩ = some (.int .i64 (x.slots.getD j 0 : Int)) ∨ 8 ≤ j := by
  obtain ⟨ad, x, e, hb, hx, h0, hc⟩ := h.row.field hk
  refine ⟨ad, x, e, hb, hx, h.svs x (List.mem_of_getElem? hx), Pc.th_of hx, (h.svs x (List.mem_of_getElem? hx)).row.len, h0 (by omega), fun j => ?_⟩
  rcases Nat.lt_or_ge j 8 with hj | hj
  · exact .inl (hc (j + 1) (by omega) (by omega))
  · exact .inr hj
theorem Sv.Ok.last {x : Sv} {w : World} {B : Nat} (h : x.Ok w B) (h0 : 0 < x.len) :
    ∃ ad, x.A = some ad ∧ ad.block < B ∧ w.cell? (ad.add ((x.len - 1) * 2)) = some (.int .i64 ((M.top x.stack).1 : Int)) ∧ w.cell? ⟨(ad.add ((x.len - 1) * 2)).block, (ad.add ((x.len - 1) * 2)).off + 1, none⟩ = some (.int .i64 ((M.top x.stack).2 : Int)) := by
  obtain ⟨ad, f, e, hb, hx, hc0, hc⟩ := h.row.field (k := x.len - 1) (by omega)
  have ef : M.top x.stack = f := by
    unfold M.top
    rw [h.row.len, List.getD_eq_getElem?_getD, hx]; rfl
  rw [ef]
  exact ⟨ad, e, hb, hc0 (by omega), hc 1 (by omega) (by omega)⟩
theorem vS {c : M.Cf} {t : Int} (h : t < 0 ∨ (c.ths.length : Int) ≤ t) : M.lives c t = false := by
  unfold M.lives
  by_cases h0 : 0 ≤ t
  · rw [decide_eq_true h0, Bool.true_and]
    cases hl : M.livesN c t.toNat with
    | false => rfl
    | true => have := M.lives_lt hl; omega
  · rw [decide_eq_false h0]; rfl
theorem lives_in {c : M.Cf} {t : Nat} {x : M.Th} (h : M.th c t = x) : M.lives c (t : Int) = decide (0 < x.stack.length) := by
  rw [M.lives_nat]; unfold M.livesN; rw [h]
set_option maxRecDepth 100000 in
set_option maxHeartbeats 800000 in
theorem yX (n c : Int) (_hn : I64 n) (_hc : I64 c) (b : Bool) (hb : decide (0 ≤ n ∧ n < c) = b) (w : World) :
    Calls Try.prog 66 #[.int .i64 n, .int .i64 c] w fun e w' => e = .returned (.bool b) ∧ w = w' := by
  subst hb
  by_cases h1 : 0 ≤ n
  · by_cases h2 : n < c
    · rw [decide_eq_true (show 0 ≤ n ∧ n < c from ⟨h1, h2⟩)]
      go_enter Try.func66, Try.ntmps66
      go_wp2
      go_ret
      exact ⟨rfl, rfl⟩
    · rw [decide_eq_false (show ¬ (0 ≤ n ∧ n < c) from fun h => h2 h.2)]
      go_enter Try.func66, Try.ntmps66
      go_wp2
      go_ret
      exact ⟨rfl, rfl⟩
  · rw [decide_eq_false (show ¬ (0 ≤ n ∧ n < c) from fun h => h1 h.1)]
    go_enter Try.func66, Try.ntmps66
    go_wp2
    go_ret
    exact ⟨rfl, rfl⟩
set_option maxRecDepth 100000 in
set_option maxHeartbeats 800000 in
theorem sem_mark (n : Nat) (hn : n ≤ 1000) (w : World) :
    Calls Try.prog 82 #[.int .i64 (n : Int)] w fun e w' => e = .returned (.int .i64 ((n + 1 : Nat) : Int)) ∧ w = w' := by
  go_enter Try.func82, Try.ntmps82
  go_wp2
  go_ret
  exact ⟨xM (by omega), rfl⟩
set_option maxRecDepth 100000 in
set_option maxHeartbeats 800000 in
theorem sem_unmark (n : Nat) (hn : n ≤ 1000) (w : World) :
    Calls Try.prog 46 #[.int .i64 (n : Int)] w fun e w' => e = .returned (.int .i64 ((n : Int) - 1)) ∧ w = w' := by
  go_enter Try.func46, Try.ntmps46
  go_wp2
  go_ret
  exact ⟨xM (by omega), rfl⟩
set_option maxRecDepth 100000 in
set_option maxHeartbeats 800000 in
theorem sem_last (a ad : Addr) (n c : Nat) (w : World) (h0 : 0 < n) (hn : n ≤ 1000) (hc : w.cell? a = some (.slice (some ad) n c)) :
    Calls Try.prog 65 #[.pointer (some a)] w fun e w' => e = .returned (.pointer (some (ad.add ((n - 1) * 2)))) ∧ ∃ m, w' = w.drewN m := by
  obtain ⟨k, rfl⟩ : ∃ k, n = k + 1 := ⟨n - 1, by omega⟩
  rw [Nat.add_sub_cancel]
  go_enter Try.func65, Try.ntmps65
  go_wp2
  go_quiet (fail)
  go_wp2
  go_ret
  exact ⟨rfl, _, rfl⟩
set_option maxRecDepth 100000 in
set_option maxHeartbeats 800000 in
theorem vM (B : Nat) (q : Pc) (w : World) (hq : q.Ok w B) (hB : B ≤ w.heap.size) (hl : q.len ≤ 1000) (t : Int) (ht : I64 t) (b : Bool) (hb : M.lives q.cf t = b) :
    Calls Try.prog 45 #[pcA q, .int .i64 t] w fun e w' => e = .returned (.bool b) ∧ Below w.heap.size w w' := by
  have hlen := hq.len
  have HT := kp ht
  have HLc : Kept (I64 (q.len : Int)) := kp (by unfold I64; omega)
  have hcap := hq.lc
  have hcm := hq.cm
  unfold maxLen at hcm
  by_cases hin : 0 ≤ t ∧ t < (q.len : Int)
  · obtain ⟨k, rfl⟩ : ∃ k : Nat, t = (k : Int) := ⟨t.toNat, by omega⟩
    have hk : k < q.len := by omega
    have HIn := kp (decide_eq_true hin)
    obtain ⟨ad, x, hA, hbl, hx, hok, hth, hsl, hc0, _⟩ := hq.thread hk
    rw [lives_in hth] at hb
    have hb2 : decide (0 < x.sv.len) = b := by rw [← hb, ← hsl]; rfl
    have hxm := hok.cm; have hxc := hok.lc
    unfold maxLen at hxm
    have HC0 := kp hc0
    obtain ⟨n, hn⟩ : ∃ n, x.sv.len = n := ⟨_, rfl⟩
    rw [hn] at hb2 hxc HC0
    have HE : Kept (pcC q = .slice (some ad) q.len q.cap :: q.ow.map natV) := kp (by unfold pcC; rw [hA])
    have hbz : ad.block < w.heap.size := by omega
    clear hq hb hx hok hth hsl hc0 hA hin hn hbl hlen ht
    unfold pcA
    rw [HE.out]
    cases b
    all_goals
      go_enter Try.func45, Try.ntmps45
      go_wp2_with (first
        | ((with_reducible refine j2 rfl 43 (.tmp 0) rfl (.slice (some ad) q.len q.cap :: q.ow.map natV) rfl ?_); intro g1 w1 hg1 hk1 hw1; have HW1 := kp hw1; have hf0 := hk1.cell 0; have hf1 := (hw1.cell (p := ad.add (k * 9)) (by rw [j8]; exact hbz)).trans HC0.out; simp only [List.getElem?_cons_zero] at hf0; clear hk1 hw1)
        | (go_at_call 66; go_must (refine (yX _ _ HT.out HLc.out true HIn.out _).mono ?_); rintro e w2 ⟨rfl, rfl⟩))
      go_ret
      exact ⟨rfl, HW1.out⟩
  · have hb0 : M.lives q.cf t = false := vS (by omega)
    rw [hb0] at hb
    subst hb
    have HIn := kp (decide_eq_false hin)
    clear hq hlen ht hin hb0
    go_enter Try.func45, Try.ntmps45
    go_wp2_with (first
      | ((with_reducible refine j2 rfl 43 (.tmp 0) rfl (pcC q) rfl ?_); intro g1 w1 hg1 hk1 hw1; have HW1 := kp hw1; have hf0 := hk1.cell 0; simp only [pcC, List.getElem?_cons_zero] at hf0; clear hk1 hw1)
      | (go_at_call 66; go_must (refine (yX _ _ HT.out HLc.out false HIn.out _).mono ?_); rintro e w2 ⟨rfl, rfl⟩))
    go_ret
    exact ⟨rfl, HW1.out⟩
end Go.Proofs.Ytkhfolpffjihgaa
namespace Go.Proofs.Ytkhfolpffjihgaa.S
def rest (m : Nat) : Nat := m &&& (m - 1)
theorem low_split : ∀ m : Nat, 0 < m → ∃ k q, m = 2 ^ (k + 1) * q + 2 ^ k := by
  intro m
  induction m using Nat.strongRecOn with
  | _ m ih =>
    intro h
    by_cases ho : m % 2 = 1
    · exact ⟨0, m / 2, by omega⟩
    · obtain ⟨k, q, e⟩ := ih (m / 2) (by omega) (by omega)
      refine ⟨k + 1, q, ?_⟩
      have e1 : 2 ^ (k + 1 + 1) * q = 2 * (2 ^ (k + 1) * q) := by rw [Nat.pow_succ 2 (k + 1)]; rw [Nat.mul_comm (2 ^ (k + 1)) 2, Nat.mul_assoc]
      have e2 : 2 ^ (k + 1) = 2 * 2 ^ k := by rw [Nat.pow_succ]; omega
      rw [e1]
      generalize 2 ^ (k + 1) * q = z at *
      omega
theorem vV (k q i : Nat) : (2 ^ (k + 1) * q + 2 ^ k).testBit i = (decide (i = k) || (decide (k < i) && q.testBit (i - (k + 1)))) := by
  have h2 : 2 ^ k < 2 ^ (k + 1) := Nat.pow_lt_pow_right (by decide) (by omega)
  rw [Nat.testBit_two_pow_mul_add q h2]
  by_cases hi : i < k + 1
  · rw [if_pos hi, Nat.testBit_two_pow, decide_eq_false (by omega : ¬ k < i)]
    simp [eq_comm]
  · rw [if_neg hi, decide_eq_false (by omega : ¬ i = k), decide_eq_true (by omega : k < i)]
    simp
theorem bit_pred (k q i : Nat) : (2 ^ (k + 1) * q + 2 ^ k - 1).testBit i = (decide (i < k) || (decide (k < i) && q.testBit (i - (k + 1)))) := by
  have h1 : 0 < 2 ^ k := Nat.pow_pos (by decide)
  have h2 : 2 ^ k - 1 < 2 ^ (k + 1) := by have : 2 ^ k < 2 ^ (k + 1) := Nat.pow_lt_pow_right (by decide) (by omega); omega
  rw [show 2 ^ (k + 1) * q + 2 ^ k - 1 = 2 ^ (k + 1) * q + (2 ^ k - 1) by omega, Nat.testBit_two_pow_mul_add q h2]
  by_cases hi : i < k + 1
  · rw [if_pos hi, Nat.testBit_two_pow_sub_one, decide_eq_false (by omega : ¬ k < i)]
    simp
  · rw [if_neg hi, decide_eq_false (by omega : ¬ i < k), decide_eq_true (by omega : k < i)]
    simp
theorem rest_bit (k q i : Nat) : (rest (2 ^ (k + 1) * q + 2 ^ k)).testBit i = (decide (k < i) && q.testBit (i - (k + 1))) := by
  unfold rest
  rw [Nat.testBit_and, vV, bit_pred]
  by_cases h : k < i
  · rw [decide_eq_true h, decide_eq_false (by omega : ¬ i = k)]; cases q.testBit (i - (k + 1)) <;> simp
  · rw [decide_eq_false h]
    by_cases h2 : i = k
    · rw [decide_eq_true h2, decide_eq_false (by omega : ¬ i < k)]; simp
    · rw [decide_eq_false h2]; simp
theorem ids_split (k q : Nat) : ∀ n, ids (2 ^ (k + 1) * q + 2 ^ k) n = if k < n then k :: ids (rest (2 ^ (k + 1) * q + 2 ^ k)) n else ids (rest (2 ^ (k + 1) * q + 2 ^ k)) n
  | 0 => by simp [ids]
  | n + 1 => by
    rw [ids_succ, ids_succ, ids_split k q n, rest_bit, vV]
    by_cases h1 : k < n
    · rw [if_pos h1, if_pos (by omega : k < n + 1), decide_eq_false (by omega : ¬ n = k)]; rfl
    · rw [if_neg h1]
      by_cases h2 : n = k
      · subst h2
        have e : ids (rest (2 ^ (n + 1) * q + 2 ^ n)) n = [] := by
          unfold ids
          rw [List.filter_eq_nil_iff]
          intro i hi
          have := List.mem_range.1 hi
          rw [rest_bit, decide_eq_false (by omega)]; simp
        rw [e]; simp
      · rw [decide_eq_false h2, decide_eq_false h1, if_neg (show ¬ k < n + 1 by omega)]; rfl
theorem neg_bit (k q : Nat) (hm : 2 ^ (k + 1) * q + 2 ^ k < 4294967296) : ((2 ^ (k + 1) * q + 2 ^ k) &&& (4294967296 - (2 ^ (k + 1) * q + 2 ^ k))) = 2 ^ k := by
  have h1 : 0 < 2 ^ k := Nat.pow_pos (by decide)
  apply Nat.eq_of_testBit_eq
  intro j
  have e : 4294967296 - (2 ^ (k + 1) * q + 2 ^ k) = 2 ^ 32 - ((2 ^ (k + 1) * q + 2 ^ k - 1) + 1) := by
    have : 4294967296 = 2 ^ 32 := by decide
    omega
  rw [Nat.testBit_and, e, Nat.testBit_two_pow_sub_succ (by omega), vV, bit_pred, Nat.testBit_two_pow]
  by_cases h2 : j = k
  · subst h2
    have : j < 32 := by
      rcases Nat.lt_or_ge j 32 with h | h
      · exact h
      · have := Nat.pow_le_pow_right (by decide : 0 < 2) h
        omega
    simp [this]
  · rw [decide_eq_false h2, decide_eq_false (by omega : ¬ k = j)]
    by_cases h3 : k < j
    · rw [decide_eq_true h3, decide_eq_false (by omega : ¬ j < k)]
      cases q.testBit (j - (k + 1)) <;> simp
    · rw [decide_eq_false h3]; simp
theorem low (m : Nat) (h0 : m ≠ 0) (hm : m < 4294967296) : ∃ k, k ≤ 31 ∧ ids m 32 = k :: ids (rest m) 32 ∧ (m &&& (4294967296 - m)) = 2 ^ k ∧ rest m < m := by
  obtain ⟨k, q, rfl⟩ := low_split m (by omega)
  have h1 : 0 < 2 ^ k := Nat.pow_pos (by decide)
  have hk : k < 32 := by
    rcases Nat.lt_or_ge k 32 with h | h
    · exact h
    · have := Nat.pow_le_pow_right (by decide : 0 < 2) h
      omega
  refine ⟨k, by omega, ?_, neg_bit k q hm, ?_⟩
  · have := ids_split k q 32
    rw [if_pos hk] at this
    exact this
  · unfold rest
    exact Nat.lt_of_le_of_lt Nat.and_le_right (by omega)
end Go.Proofs.Ytkhfolpffjihgaa.S
namespace Go.Proofs.Ytkhfolpffjihgaa
open Go.RowKit
end Go.Proofs.Ytkhfolpffjihgaa
