/- TextR1, Facts, in one text. -/
import Derived.Test.YtiojobajcnifpaaDoorPk16
import Derived.Laws.Concat
import Derived.Test.YtiojobajcnifpaaDoorPk7
/- The document's digits, names and what is told, walked: Digits, Names, told. -/
namespace Go.Proofs.YtiojobajcnifpaaDoor
open Go.RowKit
set_option linter.unusedVariables false

theorem rf_fact {w : World} {B : Nat} {v : Value} {bs : List Nat} (h : Own w B 5 v (bs.map byteV)) : (Fact.bytes bs).holds v w := by
  obtain ⟨A, cap, rfl, _, _, hr⟩ := Own.readsN h rfl
  exact ⟨A, cap, rfl, hr⟩
theorem rf_cv {w : World} {B n c : Nat} {A : Option Addr} {bs : List Nat} (h : Row byteV w B A n bs) : (convert 44 9 (.slice A n c)).run Tryd.prog w = .ok (.string (strOf bs)) w :=
  run_string h _ _ _ c Tryd.underlying44 Tryd.underlying5 Tryd.underlying9
theorem rf_str (a b : List UInt8) : T.str a ++ T.str b = T.str (a ++ b) := by unfold T.str; rw [ByteArray.mk_append_mk]
theorem rf_one (n : Nat) : strOf [48 + n] = T.str [UInt8.ofNat (48 + n)] := rfl
theorem dec_len_le : ∀ n : Nat, (Lib.decDigits n).length ≤ n + 1 := by
  intro n
  induction n using Nat.strongRecOn with
  | ind n ih =>
    by_cases h : n < 10
    · rw [T.dec_small h]; simp
    · rw [T.dec_big h, List.length_append, List.length_singleton]
      have := ih (n / 10) (by omega)
      omega

set_option maxRecDepth 1000000 in
set_option maxHeartbeats 4000000 in
theorem rf_digits (n : Nat) : ∀ (w : World), n < 100000 → Calls Tryd.prog 31 #[.int .i64 (n : Int)] w fun e w' => e = .returned (.string (T.str (Lib.decDigits n))) ∧ Below w.heap.size w w' := by
  induction n using Nat.strongRecOn with
  | ind n ih =>
    intro w hn
    by_cases h : n < 10
    · have HD : Kept (T.str (Lib.decDigits n) = strOf [48 + n]) := kp (by rw [T.dec_small h]; rfl)
      have hcv : (convert 44 9 (.slice (some ⟨w.heap.size, 0, none⟩) 1 1)).run Tryd.prog (w.alloc (.cells #[.int .u8 (48 + (n : Int))] 5)) = .ok (.string (T.str (Lib.decDigits n))) (w.alloc (.cells #[.int .u8 (48 + (n : Int))] 5)) := by
        obtain ⟨A, c, e, _, _, hr⟩ := Own.readsN (Own.new w w.heap.size 5 ([48 + n].map byteV) (Nat.le_refl _) (by simp [maxLen])) rfl
        cases e
        rw [HD.out]
        have e2 : [48 + n].map byteV = [.int .u8 (48 + (n : Int))] := rfl
        rw [e2] at hr
        exact rf_cv hr
      go_enter Tryd.func31, Tryd.ntmps31
      go_wp2
      go_ret
      exact ⟨rfl, (Below.refl _ _).alloc (Nat.le_refl _) _⟩
    · obtain ⟨b, hb⟩ : ∃ b, UInt8.ofNat (48 + n % 10) = b := ⟨_, rfl⟩
      have HD : Kept (Lib.decDigits n = Lib.decDigits (n / 10) ++ [b]) := kp (by rw [← hb]; exact T.dec_big h)
      have HSb : Kept (strOf [48 + n % 10] = T.str [b]) := kp (by rw [← hb]; rfl)
      clear hb
      go_enter Tryd.func31, Tryd.ntmps31
      go_wp2
      apply region_list (.is _ :: .is (.int .i64 ((n / 10 : Nat) : Int)) :: .is (.string (T.str (Lib.decDigits (n / 10)))) :: .is _ :: .is _ :: .is _ :: .is _ :: .bytes [48 + n % 10] :: .is (.string (T.str [b])) :: .is (.string (T.str (Lib.decDigits (n / 10)) ++ T.str [b])) :: .is _ :: [])
        [[], [(0, 10)], [(1, 11)], [], [(3, 13)], [(4, 14)], [(5, 15)], [(6, 16)], [(7, 17)], [(2, 12), (8, 18)], [(9, 19)]]
        [(0, 10), (1, 11), (2, 12), (3, 13), (4, 14), (5, 15), (6, 16), (7, 17), (8, 18), (9, 19), (10, 2)] (by kernel_rfl) (by kernel_rfl)
      case hob =>
        refine ⟨?o0, ?o1, ?o2, ?o3, ?o4, ?o5, ?o6, ?o7, ?o8, ?o9, ?o10, trivial⟩
        case o0 => intro W hW; change wpList _ _ _ _ _ _; go_wp2; exact pure_post rfl rfl rfl
        case o1 => intro W hW; rintro _ rfl; change wpList _ _ _ _ _ _; go_wp2; exact pure_post rfl rfl rfl
        case o2 =>
          intro W hW; rintro _ rfl; change wpList _ _ _ _ _ _
          go_wp2_with fail
          refine (ih (n / 10) (by omega) W (by omega)).mono ?_
          rintro e w2 ⟨rfl, hb2⟩
          have HB2 := kp hb2; clear hb2
          go_wp2
          exact made_post rfl rfl rfl HB2.out rfl
        case o3 => intro W hW; change wpList _ _ _ _ _ _; go_wp2; exact pure_post rfl rfl rfl
        case o4 => intro W hW; rintro _ rfl; change wpList _ _ _ _ _ _; go_wp2; exact pure_post rfl rfl rfl
        case o5 => intro W hW; rintro _ rfl; change wpList _ _ _ _ _ _; go_wp2; exact pure_post rfl rfl rfl
        case o6 => intro W hW; rintro _ rfl; change wpList _ _ _ _ _ _; go_wp2; exact pure_post rfl rfl rfl
        case o7 =>
          intro W hW; rintro _ rfl; change wpList _ _ _ _ _ _
          go_wp2
          exact made_post rfl rfl rfl ((Below.refl _ _).alloc (Nat.le_refl _) _) (rf_fact (bs := [48 + n % 10]) (Own.new W W.heap.size 5 ([48 + n % 10].map byteV) (Nat.le_refl _) (by simp [maxLen])))
        case o8 =>
          intro W hW; rintro _ ⟨A7, c7, rfl, hr7⟩; change wpList _ _ _ _ _ _
          have hcv := rf_cv (c := c7) hr7
          rw [HSb.out] at hcv
          change (convert 44 9 (.slice A7 1 c7)).run Tryd.prog W = .ok (.string (T.str [b])) W at hcv
          go_wp2; exact pure_post rfl rfl rfl
        case o9 =>
          intro W hW; rintro _ rfl; rintro _ rfl; change wpList _ _ _ _ _ _
          have hs1 := T.str_size (Lib.decDigits (n / 10)); have hs2 := dec_len_le (n / 10); have hs3 := T.str_size [b]; rw [List.length_singleton] at hs3
          go_wp2; exact pure_post rfl rfl rfl
        case o10 => intro W hW; rintro _ rfl; change wpList _ _ _ _ _ _; go_wp2; exact pure_post rfl rfl rfl
      case hend =>
        intro W hW; rintro _ rfl; rintro _ rfl; rintro _ rfl; rintro _ rfl; rintro _ rfl; rintro _ rfl; rintro _ rfl; rintro _ ⟨A7, c7, rfl, hr7⟩; rintro _ rfl; rintro _ rfl; rintro _ rfl
        simp only [given, put_lit, List.set]
        go_wp2
        go_ret
        exact ⟨by rw [rf_str, ← HD.out]; rfl, hW⟩

set_option maxRecDepth 1000000 in
set_option maxHeartbeats 4000000 in
theorem rf_names (w : World) : Calls Tryd.prog 13 #[] w fun e w' => ∃ v, e = .returned v ∧ Own w' w.heap.size 9 v namesV ∧ Below w.heap.size w w' := by
  go_enter Tryd.func13, Tryd.ntmps13
  go_wp2
  go_ret
  exact ⟨_, rfl, Own.new w w.heap.size 9 namesV (Nat.le_refl _) (by rw [namesV_len]; simp [maxLen]), (Below.refl _ _).alloc (Nat.le_refl _) _⟩
/-- What is told of a kind, by letters. -/
def T.letter (j : Nat) : UInt8 := if j = 0 then 97 else if j = 1 then 110 else 120
def T.toldL (k : Nat) : List UInt8 := (T.tl k).map T.letter
set_option maxRecDepth 1000000 in
set_option maxHeartbeats 4000000 in
theorem rf_told (k : Nat) (hk : k < 10) (w : World) : Calls Tryd.prog 25 #[.int .i64 (k : Int)] w fun e w' => e = .returned (.string (T.str (T.toldL k))) ∧ Below w.heap.size w w' := by
  have h : k = 0 ∨ k = 1 ∨ k = 2 ∨ k = 3 ∨ k = 4 ∨ k = 5 ∨ k = 6 ∨ k = 7 ∨ k = 8 ∨ k = 9 := by omega
  rcases h with rfl | rfl | rfl | rfl | rfl | rfl | rfl | rfl | rfl | rfl
  all_goals
    go_enter Tryd.func25, Tryd.ntmps25
    go_wp2
    go_ret
    exact ⟨rfl, (Below.refl _ _).alloc (Nat.le_refl _) _⟩
end Go.Proofs.YtiojobajcnifpaaDoor

/- What may be told of a value: it is a slice that reads as a list. -/
namespace Go.Proofs.YtiojobajcnifpaaDoor
open Go.RowKit

/-- A slice that reads as this list. -/
def Fact.row {α : Type} (f : α → Value) (n : Nat) (l : List α) : Fact := ⟨fun v w => ∃ A cap, v = .slice A n cap ∧ Row f w w.heap.size A n l, fun _ _ _ hb ⟨A, cap, hv, hr⟩ => ⟨A, cap, hv, (hr.below hb).more hb.size⟩⟩
end Go.Proofs.YtiojobajcnifpaaDoor
