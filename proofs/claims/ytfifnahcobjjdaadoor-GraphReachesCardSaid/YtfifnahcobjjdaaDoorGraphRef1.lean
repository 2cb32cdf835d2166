/- The document's own functions of layer 6, walked: has, Named. -/
import Derived.Test.YtfifnahcobjjdaaDoorProgRef1
namespace Go.Proofs.YtfifnahcobjjdaaDoor
open Go.RowKit

/-- Does a node of a kind name it? -/
def names (kind : Int) (id : Nat) (nd : Nd) : Bool := decide (nd.kind = kind) && decide (nd.arg = (id : Int))
/-- Which functions below m the nodes of a kind name. -/
def namedTo (l : List Nd) (kind : Int) (m : Nat) : List Nat := (List.range m).filter fun id => l.any (names kind id)
def namedL (l : List Nd) (kind : Int) : List Nat := namedTo l kind 32
theorem namedTo_succ (l : List Nd) (kind : Int) (m : Nat) : namedTo l kind (m + 1) = namedTo l kind m ++ (if l.any (names kind m) then [m] else []) := by
  unfold namedTo
  rw [List.range_succ, List.filter_append]
  by_cases h : l.any (names kind m) <;> simp [h]
theorem namedTo_len (l : List Nd) (kind : Int) (m : Nat) : (namedTo l kind m).length ≤ m := by
  have := List.length_filter_le (fun id => l.any (names kind id)) (List.range m)
  simpa [namedTo] using this
theorem any_snoc (l : List Nd) (f : Nd → Bool) (i : Nat) (x : Nd) (h : l[i]? = some x) : (l.take (i + 1)).any f = ((l.take i).any f || f x) := by
  rw [List.take_add_one, h, List.any_append]; simp
theorem named_mem {l : List Nd} {kind : Int} {y : Nat} : y ∈ namedL l kind ↔ y < 32 ∧ ∃ nd ∈ l, nd.kind = kind ∧ nd.arg = (y : Int) := by
  unfold namedL namedTo names
  simp [List.mem_filter, List.any_eq_true]

set_option maxRecDepth 100000 in
set_option maxHeartbeats 1600000 in
theorem ref_named (B : Nat) (A : Option Addr) (n c : Nat) (l : List Nd) (kind : Int) (w : World) (hr : Nodes w B A n l) (hn : n ≤ 1000000) (hB : B ≤ w.heap.size) :
    Calls Tryd.prog 9 #[.slice A n c, .int .i64 kind] w fun e w' => ∃ v, e = .returned v ∧ Own w' w.heap.size 3 v ((namedL l kind).map natV) ∧ Below w.heap.size w w' := by
  have HR := kp hr
  have HLn := kp hr.1.len
  clear hr
  go_enter Tryd.func9, Tryd.ntmps9
  go_wp2
  go_loopw [5, 6] (fun v5 v6 wr => ∃ m : Nat, m ≤ 32 ∧ v6 = .int .i64 m ∧ Own wr w.heap.size 3 v5 ((namedTo l kind m).map natV) ∧ Below w.heap.size w wr) (fun _ v6 _ => 32 - (intOf v6).toNat)
  case atStart => exact ⟨0, by omega, rfl, Own.nil _ _ _, Below.refl _ _⟩
  case round =>
    obtain ⟨m, hm, rfl, hown, hbw⟩ := hrel
    have HOwn := kp hown; have HBw := kp hbw
    have HRw : Kept (Nodes wr B A n l) := kp (HR.out.keep fun p hp => hbw.cell (by omega))
    have hsz := hbw.size
    have hml := namedTo_len l kind m
    clear hown hbw
    by_cases hlt : m < 32
    · go_wp2
      go_loop [7, 8] (fun v7 v8 => ∃ (i : Nat) (b : Bool), i ≤ n ∧ v8 = .int .i64 i ∧ v7 = .bool b ∧ b = (l.take i).any (names kind m)) (fun _ v8 => n - (intOf v8).toNat)
      case atStart => exact ⟨0, false, by omega, rfl, rfl, by simp⟩
      case round =>
        obtain ⟨i, b, hi, rfl, rfl, hany⟩ := hrel
        have HAny := kp hany
        clear hany
        by_cases hlti : i < n
        · obtain ⟨ad, nd, rfl, _, hnd, _, he0, he1, _, _⟩ := HRw.out.get hlti
          have HN : Kept ((l.take (i + 1)).any (names kind m) = (b || names kind m nd)) := kp (by rw [any_snoc l _ i nd hnd, HAny.out])
          by_cases hk : nd.kind = kind
          · have hkb : (nd.kind == kind) = true := by simpa using hk
            by_cases ha : nd.arg = (m : Int)
            · have hab : (nd.arg == (m : Int)) = true := by simpa using ha
              have HNm : Kept (names kind m nd = true) := kp (by unfold names; rw [decide_eq_true hk, decide_eq_true ha]; rfl)
              clear hnd hk ha
              cases b
              · go_wp2
                go_round
                case rel => exact ⟨i + 1, true, by omega, by go_num, rfl, by rw [HN.out, HNm.out]; rfl⟩
                case measure => simp [intOf]; omega
              · go_wp2
                go_round
                case rel => exact ⟨i + 1, true, by omega, by go_num, rfl, by rw [HN.out]; rfl⟩
                case measure => simp [intOf]; omega
            · have hab : (nd.arg == (m : Int)) = false := by simpa using ha
              have HNm : Kept (names kind m nd = false) := kp (by unfold names; rw [decide_eq_false ha, Bool.and_false])
              clear hnd hk ha
              cases b
              · go_wp2
                go_round
                case rel => exact ⟨i + 1, false, by omega, by go_num, rfl, by rw [HN.out, HNm.out]; rfl⟩
                case measure => simp [intOf]; omega
              · go_wp2
                go_round
                case rel => exact ⟨i + 1, true, by omega, by go_num, rfl, by rw [HN.out]; rfl⟩
                case measure => simp [intOf]; omega
          · have hkb : (nd.kind == kind) = false := by simpa using hk
            have HNm : Kept (names kind m nd = false) := kp (by unfold names; rw [decide_eq_false hk, Bool.false_and])
            clear hnd hk
            cases b
            · go_wp2
              go_round
              case rel => exact ⟨i + 1, false, by omega, by go_num, rfl, by rw [HN.out, HNm.out]; rfl⟩
              case measure => simp [intOf]; omega
            · go_wp2
              go_round
              case rel => exact ⟨i + 1, true, by omega, by go_num, rfl, by rw [HN.out]; rfl⟩
              case measure => simp [intOf]; omega
        · have HE : Kept (b = l.any (names kind m)) := kp (by rw [HAny.out, List.take_of_length_le (by rw [HLn.out]; omega)])
          have hgei : n ≤ i := by omega
          clear hlti
          cases b
          · have HN : Kept (namedTo l kind (m + 1) = namedTo l kind m) := kp (by rw [namedTo_succ, if_neg (by rw [← HE.out]; decide), List.append_nil])
            go_wp2
            go_roundw
            case rel => exact ⟨m + 1, by omega, by go_num, by rw [HN.out]; exact HOwn.out, HBw.out⟩
            case measure => simp [intOf]; omega
          · have HN : Kept (namedTo l kind (m + 1) = namedTo l kind m ++ [m]) := kp (by rw [namedTo_succ, if_pos (by rw [← HE.out])])
            go_wp2_with (at_builtin; go_must (refine wpList_append_one rfl (.tmp 39) (.tmp 41) 31 rfl w.heap.size 3 _ _ Tryd.underlying31 int_info rfl _ _ _ _ rfl HOwn.out _ 1 rfl rfl rfl (by simp [maxLen]; omega) (by simp; omega) hsz ?_); intro v1 w5 hown1 hg1; have HO5 := kp hown1; clear hown1; have HG5 := kp hg1; clear hg1)
            go_roundw
            case rel => exact ⟨m + 1, by omega, by go_num, by rw [HN.out, List.map_append]; exact HO5.out, HG5.out.below HBw.out HOwn.out hsz⟩
            case measure => simp [intOf]; omega
    · have hme : m = 32 := by omega
      have HE : Kept (namedTo l kind m = namedL l kind) := kp (by rw [hme]; rfl)
      have hge : 32 ≤ m := by omega
      clear hlt hme
      go_wp2
      go_ret
      exact ⟨_, rfl, by rw [← HE.out]; exact HOwn.out, HBw.out⟩
end Go.Proofs.YtfifnahcobjjdaaDoor
