/- PcodeStr, PcodeLaw1, in one text. -/
import Derived.Test.YtdnhfpphjpnklaaDoorPcodeP4
import Derived.Test.YtdnhfpphjpnklaaDoorPk20
/- Strings out of bytes (the seat of the digests has no Read). -/
namespace Go.Proofs.YtdnhfpphjpnklaaDoor
open Go.RowKit

theorem strOf_list (bs : List Nat) : (strOf bs).toList = bs.map UInt8.ofNat := by unfold strOf; rw [ByteArray.toList_mk]
theorem cvr {w : World} {B n c : Nat} {A : Option Addr} {bs : List Nat} (h : Row byteV w B A n bs) : (convert 27 9 (.slice A n c)).run Tryd.prog w = .ok (.string (strOf bs)) w :=
  run_string h 27 5 9 c Tryd.underlying27 Tryd.underlying5 Tryd.underlying9
end Go.Proofs.YtdnhfpphjpnklaaDoor

/- What layer 7's laws share: the document's example; a program's bytes, whatever the program. -/
namespace Go.Proofs.YtdnhfpphjpnklaaDoor
open Go.RowKit

theorem one_bytes (g g2 : Nat) : C.pgB (C.dataOf (pgOne g g2 ⟨9, 0, 0, 0⟩)) = [97, 108, 112, 49, 0, 0, 0, 1, 1, 9] := by
  have p0 : V.put (low32 0) = [0] := V.put_last _ (by decide)
  have p1 : V.put (low32 1) = [1] := V.put_last _ (by decide)
  have p9 : V.put (low32 9) = [9] := V.put_last _ (by decide)
  show C.mark ++ (C.nums [0, 0, 0] ++ (V.put (low32 ((1 : Nat) : Int)) ++ C.fnsB [[⟨9, 0, 0, 0⟩]])) = _
  unfold C.fnsB C.fnB C.ndsB C.ndB C.told C.nums
  simp only [List.flatMap_cons, List.flatMap_nil, List.map_nil, List.append_nil, show C.tl 9 = [] from rfl, List.length_cons, List.length_nil, p0, p9]
  rw [show V.put (low32 ((1 : Nat) : Int)) = [1] from p1]
  rfl
theorem one_str (l : List Nat) (h : l = [97, 108, 112, 49, 0, 0, 0, 1, 1, 9]) : ((strOf l).toList == ([97, 108, 112, 49, 0, 0, 0, 1, 1, 9] : List UInt8)) = true := by
  rw [h, strOf_list]; rfl

set_option maxRecDepth 100000 in
set_option maxHeartbeats 800000 in
theorem pc_awake (w : World) : Calls Tryd.prog 4 #[] w fun e w' => e = .returned (.bool true) ∧ Below w.heap.size w w' := by
  have hi9 : I64 9 := by unfold I64; omega
  obtain ⟨l, hl⟩ : ∃ l, C.pgB (C.dataOf (pgOne w.heap.size (w.heap.size + 1) ⟨9, 0, 0, 0⟩)) = l := ⟨_, rfl⟩
  have HL := kp hl
  have hl2 : l = [97, 108, 112, 49, 0, 0, 0, 1, 1, 9] := by rw [← hl]; exact one_bytes _ _
  have hlen : l.length = 10 := by rw [hl2]; rfl
  have HLen := kp hlen
  have hte := one_str l hl2
  clear hl hl2 hlen
  go_enter Tryd.func4, Tryd.ntmps4
  go_wp2_with fail
  refine (pc_write _ (pgOne w.heap.size (w.heap.size + 1) ⟨9, 0, 0, 0⟩) (oneW w ⟨9, 0, 0, 0⟩) (oneW_ok w _ (nd_ok 9 hi9)) (Nat.le_refl _) (pgOne_small _ _ _) 0 0 (check_return _ _)).mono ?_
  rintro e w1 ⟨v, rfl, hown, hb1⟩
  rw [HL.out] at hown
  obtain ⟨A1, c1, rfl, hc1, hm1, hr1⟩ := Own.readsN hown HLen.out
  have hcv := cvr (c := c1) hr1
  have HB1 : Kept (Below w.heap.size w w1) := kp ((oneW_below w _ (Below.refl _ _) (Nat.le_refl _)).trans (hb1.mono (by simp [oneW]; omega)))
  clear hb1 hown hr1
  go_wp2
  go_ret
  exact ⟨rfl, HB1.out⟩

/-- Whatever the program: its bytes if it may be, none if not. -/
theorem pc_write_any (B : Nat) (p : Pg) (w : World) (hp : p.Ok w B) (hB : B ≤ w.heap.size) (hs : Q.small p = true) (a b : Int) (c : Nat) (hc : Q.check p = (a, b, c)) :
    Calls Tryd.prog 6 #[pgA p] w fun e w' => ∃ A n cap l, e = .returned (.tuple #[.slice A n cap, .int .i64 (c : Int)]) ∧ Row byteV w' w'.heap.size A n l ∧ n ≤ cap ∧ cap ≤ maxLen ∧ (c = 0 → l = C.pgB (C.dataOf p)) ∧ (c ≠ 0 → l = []) ∧ Below w.heap.size w w' := by
  by_cases h0 : c = 0
  · subst h0
    refine (pc_write B p w hp hB hs a b hc).mono fun e w' ⟨v, h1, h2, h3⟩ => ?_
    obtain ⟨A, cap, rfl, k1, k2, k3⟩ := h2.readsN rfl
    exact ⟨A, _, cap, _, h1, k3, k1, k2, fun _ => rfl, fun h => absurd rfl h, h3⟩
  · exact (pc_write_not B p w hp hB hs a b c hc h0).mono fun e w' ⟨h1, h2⟩ => ⟨none, 0, 0, [], h1, Row.none_ rfl rfl, Nat.le_refl _, Nat.zero_le _, fun h => absurd h h0, fun _ => rfl, h2⟩

theorem C.read_none {bs : List Nat} {d : C.PD} {at_ why : Nat} (h : C.read bs = (d, at_, why)) (hw : why ≠ 0) : d = C.none_ := by
  by_cases h1 : 65536 < bs.length
  · rw [C.read_long h1] at h; exact (Prod.mk.inj h).1.symm
  · by_cases h2 : (C.h0 bs).2.why = 0 ∧ (C.h0 bs).1 ≠ C.mark
    · rw [C.read_form h1 h2] at h; exact (Prod.mk.inj h).1.symm
    · by_cases h3 : (C.endOf bs.length (C.body bs).2).why = 0
      · by_cases h4 : (Q.check (C.pgOf (C.body bs).1)).2.2 = 0
        · rw [C.read_fine h1 h2 h3 h4] at h
          exact absurd (Prod.mk.inj (Prod.mk.inj h).2).2.symm hw
        · rw [C.read_wrong h1 h2 h3 h4] at h; exact (Prod.mk.inj h).1.symm
      · rw [C.read_fault h1 h2 h3] at h; exact (Prod.mk.inj h).1.symm
end Go.Proofs.YtdnhfpphjpnklaaDoor
