/- The document's own bytes of a set, walked. -/
import Derived.Test.YtgdnimhhhllgaaaDoorWireMath
import Derived.Test.YtgdnimhhhllgaaaDoorWalk5
import Derived.Test.YtgdnimhhhllgaaaDoorSetRef1
namespace Go.Proofs.YtgdnimhhhllgaaaDoor
open Go.RowKit

theorem row_le (l : List Nat) (h : ∀ x ∈ l, x < 4294967296) : (V.row l).length ≤ 5 * l.length := by rw [V.row_len l h]; exact V.sizes_le l

set_option maxRecDepth 100000 in
set_option maxHeartbeats 800000 in
theorem ref_setb (m : Nat) (hm : m < 4294967296) (w : World) :
    Calls Tryd.prog 14 #[.int .u32 (m : Int)] w fun e w' => ∃ v, e = .returned v ∧ Own w' w.heap.size 5 v ((R.setB m).map byteV) ∧ Below w.heap.size w w' := by
  obtain ⟨l, hl⟩ : ∃ l, S.ids m 32 = l := ⟨_, rfl⟩
  obtain ⟨n, hn⟩ : ∃ n, l.length = n := ⟨_, rfl⟩
  have hn32 : n ≤ 32 := by rw [← hn, ← hl]; exact S.ids_len m 32
  have HL31 : Kept (∀ x ∈ l, x < 4294967296) := kp <| fun x hx => by rw [← hl] at hx; have := ((S.ids_mem m 32 x).1 hx).1; omega
  have HS : Kept (R.setB m = V.put n ++ V.row l) := kp <| by unfold R.setB S.count; rw [hl, hn]
  have HL := kp hl; have HN := kp hn
  have HP := kp (put_le n (by omega))
  clear hl hn
  go_enter Tryd.func14, Tryd.ntmps14
  go_wp2_with (first
    | (go_at_call 32; go_must (refine (ref_list m hm w).mono ?_); rintro e w1 ⟨v, rfl, hown, hb1⟩
       rw [HL.out] at hown
       obtain ⟨A1, c1, rfl, hc1, hm1, hr1⟩ := Own.readsN hown HN.out
       have HR1 := kp hr1; have HB1 := kp hb1
       have hs1 := hb1.size
       have hm11 : c1 ≤ 9223372036854775807 := by unfold maxLen at hm1; omega
       clear hown hr1 hm1 hb1)
    | (go_at_call 10; go_must (refine (ref_put n (by omega) w1).mono ?_); rintro e w2 ⟨v2, rfl, hown2, hb2⟩
       have HO2 := kp hown2
       have HR2 := kp (HR1.out.below hb2)
       have HB2 := kp (HB1.out.trans (hb2.mono hs1))
       have hs2 := HB2.out.size
       have hs21 := hb2.size
       clear hown2 hb2))
  go_loopw [4, 5] (fun v4 v5 wr => ∃ i : Nat, i ≤ n ∧ v5 = .int .i64 i ∧ Own wr w1.heap.size 5 v4 ((V.put n ++ V.row (l.take i)).map byteV) ∧ Below w.heap.size w wr ∧ Row natV wr w1.heap.size A1 n l ∧ w1.heap.size ≤ wr.heap.size) (fun _ v5 _ => n - (intOf v5).toNat)
  case atStart => exact ⟨0, by omega, rfl, by simpa [V.row] using HO2.out, HB2.out, HR2.out, hs21⟩
  case round =>
    clear HO2 HB2 HR2 hs2 hs21
    obtain ⟨i, hi, rfl, hown, hbl, hrow, hsz1⟩ := hrel
    have HOwn := kp hown; have HBL := kp hbl; have HRow := kp hrow
    have hB := hbl.size
    have hlen : (V.put n ++ V.row (l.take i)).length ≤ 165 := by
      have h1 := row_le (l.take i) fun x hx => HL31.out x (List.mem_of_mem_take hx)
      have h2 := HP.out
      have h3 : (l.take i).length ≤ i := List.length_take_le _ _
      rw [List.length_append]
      omega
    clear hown hbl hrow
    by_cases hlt : i < n
    · obtain ⟨ad, x, rfl, hab, hx, hc⟩ := HRow.out.get hlt
      rw [natV_def] at hc
      have hx32 := HL31.out x (List.mem_of_getElem? hx)
      have HNx : Kept (V.put n ++ V.row (l.take (i + 1)) = (V.put n ++ V.row (l.take i)) ++ V.put x) := kp <| by rw [List.take_add_one, hx, List.append_assoc]; exact congrArg _ (V.row_snoc _ _)
      have HPx := kp (put_le x hx32)
      generalize V.put n ++ V.row (l.take i) = q at *
      clear hx
      go_wp2_with (first
        | (go_at_call 10; go_must (refine (ref_put x hx32 _).mono ?_); rintro e w3 ⟨v3, rfl, hown3, hb3⟩
           obtain ⟨A3, c3, rfl, hc3, hm3, hr3⟩ := hown3.bytes
           have HR3 := kp hr3.vals
           have HO3 := kp (HOwn.out.below hb3 (Nat.le_refl _))
           have HB3 := kp (HBL.out.trans (hb3.mono hB))
           have HRw3 := kp (HRow.out.below (hb3.mono hsz1))
           have hB3 := HB3.out.size
           have hs3 : w1.heap.size ≤ w3.heap.size := Nat.le_trans hsz1 hb3.size
           clear hown3 hb3 hr3 hm3)
        | (at_builtin; go_must (refine wpList_append_row rfl (.tmp 17) (.tmp 22) 25 rfl w1.heap.size 5 _ _ Tryd.underlying25 byte_info rfl w3 _ _ rfl HO3.out A3 _ c3 _ _ rfl HR3.out (ones _ one_byteV _) (by have := HPx.out; simp [maxLen]; omega) (by have := HPx.out; simp; omega) hs3 ?_); intro v4 w4 hown4 hg4; have HO4 := kp hown4; clear hown4; have HG4 := kp hg4; clear hg4))
      go_roundw
      case rel => exact ⟨i + 1, by omega, by go_num, by rw [HNx.out, List.map_append]; exact HO4.out, HG4.out.below HB3.out (HO3.out.less hs1) hB3, HRw3.out.keep fun p hp => World.cell?_of_block (w := w3) (HG4.out.1.block p.block (by omega) (by intro e1; have := HO3.out.block p.block e1.symm; omega)), Nat.le_trans hs3 HG4.out.size⟩
      case measure => simp [intOf]; omega
    · have hni : n = i := by omega
      subst hni
      have HE : Kept (V.put n ++ V.row (l.take n) = R.setB m) := kp <| by rw [HS.out, List.take_of_length_le (by rw [HN.out]; exact Nat.le_refl _)]
      clear hlt
      go_wp2
      go_ret
      exact ⟨_, rfl, by rw [← HE.out]; exact HOwn.out.less hs1, HBL.out⟩
end Go.Proofs.YtgdnimhhhllgaaaDoor
