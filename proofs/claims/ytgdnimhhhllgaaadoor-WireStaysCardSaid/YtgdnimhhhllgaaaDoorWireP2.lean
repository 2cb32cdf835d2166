/- The program's writer, walked: Set, Bytes; a new reader. -/
import Derived.Test.YtgdnimhhhllgaaaDoorWireP1
import Derived.Test.YtgdnimhhhllgaaaDoorSetP2
import Derived.Test.YtgdnimhhhllgaaaDoorWireRef4
namespace Go.Proofs.YtgdnimhhhllgaaaDoor
open Go.RowKit

theorem Tab.heldAt {w w' : World} {S : Nat → Prop} (h : Tab w) (hb : Held S w w') (h0 : S 0) : Tab w' := Row.heldAt h hb fun ad _ e => by cases e; exact h0

set_option maxRecDepth 100000 in
set_option maxHeartbeats 800000 in
theorem wr_set (K : Nat → Prop) (g : Nat) (bs : List Nat) (m : Nat) (hm : m < 4294967296) (w : World) (hk : Wr w K g bs) (ht : Tab w) (h0 : K 0) (hbs : bs.length ≤ 700000) :
    Calls Tryd.prog 13 #[.pointer (some ⟨g, 0, none⟩), .int .u32 (m : Int)] w fun e w' => e = .returned (.tuple #[]) ∧ Wr w' K g (bs ++ R.setB m) ∧ Held K w w' := by
  obtain ⟨l, hl⟩ : ∃ l, S.ids m 32 = l := ⟨_, rfl⟩
  obtain ⟨n, hn⟩ : ∃ n, l.length = n := ⟨_, rfl⟩
  have hn32 : n ≤ 32 := by rw [← hn, ← hl]; exact S.ids_len m 32
  have HL31 : Kept (∀ x ∈ l, x < 4294967296) := kp <| fun x hx => by rw [← hl] at hx; have := ((S.ids_mem m 32 x).1 hx).1; omega
  have HC : Kept (S.count m = n) := kp <| by unfold S.count; rw [hl, hn]
  have HS : Kept (R.setB m = V.put n ++ V.row l) := kp <| by unfold R.setB; rw [HC.out, hl]
  have HL := kp hl; have HN := kp hn; have HT := kp ht; have HK := kp hk; have H0 := kp h0
  have HP := kp (put_le n (by omega))
  have hlow := low32_nat n (by omega)
  clear hl hn ht hk h0
  go_enter Tryd.func13, Tryd.ntmps13
  go_wp2_with (first
    | (go_at_call 30; go_must (refine (count_any m hm n HC.out _).mono ?_); rintro e w' ⟨rfl, rfl⟩)
    | (go_at_call 9; go_must (refine (wr_num K g bs (n : Int) _ HK.out (by omega)).mono ?_); rintro e w1 ⟨rfl, hk1, hb1⟩; rw [hlow] at hk1
       have HK1 := kp hk1; have HB1 := kp hb1; have HT1 := kp (HT.out.heldAt hb1 H0.out); clear hk1 hb1)
    | (go_at_call 31; go_must (refine (list_any m hm w1 HT1.out HT1.out.size).mono ?_); rintro e w2 ⟨v, rfl, hown, hb2⟩
       rw [HL.out] at hown
       have HBl := kp hown.block
       obtain ⟨A2, c2, rfl, hc2, hm2, hr2⟩ := Own.readsN hown HN.out
       have HR2 := kp hr2
       have HA2 : Kept (∀ ad, A2 = some ad → w1.heap.size ≤ ad.block ∧ ad.block < w2.heap.size) := kp fun ad e => by subst e; exact HBl.out ad.block rfl
       have HK2 : Kept (Wr w2 (fun k => K k ∨ (w1.heap.size ≤ k ∧ k < w2.heap.size)) g (bs ++ V.put n)) := kp (HK1.out.below hb2 fun k h => h)
       have HB2 : Kept (Held K w w2) := kp (HB1.out.trans (Held.of_below hb2 fun k h => by obtain ⟨_, _, _, _, _, _, h6⟩ := HK1.out; exact h6 k h))
       have hm22 : c2 ≤ 9223372036854775807 := by unfold maxLen at hm2; omega
       clear hown hb2 hr2 hm2))
  go_loopw [5, 13] (fun v5 v13 wr => ∃ i : Nat, i ≤ n ∧ v13 = .int .i64 i ∧ Wr wr (fun k => K k ∨ (w1.heap.size ≤ k ∧ k < w2.heap.size)) g (bs ++ (V.put n ++ V.row (l.take i))) ∧ Held K w wr ∧ Row natV wr w2.heap.size A2 n l) (fun _ v13 _ => n - (intOf v13).toNat)
  case atStart => exact ⟨0, by omega, rfl, by simpa [V.row] using HK2.out, HB2.out, HR2.out⟩
  case round =>
    clear HK2 HB2 HR2
    obtain ⟨i, hi, rfl, hkr, hbl, hrow⟩ := hrel
    have HKr := kp hkr; have HBL := kp hbl; have HRow := kp hrow
    have hlen : (V.put n ++ V.row (l.take i)).length ≤ 165 := by
      have h1 := row_le (l.take i) fun x hx => HL31.out x (List.mem_of_mem_take hx)
      have h2 := HP.out
      have h3 : (l.take i).length ≤ i := List.length_take_le _ _
      rw [List.length_append]
      omega
    clear hkr hbl hrow
    by_cases hlt : i < n
    · obtain ⟨ad, x, rfl, hab, hx, hc⟩ := HRow.out.get hlt
      rw [natV_def] at hc
      have hx32 := HL31.out x (List.mem_of_getElem? hx)
      have hlow2 := low32_nat x hx32
      have HNx : Kept (V.put n ++ V.row (l.take (i + 1)) = (V.put n ++ V.row (l.take i)) ++ V.put x) := kp <| by rw [List.take_add_one, hx, List.append_assoc]; exact congrArg _ (V.row_snoc _ _)
      generalize V.put n ++ V.row (l.take i) = q at *
      clear hx
      go_wp2_with (go_at_call 9; go_must (refine (wr_num _ g (bs ++ q) (x : Int) _ HKr.out (by rw [List.length_append]; omega)).mono ?_); rintro e w3 ⟨rfl, hk3, hb3⟩; rw [hlow2] at hk3; have HK3 := kp hk3; have HB3 := kp hb3; clear hk3 hb3)
      go_roundw
      case rel => exact ⟨i + 1, by omega, by go_num, by rw [HNx.out, ← List.append_assoc]; exact HK3.out, HBL.out.trans (HB3.out.less fun k h => .inl h), HRow.out.heldAt HB3.out fun a _ e => .inr (HA2.out a e)⟩
      case measure => simp [intOf]; omega
    · have hni : n = i := by omega
      subst hni
      have HE : Kept (V.put n ++ V.row (l.take n) = R.setB m) := kp <| by rw [HS.out, List.take_of_length_le (by rw [HN.out]; exact Nat.le_refl _)]
      clear hlt
      go_wp2
      go_end0
      exact ⟨rfl, by rw [← HE.out]; exact HKr.out.less fun k h => .inl h, HBL.out⟩

set_option maxRecDepth 100000 in
set_option maxHeartbeats 800000 in
theorem wr_bytes (K : Nat → Prop) (g : Nat) (bs : List Nat) (w : World) (hk : Wr w K g bs) (hbs : bs.length ≤ 1000000) :
    Calls Tryd.prog 15 #[.pointer (some ⟨g, 0, none⟩)] w fun e w' => ∃ v, e = .returned v ∧ Own w' w.heap.size 5 v (bs.map byteV) ∧ Wr w' K g bs ∧ Below w.heap.size w w' := by
  have HK := kp hk
  obtain ⟨v, hblk, hown, hne, hS1, hS2, hS3⟩ := hk
  obtain ⟨A1, c1, rfl, hc1, hm1, hr1⟩ := hown.bytes
  have hc : w.cell? ⟨g, 0, none⟩ = some (.slice A1 bs.length c1) := hblk.cell 0
  have HR := kp hr1
  clear hblk hown hne hS1 hS2 hS3 hr1
  go_enter Tryd.func15, Tryd.ntmps15
  go_wp2_with (go_at_call 33; go_must (refine (clone_any _ A1 _ c1 bs w HR.out hbs (Nat.le_refl _)).mono ?_); rintro e w2 ⟨v2, rfl, hown2, hb2⟩; have HO2 := kp hown2; have HB2 := kp hb2; clear hown2 hb2)
  go_ret
  exact ⟨_, rfl, HO2.out, HK.out.below HB2.out fun k h => .inl h, HB2.out⟩
end Go.Proofs.YtgdnimhhhllgaaaDoor
