/- What varint.Row and Put make, walked. -/
import Derived.Test.YtgdnimhhhllgaaaDoorWalk3
namespace Go.Proofs.YtgdnimhhhllgaaaDoor
open Go.RowKit


set_option maxRecDepth 100000 in
set_option maxHeartbeats 800000 in
theorem row_any (A : Option Addr) (n c : Nat) (l : List Nat) (w : World) (hr : Row wordV w w.heap.size A n l) (hb : ∀ x ∈ l, x < 4294967296) (hn : n ≤ 100000) :
    Calls Tryd.prog 40 #[.slice A n c] w fun e w' => ∃ v, e = .returned v ∧ Own w' w.heap.size 5 v ((V.row l).map byteV) ∧ Below w.heap.size w w' := by
  have HR := Lib.hid hr; clear hr
  have HB := Lib.hid hb; clear hb
  go_enter Tryd.func40, Tryd.ntmps40
  go_wp2
  go_loop [3, 11] (fun v3 v11 => ∃ k : Nat, k ≤ n ∧ v11 = .int .i64 k ∧ v3 = .int .i64 (V.sizes (l.take k) : Int)) (fun _ v11 => n - (intOf v11).toNat)
  case atStart => exact ⟨0, by omega, rfl, rfl⟩
  case round =>
    obtain ⟨k, hk, rfl, rfl⟩ := hrel
    have hsz : V.sizes (l.take k) ≤ 500000 := by
      have h1 := V.sizes_le (l.take k)
      have h2 := HR.out.len
      rw [List.length_take] at h1; omega
    by_cases hlt : k < n
    · obtain ⟨ad, x, rfl, hab, hx, hc⟩ := HR.out.get hlt
      rw [wordV_def] at hc
      have hx32 : x < 4294967296 := HB.out x (List.mem_of_getElem? hx)
      have HT : Hid (V.sizes (l.take (k + 1)) = V.sizes (l.take k) + V.size x) := by show _ = _; rw [V.take_snoc l k x hx, V.sizes_snoc]
      have hs5 := V.size_le x
      clear hx
      go_wp2_with (go_at_call 44; refine (size_any x hx32 _).mono ?_; rintro e w' ⟨rfl, rfl⟩)
      go_round
      case rel => exact ⟨k + 1, by omega, by go_num, by rw [HT.out]; go_num⟩
      case measure => simp [intOf]; omega
    · have hke : k = n := by omega
      subst hke
      go_wp2_with (at_make; go_must (refine wpList_make_own _ rfl _ _ _ rfl w.heap.size 5 _ _ 1 Tryd.underlying25 (info_parts byte_info).choose_spec.1 (info_parts byte_info).choose_spec.2.1 (info_parts byte_info).choose_spec.2.2.1 _ _ _ (V.sizes (l.take k)) rfl rfl rfl (by rw [(info_parts byte_info).choose_spec.2.2.2]; omega) (by simp [maxLen]; omega) (Nat.le_refl _) ?_); intro w1 hown1 hg1)
      have hB1 : w.heap.size ≤ w1.heap.size := hg1.size
      have HOwn1 : Hid (Own w1 w.heap.size 5 (.slice (some ⟨w.heap.size, 0, none⟩) 0 (V.sizes (l.take k))) []) := hown1
      have HBel1 : Hid (Below w.heap.size w w1) := (Below.refl _ _).grown hg1 (Nat.le_refl _) (by simp)
      clear hown1 hg1
      go_loopw [6, 24] (fun v6 v24 wr => ∃ j : Nat, j ≤ k ∧ v24 = .int .i64 j ∧ Own wr w.heap.size 5 v6 ((V.row (l.take j)).map byteV) ∧ Below w.heap.size w wr) (fun _ v24 _ => k - (intOf v24).toNat)
      case atStart => exact ⟨0, by omega, rfl, HOwn1.out, HBel1.out⟩
      case round =>
        obtain ⟨j, hj, rfl, hown, hbel⟩ := hrel
        have hB2 : w.heap.size ≤ wr.heap.size := hbel.size
        have hrow : (V.row (l.take j)).length ≤ 500000 := by
          rw [V.row_len _ fun x hx => HB.out x (List.mem_of_mem_take hx)]
          have h1 := V.sizes_le (l.take j)
          have h2 := HR.out.len
          rw [List.length_take] at h1; omega
        have HOwn := Lib.hid hown; clear hown
        have HBel := Lib.hid hbel; clear hbel
        by_cases hlt : j < k
        · obtain ⟨ad, x, rfl, hab, hx, hc⟩ := (HR.out.below HBel.out).get hlt
          rw [wordV_def] at hc
          have hx32 : x < 4294967296 := HB.out x (List.mem_of_getElem? hx)
          have HT : Hid (V.row (l.take (j + 1)) = V.row (l.take j) ++ V.put x) := by show _ = _; rw [V.take_snoc l j x hx, V.row_snoc]
          clear hx
          go_wp2_with (go_at_call 45; go_must (refine (add_any w.heap.size _ _ x hx32 _ HOwn.out (by simp; omega) hB2).mono ?_); rintro e w2 ⟨v2, rfl, hown2, hg2⟩; have HOwn2 := Lib.hid hown2; clear hown2; have HG2 := Lib.hid hg2; clear hg2)
          go_roundw
          case rel => exact ⟨j + 1, by omega, by go_num, by rw [HT.out, List.map_append]; exact HOwn2.out, HG2.out.below HBel.out HOwn.out hB2⟩
          case measure => simp [intOf]; omega
        · have hje : j = k := by omega
          have HE : Hid (l.take j = l) := by show _ = _; rw [List.take_of_length_le (by rw [HR.out.len]; omega)]
          clear hje
          go_wp2
          go_ret
          exact ⟨_, rfl, by rw [← HE.out]; exact HOwn.out, HBel.out⟩

/-- A block that a call lays for its own few elements reads as these. -/
theorem Row.lit {α : Type} (f : α → Value) (w : World) (l : List α) (cs : Array Value) (hcs : cs.toList = l.map f) (e : TypeId) : Row f (w.alloc (.cells cs e)) (w.alloc (.cells cs e)).heap.size (some ⟨w.heap.size, 0, none⟩) l.length l :=
  ⟨rfl, fun _ => ⟨_, rfl, by simp, fun k hk => by
    have hadd : (⟨w.heap.size, 0, none⟩ : Addr).add k = ⟨w.heap.size, k, none⟩ := by unfold Addr.add; split <;> simp_all
    rw [hadd, cell_of_row _ w.heap.size k cs e (0, 0) (heap_alloc_new w _), ← Array.getElem?_toList, hcs, List.getElem?_map]⟩⟩

set_option maxRecDepth 100000 in
set_option maxHeartbeats 800000 in
theorem put_any (n : Nat) (hn : n < 4294967296) (w : World) :
    Calls Tryd.prog 29 #[.int .u32 (n : Int)] w fun e w' => ∃ v, e = .returned v ∧ Own w' w.heap.size 5 v ((V.put n).map byteV) ∧ Below w.heap.size w w' := by
  have HL := Lib.hid (Row.lit wordV w [n] #[.int .u32 (n : Int)] rfl 28)
  have HN : Hid (∀ x ∈ [n], x < 4294967296) := by show ∀ x ∈ [n], x < 4294967296; simpa using hn
  go_enter Tryd.func29, Tryd.ntmps29
  go_wp2_with (go_at_call 40; go_must (refine (row_any _ _ _ [n] _ HL.out HN.out (by simp)).mono ?_); rintro e w2 ⟨v2, rfl, hown2, hb2⟩; have HOwn2 := Lib.hid hown2; clear hown2; have HB2 := Lib.hid hb2; clear hb2)
  go_ret
  have h := HOwn2.out
  simp only [V.row, List.flatMap_cons, List.flatMap_nil, List.append_nil] at h
  refine ⟨v2, rfl, h.less (by simp), ((Below.refl _ _).alloc (Nat.le_refl _) _).trans (HB2.out.mono (by simp))⟩
end Go.Proofs.YtgdnimhhhllgaaaDoor
