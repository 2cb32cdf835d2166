/- Walk1, Walk2, Walk3, Walk4, Walk5, in one text. -/
import Derived.Test.YtdnhfpphjpnklaaDoorRows
import Derived.Test.YtdnhfpphjpnklaaDoorPk2
import Derived.Test.YtdnhfpphjpnklaaDoorBase
import Derived.Test.YtdnhfpphjpnklaaDoorPk1
/- What the functions of varint do, walked. -/
namespace Go.Proofs.YtdnhfpphjpnklaaDoor
open Go.RowKit

set_option maxHeartbeats 400000 in
theorem size_any (n : Nat) (hn : n < 4294967296) (w : World) :
    Calls Tryd.prog 43 #[.int .u32 (n : Int)] w fun e w' => e = .returned (.int .i64 (V.size n : Int)) ∧ w = w' := by
  go_enter Tryd.func43, Tryd.ntmps43
  go_wp2
  go_loop [0, 4] (fun v0 v4 => ∃ k : Nat, k ≤ 5 ∧ v4 = .int .i64 k ∧ v0 = .int .u32 (V.left n k : Int) ∧ (k = 0 ∨ V.left n k ≠ 0)) (fun _ v4 => 5 - (intOf v4).toNat)
  case atStart => exact ⟨0, by omega, rfl, by rw [V.left_zero], .inl rfl⟩
  case round =>
    obtain ⟨k, hk, rfl, rfl, hz⟩ := hrel
    have hl := V.left_lt n k hn
    by_cases hlt : k < 5
    · have hs := V.left_succ n k
      have hat := V.size_at n k hlt hn hz
      generalize V.left n k = m at *
      have HS := Lib.hid hs; clear hs
      have HA := Lib.hid hat; clear hat
      have HZ := Lib.hid hz; clear hz
      by_cases h0 : m / 128 = 0
      · have hb : ((m : Int) / 128 == 0) = true := by simp; omega
        have HH := Lib.hid h0; clear h0
        go_wp2
        go_ret
        exact ⟨ret_int (by rw [HA.out HH.out]; omega), rfl⟩
      · have hb : ((m : Int) / 128 == 0) = false := by simp; omega
        have HH := Lib.hid h0; clear h0
        go_wp2
        go_round
        case rel => exact ⟨k + 1, by omega, by go_num, by rw [HS.out]; go_num, .inr (by rw [HS.out]; exact HH.out)⟩
        case measure => simp [intOf]; omega
    · have : k = 5 := by omega
      subst this
      rw [V.left_five n hn] at hz
      simp at hz
end Go.Proofs.YtdnhfpphjpnklaaDoor

/- What the document's own functions for varint do, walked. -/
namespace Go.Proofs.YtdnhfpphjpnklaaDoor
open Go.RowKit

theorem add_byte (m : Nat) : (128 : Int) + (m : Int) % 128 = ((m % 128 + 128 : Nat) : Int) := by omega
theorem pow_step (k : Nat) : ((128 ^ k : Nat) : Int) * 128 = ((128 ^ (k + 1) : Nat) : Int) := by rw [Nat.pow_succ, Int.natCast_mul]; rfl
theorem acc_eq (acc x p y : Nat) (h : x % 128 = y) : (acc : Int) + (p : Int) * ((x : Int) % 128) = ((acc + y * p : Nat) : Int) := by
  rw [← h, Int.natCast_add, Int.natCast_mul, Int.natCast_emod, Int.mul_comm]; rfl
theorem part_bound (p x : Nat) (hp : p ≤ 268435456) : 0 ≤ (p : Int) * ((x : Int) % 128) ∧ (p : Int) * ((x : Int) % 128) ≤ 34091302912 := by
  have h := Nat.mul_le_mul hp (by omega : x % 128 ≤ 127)
  have e : (p : Int) * ((x : Int) % 128) = ((p * (x % 128) : Nat) : Int) := by rw [Int.natCast_mul, Int.natCast_emod]; rfl
  rw [e]; omega
end Go.Proofs.YtdnhfpphjpnklaaDoor

/- What varint.add, Row and Put make, walked. -/
namespace Go.Proofs.YtdnhfpphjpnklaaDoor
open Go.RowKit



set_option maxRecDepth 100000 in
set_option maxHeartbeats 800000 in
theorem add_any (B : Nat) (v : Value) (xs : List Value) (n : Nat) (hn : n < 4294967296) (w : World) (hown : Own w B 5 v xs) (hlen : xs.length ≤ 1000000) (hB : B ≤ w.heap.size) :
    Calls Tryd.prog 44 #[v, .int .u32 (n : Int)] w fun e w' => ∃ v', e = .returned v' ∧ Own w' B 5 v' (xs ++ (V.put n).map byteV) ∧ Grew w w' v v' := by
  have HOwn := Lib.hid hown; clear hown
  have hs0 := V.size_pos n
  have hs1 := V.size_le n
  go_enter Tryd.func44, Tryd.ntmps44
  go_wp2_with (go_at_call 43; refine (size_any n hn _).mono ?_; rintro e w' ⟨rfl, rfl⟩)
  go_loopw [0, 1, 8] (fun v0 v1 v8 wr => ∃ (k m : Nat) (done : List Nat), v8 = .int .i64 k ∧ v1 = .int .u32 m ∧ m < 4294967296 ∧ done.length = k ∧ V.put n = done ++ V.put m ∧ V.size n = k + V.size m ∧
      Own wr B 5 v0 (xs ++ done.map byteV) ∧ Grew w wr v v0) (fun _ _ v8 _ => V.size n - (intOf v8).toNat)
  case atStart => exact ⟨0, n, [], rfl, rfl, hn, rfl, by simp, by omega, by simpa using HOwn.out, Grew.refl _ _⟩
  case round =>
    obtain ⟨k, m, done, rfl, rfl, hm, hk, hput, hsz, hown, hg⟩ := hrel
    have hll : xs.length + done.length ≤ 1000005 := by have := V.size_le n; have := V.size_pos m; omega
    have hB' : B ≤ wr.heap.size := Nat.le_trans hB hg.size
    have HOwn := Lib.hid hown; clear hown
    have HG := Lib.hid hg; clear hg
    have HPut := Lib.hid hput; clear hput
    by_cases h2 : m < 128
    · have hs2 := V.size_last m h2
      have hlt : ¬ (k : Int) < (V.size n : Int) - 1 := by omega
      clear hs2 hsz
      go_wp2_with ((at_builtin; go_must (refine wpList_append_one rfl (.tmp 20) (.tmp 23) 27 rfl B 5 _ _ Tryd.underlying27 byte_info rfl wr _ (xs ++ done.map byteV) _ rfl HOwn.out _ 1 rfl rfl rfl (by simp [maxLen]; omega) (by simp; omega) hB' ?_); intro v1 w1 hown1 hg1; have HOwn1 := Lib.hid hown1; clear hown1; have HG1 := Lib.hid hg1; clear hg1))
      go_ret
      refine ⟨v1, rfl, ?_, HG.out.trans HG1.out⟩
      have h := HOwn1.out
      rw [HPut.out, V.put_last m h2, List.map_append, ← List.append_assoc]
      exact h
    · have hs2 := V.size_on m h2 hm
      have hs3 := V.size_pos (m / 128)
      have hlt : (k : Int) < (V.size n : Int) - 1 := by omega
      have HS : Hid (V.size n = k + 1 + V.size (m / 128)) := by show _ = _; omega
      have HP2 := Lib.hid (V.put_on m h2)
      clear hs2 hs3 hsz
      go_wp2_with ((at_builtin; go_must (refine wpList_append_one rfl (.tmp 10) (.tmp 15) 27 rfl B 5 _ _ Tryd.underlying27 byte_info rfl wr _ (xs ++ done.map byteV) _ rfl HOwn.out _ 1 rfl rfl rfl (by simp [maxLen]; omega) (by simp; omega) hB' ?_); intro v1 w1 hown1 hg1; have HOwn1 := Lib.hid hown1; clear hown1; have HG1 := Lib.hid hg1; clear hg1))
      go_roundw
      case rel =>
        refine ⟨k + 1, m / 128, done ++ [m % 128 + 128], by go_num, by go_num, by omega, by simp; omega, ?_, HS.out, ?_, HG.out.trans HG1.out⟩
        · rw [HPut.out, HP2.out]; simp
        · have h := HOwn1.out
          rw [List.map_append, ← List.append_assoc]
          rw [add_byte m] at h
          exact h
      case measure => simp [intOf]; omega
end Go.Proofs.YtdnhfpphjpnklaaDoor

/- What varint.Row and Put make, walked. -/
namespace Go.Proofs.YtdnhfpphjpnklaaDoor
open Go.RowKit


set_option maxRecDepth 100000 in
set_option maxHeartbeats 800000 in
theorem row_any (A : Option Addr) (n c : Nat) (l : List Nat) (w : World) (hr : Row wordV w w.heap.size A n l) (hb : ∀ x ∈ l, x < 4294967296) (hn : n ≤ 100000) :
    Calls Tryd.prog 38 #[.slice A n c] w fun e w' => ∃ v, e = .returned v ∧ Own w' w.heap.size 5 v ((V.row l).map byteV) ∧ Below w.heap.size w w' := by
  have HR := Lib.hid hr; clear hr
  have HB := Lib.hid hb; clear hb
  go_enter Tryd.func38, Tryd.ntmps38
  go_wp2
  go_loop [3, 11] (fun v3 v11 => ∃ k : Nat, k ≤ n ∧ v11 = .int .i64 k ∧ v3 = .int .i64 (V.sizes (l.take k) : Int)) (fun _ v11 => n - (intOf v11).toNat)
  case atStart => exact ⟨0, by omega, rfl, rfl⟩
  case round =>
    obtain ⟨k, hk, rfl, rfl⟩ := hrel
    have hsz : V.sizes (l.take k) ≤ 500000 := by
      have h1 := V.sizes_le (l.take k)
      have h2 := HR.out.len
      rw [List.length_take] at h1; omega
    by_cases hlt : k < n
    · obtain ⟨ad, x, rfl, hab, hx, hc⟩ := HR.out.get hlt
      rw [wordV_def] at hc
      have hx32 : x < 4294967296 := HB.out x (List.mem_of_getElem? hx)
      have HT : Hid (V.sizes (l.take (k + 1)) = V.sizes (l.take k) + V.size x) := by show _ = _; rw [V.take_snoc l k x hx, V.sizes_snoc]
      have hs5 := V.size_le x
      clear hx
      go_wp2_with (go_at_call 43; refine (size_any x hx32 _).mono ?_; rintro e w' ⟨rfl, rfl⟩)
      go_round
      case rel => exact ⟨k + 1, by omega, by go_num, by rw [HT.out]; go_num⟩
      case measure => simp [intOf]; omega
    · have hke : k = n := by omega
      subst hke
      go_wp2_with (at_make; go_must (refine wpList_make_own _ rfl _ _ _ rfl w.heap.size 5 _ _ 1 Tryd.underlying27 (info_parts byte_info).choose_spec.1 (info_parts byte_info).choose_spec.2.1 (info_parts byte_info).choose_spec.2.2.1 _ _ _ (V.sizes (l.take k)) rfl rfl rfl (by rw [(info_parts byte_info).choose_spec.2.2.2]; omega) (by simp [maxLen]; omega) (Nat.le_refl _) ?_); intro w1 hown1 hg1)
      have hB1 : w.heap.size ≤ w1.heap.size := hg1.size
      have HOwn1 : Hid (Own w1 w.heap.size 5 (.slice (some ⟨w.heap.size, 0, none⟩) 0 (V.sizes (l.take k))) []) := hown1
      have HBel1 : Hid (Below w.heap.size w w1) := (Below.refl _ _).grown hg1 (Nat.le_refl _) (by simp)
      clear hown1 hg1
      go_loopw [6, 24] (fun v6 v24 wr => ∃ j : Nat, j ≤ k ∧ v24 = .int .i64 j ∧ Own wr w.heap.size 5 v6 ((V.row (l.take j)).map byteV) ∧ Below w.heap.size w wr) (fun _ v24 _ => k - (intOf v24).toNat)
      case atStart => exact ⟨0, by omega, rfl, HOwn1.out, HBel1.out⟩
      case round =>
        obtain ⟨j, hj, rfl, hown, hbel⟩ := hrel
        have hB2 : w.heap.size ≤ wr.heap.size := hbel.size
        have hrow : (V.row (l.take j)).length ≤ 500000 := by
          rw [V.row_len _ fun x hx => HB.out x (List.mem_of_mem_take hx)]
          have h1 := V.sizes_le (l.take j)
          have h2 := HR.out.len
          rw [List.length_take] at h1; omega
        have HOwn := Lib.hid hown; clear hown
        have HBel := Lib.hid hbel; clear hbel
        by_cases hlt : j < k
        · obtain ⟨ad, x, rfl, hab, hx, hc⟩ := (HR.out.below HBel.out).get hlt
          rw [wordV_def] at hc
          have hx32 : x < 4294967296 := HB.out x (List.mem_of_getElem? hx)
          have HT : Hid (V.row (l.take (j + 1)) = V.row (l.take j) ++ V.put x) := by show _ = _; rw [V.take_snoc l j x hx, V.row_snoc]
          clear hx
          go_wp2_with (go_at_call 44; go_must (refine (add_any w.heap.size _ _ x hx32 _ HOwn.out (by simp; omega) hB2).mono ?_); rintro e w2 ⟨v2, rfl, hown2, hg2⟩; have HOwn2 := Lib.hid hown2; clear hown2; have HG2 := Lib.hid hg2; clear hg2)
          go_roundw
          case rel => exact ⟨j + 1, by omega, by go_num, by rw [HT.out, List.map_append]; exact HOwn2.out, HG2.out.below HBel.out HOwn.out hB2⟩
          case measure => simp [intOf]; omega
        · have hje : j = k := by omega
          have HE : Hid (l.take j = l) := by show _ = _; rw [List.take_of_length_le (by rw [HR.out.len]; omega)]
          clear hje
          go_wp2
          go_ret
          exact ⟨_, rfl, by rw [← HE.out]; exact HOwn.out, HBel.out⟩

/-- A block that a call lays for its own few elements reads as these. -/
theorem Row.lit {α : Type} (f : α → Value) (w : World) (l : List α) (cs : Array Value) (hcs : cs.toList = l.map f) (e : TypeId) : Row f (w.alloc (.cells cs e)) (w.alloc (.cells cs e)).heap.size (some ⟨w.heap.size, 0, none⟩) l.length l :=
  ⟨rfl, fun _ => ⟨_, rfl, by simp, fun k hk => by
    have hadd : (⟨w.heap.size, 0, none⟩ : Addr).add k = ⟨w.heap.size, k, none⟩ := by unfold Addr.add; split <;> simp_all
    rw [hadd, cell_of_row _ w.heap.size k cs e (0, 0) (heap_alloc_new w _), ← Array.getElem?_toList, hcs, List.getElem?_map]⟩⟩

set_option maxRecDepth 100000 in
set_option maxHeartbeats 800000 in
theorem put_any (n : Nat) (hn : n < 4294967296) (w : World) :
    Calls Tryd.prog 28 #[.int .u32 (n : Int)] w fun e w' => ∃ v, e = .returned v ∧ Own w' w.heap.size 5 v ((V.put n).map byteV) ∧ Below w.heap.size w w' := by
  have HL := Lib.hid (Row.lit wordV w [n] #[.int .u32 (n : Int)] rfl 66)
  have HN : Hid (∀ x ∈ [n], x < 4294967296) := by show ∀ x ∈ [n], x < 4294967296; simpa using hn
  go_enter Tryd.func28, Tryd.ntmps28
  go_wp2_with (go_at_call 38; go_must (refine (row_any _ _ _ [n] _ HL.out HN.out (by simp)).mono ?_); rintro e w2 ⟨v2, rfl, hown2, hb2⟩; have HOwn2 := Lib.hid hown2; clear hown2; have HB2 := Lib.hid hb2; clear hb2)
  go_ret
  have h := HOwn2.out
  simp only [V.row, List.flatMap_cons, List.flatMap_nil, List.append_nil] at h
  refine ⟨v2, rfl, h.less (by simp), ((Below.refl _ _).alloc (Nat.le_refl _) _).trans (HB2.out.mono (by simp))⟩
end Go.Proofs.YtdnhfpphjpnklaaDoor

/- What the document's own Put makes, walked. -/
namespace Go.Proofs.YtdnhfpphjpnklaaDoor
open Go.RowKit

theorem put_le (n : Nat) (hn : n < 4294967296) : (V.put n).length ≤ 5 := by rw [V.len_put n hn]; exact V.size_le n

set_option maxRecDepth 100000 in
set_option maxHeartbeats 800000 in
theorem ref_put_last (n : Nat) (w : World) (h1 : n < 128) :
    Calls Tryd.prog 20 #[.int .i64 (n : Int)] w fun e w' => ∃ v, e = .returned v ∧ Own w' w.heap.size 5 v ((V.put n).map byteV) ∧ Below w.heap.size w w' := by
  go_enter Tryd.func20, Tryd.ntmps20
  go_wp2
  go_ret
  exact ⟨_, rfl, by rw [V.put_last n h1]; exact Own.new w w.heap.size 5 [byteV n] (Nat.le_refl _) (by simp [maxLen]), (Below.refl _ _).alloc (Nat.le_refl _) _⟩

set_option maxRecDepth 100000 in
set_option maxHeartbeats 800000 in
theorem ref_put_any : ∀ (f n : Nat) (w : World), n < 128 ^ f → n < 4294967296 →
    Calls Tryd.prog 20 #[.int .i64 (n : Int)] w fun e w' => ∃ v, e = .returned v ∧ Own w' w.heap.size 5 v ((V.put n).map byteV) ∧ Below w.heap.size w w'
  | 0, n, w, h, hn => ref_put_last n w (by simp at h; omega)
  | f + 1, n, w, h, hn => by
    by_cases h1 : n < 128
    · exact ref_put_last n w h1
    · have hc := Lib.hid (ref_put_any f (n / 128) (w.alloc (.cells #[.int .u8 (128 + (n : Int) % 128)] 5)) (by rw [Nat.pow_succ] at h; omega) (by omega))
      have HL := Lib.hid (put_le (n / 128) (by omega))
      have HN := Lib.hid (Own.new w w.heap.size 5 [.int .u8 (128 + (n : Int) % 128)] (Nat.le_refl _) (by simp [maxLen]))
      have HP := Lib.hid (V.put_on n h1)
      go_enter Tryd.func20, Tryd.ntmps20
      go_wp2_with fail
      refine hc.out.mono ?_
      rintro e w1 ⟨v1, rfl, hown1, hb1⟩
      have hB1 : w.heap.size ≤ w1.heap.size := by have := hb1.size; simp at this; omega
      have HN1 := Lib.hid (HN.out.below hb1 (Nat.le_refl _))
      have HB1 : Hid (Below w.heap.size w w1) := ((Below.refl _ _).alloc (Nat.le_refl _) _).trans (hb1.mono (by simp))
      obtain ⟨A, cap, rfl, hcap, _, hr⟩ := hown1.bytes
      have HR := Lib.hid hr.vals
      clear hown1 hr hb1
      go_wp2_with (at_builtin; go_must (refine wpList_append_row rfl (.tmp 12) (.tmp 15) 27 rfl w.heap.size 5 _ _ Tryd.underlying27 byte_info rfl w1 _ _ rfl HN1.out A _ cap _ _ rfl HR.out (ones _ one_byteV _) (by have := HL.out; simp [maxLen]; omega) (by have := HL.out; simp; omega) hB1 ?_); intro v2 w2 hown2 hg2; have HO2 := Lib.hid hown2; clear hown2; have HG2 := Lib.hid hg2; clear hg2)
      go_ret
      exact ⟨v2, rfl, by rw [HP.out, List.map_cons]; have h := HO2.out; rw [add_byte n] at h; exact h, HG2.out.below HB1.out HN1.out hB1⟩
theorem ref_put (n : Nat) (hn : n < 4294967296) (w : World) :
    Calls Tryd.prog 20 #[.int .i64 (n : Int)] w fun e w' => ∃ v, e = .returned v ∧ Own w' w.heap.size 5 v ((V.put n).map byteV) ∧ Below w.heap.size w w' :=
  ref_put_any 5 n w (V.five n hn) hn
end Go.Proofs.YtdnhfpphjpnklaaDoor
