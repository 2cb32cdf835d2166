/- Walk1, Walk2, Walk3, Walk4, Walk5, WireP1, in one text. -/
import Derived.Test.YtiojobajcnifpaaDoorRows
import Derived.Test.YtiojobajcnifpaaDoorPk3
import Derived.Test.YtiojobajcnifpaaDoorPk1
import Derived.Test.YtiojobajcnifpaaDoorPk4
import Derived.Test.YtiojobajcnifpaaDoorPk2
import Derived.Test.YtiojobajcnifpaaDoorPk5
import Derived.Lib.SliceRun
/- What the functions of varint do, walked. -/
namespace Go.Proofs.YtiojobajcnifpaaDoor
open Go.RowKit

set_option maxHeartbeats 400000 in
theorem size_any (n : Nat) (hn : n < 4294967296) (w : World) :
    Calls Tryd.prog 69 #[.int .u32 (n : Int)] w fun e w' => e = .returned (.int .i64 (V.size n : Int)) ∧ w = w' := by
  go_enter Tryd.func69, Tryd.ntmps69
  go_wp2
  go_loop [0, 4] (fun v0 v4 => ∃ k : Nat, k ≤ 5 ∧ v4 = .int .i64 k ∧ v0 = .int .u32 (V.left n k : Int) ∧ (k = 0 ∨ V.left n k ≠ 0)) (fun _ v4 => 5 - (intOf v4).toNat)
  case atStart => exact ⟨0, by omega, rfl, by rw [V.left_zero], .inl rfl⟩
  case round =>
    obtain ⟨k, hk, rfl, rfl, hz⟩ := hrel
    have hl := V.left_lt n k hn
    by_cases hlt : k < 5
    · have hs := V.left_succ n k
      have hat := V.size_at n k hlt hn hz
      generalize V.left n k = m at *
      have HS := Lib.hid hs; clear hs
      have HA := Lib.hid hat; clear hat
      have HZ := Lib.hid hz; clear hz
      by_cases h0 : m / 128 = 0
      · have hb : ((m : Int) / 128 == 0) = true := by simp; omega
        have HH := Lib.hid h0; clear h0
        go_wp2
        go_ret
        exact ⟨ret_int (by rw [HA.out HH.out]; omega), rfl⟩
      · have hb : ((m : Int) / 128 == 0) = false := by simp; omega
        have HH := Lib.hid h0; clear h0
        go_wp2
        go_round
        case rel => exact ⟨k + 1, by omega, by go_num, by rw [HS.out]; go_num, .inr (by rw [HS.out]; exact HH.out)⟩
        case measure => simp [intOf]; omega
    · have : k = 5 := by omega
      subst this
      rw [V.left_five n hn] at hz
      simp at hz
end Go.Proofs.YtiojobajcnifpaaDoor

/- What the document's own functions for varint do, walked. -/
namespace Go.Proofs.YtiojobajcnifpaaDoor
open Go.RowKit

theorem add_byte (m : Nat) : (128 : Int) + (m : Int) % 128 = ((m % 128 + 128 : Nat) : Int) := by omega
theorem pow_step (k : Nat) : ((128 ^ k : Nat) : Int) * 128 = ((128 ^ (k + 1) : Nat) : Int) := by rw [Nat.pow_succ, Int.natCast_mul]; rfl
theorem acc_eq (acc x p y : Nat) (h : x % 128 = y) : (acc : Int) + (p : Int) * ((x : Int) % 128) = ((acc + y * p : Nat) : Int) := by
  rw [← h, Int.natCast_add, Int.natCast_mul, Int.natCast_emod, Int.mul_comm]; rfl
theorem part_bound (p x : Nat) (hp : p ≤ 268435456) : 0 ≤ (p : Int) * ((x : Int) % 128) ∧ (p : Int) * ((x : Int) % 128) ≤ 34091302912 := by
  have h := Nat.mul_le_mul hp (by omega : x % 128 ≤ 127)
  have e : (p : Int) * ((x : Int) % 128) = ((p * (x % 128) : Nat) : Int) := by rw [Int.natCast_mul, Int.natCast_emod]; rfl
  rw [e]; omega
end Go.Proofs.YtiojobajcnifpaaDoor

/- What varint.add, Row and Put make, walked. -/
namespace Go.Proofs.YtiojobajcnifpaaDoor
open Go.RowKit



set_option maxRecDepth 100000 in
set_option maxHeartbeats 800000 in
theorem add_any (B : Nat) (v : Value) (xs : List Value) (n : Nat) (hn : n < 4294967296) (w : World) (hown : Own w B 5 v xs) (hlen : xs.length ≤ 1000000) (hB : B ≤ w.heap.size) :
    Calls Tryd.prog 70 #[v, .int .u32 (n : Int)] w fun e w' => ∃ v', e = .returned v' ∧ Own w' B 5 v' (xs ++ (V.put n).map byteV) ∧ Grew w w' v v' := by
  have HOwn := Lib.hid hown; clear hown
  have hs0 := V.size_pos n
  have hs1 := V.size_le n
  go_enter Tryd.func70, Tryd.ntmps70
  go_wp2_with (go_at_call 69; refine (size_any n hn _).mono ?_; rintro e w' ⟨rfl, rfl⟩)
  go_loopw [0, 1, 8] (fun v0 v1 v8 wr => ∃ (k m : Nat) (done : List Nat), v8 = .int .i64 k ∧ v1 = .int .u32 m ∧ m < 4294967296 ∧ done.length = k ∧ V.put n = done ++ V.put m ∧ V.size n = k + V.size m ∧
      Own wr B 5 v0 (xs ++ done.map byteV) ∧ Grew w wr v v0) (fun _ _ v8 _ => V.size n - (intOf v8).toNat)
  case atStart => exact ⟨0, n, [], rfl, rfl, hn, rfl, by simp, by omega, by simpa using HOwn.out, Grew.refl _ _⟩
  case round =>
    obtain ⟨k, m, done, rfl, rfl, hm, hk, hput, hsz, hown, hg⟩ := hrel
    have hll : xs.length + done.length ≤ 1000005 := by have := V.size_le n; have := V.size_pos m; omega
    have hB' : B ≤ wr.heap.size := Nat.le_trans hB hg.size
    have HOwn := Lib.hid hown; clear hown
    have HG := Lib.hid hg; clear hg
    have HPut := Lib.hid hput; clear hput
    by_cases h2 : m < 128
    · have hs2 := V.size_last m h2
      have hlt : ¬ (k : Int) < (V.size n : Int) - 1 := by omega
      clear hs2 hsz
      go_wp2_with ((at_builtin; go_must (refine wpList_append_one rfl (.tmp 20) (.tmp 23) 44 rfl B 5 _ _ Tryd.underlying44 byte_info rfl wr _ (xs ++ done.map byteV) _ rfl HOwn.out _ 1 rfl rfl rfl (by simp [maxLen]; omega) (by simp; omega) hB' ?_); intro v1 w1 hown1 hg1; have HOwn1 := Lib.hid hown1; clear hown1; have HG1 := Lib.hid hg1; clear hg1))
      go_ret
      refine ⟨v1, rfl, ?_, HG.out.trans HG1.out⟩
      have h := HOwn1.out
      rw [HPut.out, V.put_last m h2, List.map_append, ← List.append_assoc]
      exact h
    · have hs2 := V.size_on m h2 hm
      have hs3 := V.size_pos (m / 128)
      have hlt : (k : Int) < (V.size n : Int) - 1 := by omega
      have HS : Hid (V.size n = k + 1 + V.size (m / 128)) := by show _ = _; omega
      have HP2 := Lib.hid (V.put_on m h2)
      clear hs2 hs3 hsz
      go_wp2_with ((at_builtin; go_must (refine wpList_append_one rfl (.tmp 10) (.tmp 15) 44 rfl B 5 _ _ Tryd.underlying44 byte_info rfl wr _ (xs ++ done.map byteV) _ rfl HOwn.out _ 1 rfl rfl rfl (by simp [maxLen]; omega) (by simp; omega) hB' ?_); intro v1 w1 hown1 hg1; have HOwn1 := Lib.hid hown1; clear hown1; have HG1 := Lib.hid hg1; clear hg1))
      go_roundw
      case rel =>
        refine ⟨k + 1, m / 128, done ++ [m % 128 + 128], by go_num, by go_num, by omega, by simp; omega, ?_, HS.out, ?_, HG.out.trans HG1.out⟩
        · rw [HPut.out, HP2.out]; simp
        · have h := HOwn1.out
          rw [List.map_append, ← List.append_assoc]
          rw [add_byte m] at h
          exact h
      case measure => simp [intOf]; omega
end Go.Proofs.YtiojobajcnifpaaDoor

/- What varint.Row and Put make, walked. -/
namespace Go.Proofs.YtiojobajcnifpaaDoor
open Go.RowKit


set_option maxRecDepth 100000 in
set_option maxHeartbeats 800000 in
theorem row_any (A : Option Addr) (n c : Nat) (l : List Nat) (w : World) (hr : Row wordV w w.heap.size A n l) (hb : ∀ x ∈ l, x < 4294967296) (hn : n ≤ 100000) :
    Calls Tryd.prog 60 #[.slice A n c] w fun e w' => ∃ v, e = .returned v ∧ Own w' w.heap.size 5 v ((V.row l).map byteV) ∧ Below w.heap.size w w' := by
  have HR := Lib.hid hr; clear hr
  have HB := Lib.hid hb; clear hb
  go_enter Tryd.func60, Tryd.ntmps60
  go_wp2
  go_loop [3, 11] (fun v3 v11 => ∃ k : Nat, k ≤ n ∧ v11 = .int .i64 k ∧ v3 = .int .i64 (V.sizes (l.take k) : Int)) (fun _ v11 => n - (intOf v11).toNat)
  case atStart => exact ⟨0, by omega, rfl, rfl⟩
  case round =>
    obtain ⟨k, hk, rfl, rfl⟩ := hrel
    have hsz : V.sizes (l.take k) ≤ 500000 := by
      have h1 := V.sizes_le (l.take k)
      have h2 := HR.out.len
      rw [List.length_take] at h1; omega
    by_cases hlt : k < n
    · obtain ⟨ad, x, rfl, hab, hx, hc⟩ := HR.out.get hlt
      rw [wordV_def] at hc
      have hx32 : x < 4294967296 := HB.out x (List.mem_of_getElem? hx)
      have HT : Hid (V.sizes (l.take (k + 1)) = V.sizes (l.take k) + V.size x) := by show _ = _; rw [V.take_snoc l k x hx, V.sizes_snoc]
      have hs5 := V.size_le x
      clear hx
      go_wp2_with (go_at_call 69; refine (size_any x hx32 _).mono ?_; rintro e w' ⟨rfl, rfl⟩)
      go_round
      case rel => exact ⟨k + 1, by omega, by go_num, by rw [HT.out]; go_num⟩
      case measure => simp [intOf]; omega
    · have hke : k = n := by omega
      subst hke
      go_wp2_with (at_make; go_must (refine wpList_make_own _ rfl _ _ _ rfl w.heap.size 5 _ _ 1 Tryd.underlying44 (info_parts byte_info).choose_spec.1 (info_parts byte_info).choose_spec.2.1 (info_parts byte_info).choose_spec.2.2.1 _ _ _ (V.sizes (l.take k)) rfl rfl rfl (by rw [(info_parts byte_info).choose_spec.2.2.2]; omega) (by simp [maxLen]; omega) (Nat.le_refl _) ?_); intro w1 hown1 hg1)
      have hB1 : w.heap.size ≤ w1.heap.size := hg1.size
      have HOwn1 : Hid (Own w1 w.heap.size 5 (.slice (some ⟨w.heap.size, 0, none⟩) 0 (V.sizes (l.take k))) []) := hown1
      have HBel1 : Hid (Below w.heap.size w w1) := (Below.refl _ _).grown hg1 (Nat.le_refl _) (by simp)
      clear hown1 hg1
      go_loopw [6, 24] (fun v6 v24 wr => ∃ j : Nat, j ≤ k ∧ v24 = .int .i64 j ∧ Own wr w.heap.size 5 v6 ((V.row (l.take j)).map byteV) ∧ Below w.heap.size w wr) (fun _ v24 _ => k - (intOf v24).toNat)
      case atStart => exact ⟨0, by omega, rfl, HOwn1.out, HBel1.out⟩
      case round =>
        obtain ⟨j, hj, rfl, hown, hbel⟩ := hrel
        have hB2 : w.heap.size ≤ wr.heap.size := hbel.size
        have hrow : (V.row (l.take j)).length ≤ 500000 := by
          rw [V.row_len _ fun x hx => HB.out x (List.mem_of_mem_take hx)]
          have h1 := V.sizes_le (l.take j)
          have h2 := HR.out.len
          rw [List.length_take] at h1; omega
        have HOwn := Lib.hid hown; clear hown
        have HBel := Lib.hid hbel; clear hbel
        by_cases hlt : j < k
        · obtain ⟨ad, x, rfl, hab, hx, hc⟩ := (HR.out.below HBel.out).get hlt
          rw [wordV_def] at hc
          have hx32 : x < 4294967296 := HB.out x (List.mem_of_getElem? hx)
          have HT : Hid (V.row (l.take (j + 1)) = V.row (l.take j) ++ V.put x) := by show _ = _; rw [V.take_snoc l j x hx, V.row_snoc]
          clear hx
          go_wp2_with (go_at_call 70; go_must (refine (add_any w.heap.size _ _ x hx32 _ HOwn.out (by simp; omega) hB2).mono ?_); rintro e w2 ⟨v2, rfl, hown2, hg2⟩; have HOwn2 := Lib.hid hown2; clear hown2; have HG2 := Lib.hid hg2; clear hg2)
          go_roundw
          case rel => exact ⟨j + 1, by omega, by go_num, by rw [HT.out, List.map_append]; exact HOwn2.out, HG2.out.below HBel.out HOwn.out hB2⟩
          case measure => simp [intOf]; omega
        · have hje : j = k := by omega
          have HE : Hid (l.take j = l) := by show _ = _; rw [List.take_of_length_le (by rw [HR.out.len]; omega)]
          clear hje
          go_wp2
          go_ret
          exact ⟨_, rfl, by rw [← HE.out]; exact HOwn.out, HBel.out⟩

/-- A block that a call lays for its own few elements reads as these. -/
theorem Row.lit {α : Type} (f : α → Value) (w : World) (l : List α) (cs : Array Value) (hcs : cs.toList = l.map f) (e : TypeId) : Row f (w.alloc (.cells cs e)) (w.alloc (.cells cs e)).heap.size (some ⟨w.heap.size, 0, none⟩) l.length l :=
  ⟨rfl, fun _ => ⟨_, rfl, by simp, fun k hk => by
    have hadd : (⟨w.heap.size, 0, none⟩ : Addr).add k = ⟨w.heap.size, k, none⟩ := by unfold Addr.add; split <;> simp_all
    rw [hadd, cell_of_row _ w.heap.size k cs e (0, 0) (heap_alloc_new w _), ← Array.getElem?_toList, hcs, List.getElem?_map]⟩⟩

set_option maxRecDepth 100000 in
set_option maxHeartbeats 800000 in
theorem put_any (n : Nat) (hn : n < 4294967296) (w : World) :
    Calls Tryd.prog 48 #[.int .u32 (n : Int)] w fun e w' => ∃ v, e = .returned v ∧ Own w' w.heap.size 5 v ((V.put n).map byteV) ∧ Below w.heap.size w w' := by
  have HL := Lib.hid (Row.lit wordV w [n] #[.int .u32 (n : Int)] rfl 100)
  have HN : Hid (∀ x ∈ [n], x < 4294967296) := by show ∀ x ∈ [n], x < 4294967296; simpa using hn
  go_enter Tryd.func48, Tryd.ntmps48
  go_wp2_with (go_at_call 60; go_must (refine (row_any _ _ _ [n] _ HL.out HN.out (by simp)).mono ?_); rintro e w2 ⟨v2, rfl, hown2, hb2⟩; have HOwn2 := Lib.hid hown2; clear hown2; have HB2 := Lib.hid hb2; clear hb2)
  go_ret
  have h := HOwn2.out
  simp only [V.row, List.flatMap_cons, List.flatMap_nil, List.append_nil] at h
  refine ⟨v2, rfl, h.less (by simp), ((Below.refl _ _).alloc (Nat.le_refl _) _).trans (HB2.out.mono (by simp))⟩
end Go.Proofs.YtiojobajcnifpaaDoor

/- What the document's own Put makes, walked. -/
namespace Go.Proofs.YtiojobajcnifpaaDoor
open Go.RowKit

theorem put_le (n : Nat) (hn : n < 4294967296) : (V.put n).length ≤ 5 := by rw [V.len_put n hn]; exact V.size_le n
end Go.Proofs.YtiojobajcnifpaaDoor

/- The program's writer, walked: what is cloned, Raw, Num, Block. -/
namespace Go.Proofs.YtiojobajcnifpaaDoor
open Go.RowKit

set_option maxRecDepth 100000 in
set_option maxHeartbeats 800000 in
theorem clone_any (B : Nat) (A : Option Addr) (n c : Nat) (bs : List Nat) (w : World) (hr : Row byteV w B A n bs) (hn : n ≤ 1000000) (hB : B ≤ w.heap.size) :
    Calls Tryd.prog 50 #[.slice A n c] w fun e w' => ∃ v, e = .returned v ∧ Own w' w.heap.size 5 v (bs.map byteV) ∧ Below w.heap.size w w' := by
  cases A with
  | none =>
    have hn0 : n = 0 := by
      rcases Nat.eq_zero_or_pos n with h0 | h0
      · exact h0
      · obtain ⟨_, h, _⟩ := hr.cells h0; cases h
    have hbs : bs = [] := List.eq_nil_of_length_eq_zero (by rw [hr.len]; exact hn0)
    subst hbs
    clear hr
    have hnil : (binOp .eql 44 (.slice none n c) (.slice none 0 0)).run Tryd.prog w = .ok (.bool true) w := Lib.run_eql_slice_nil w _ _ none n c 0 0 Tryd.underlying44
    subst hn0
    go_enter Tryd.func50, Tryd.ntmps50
    go_wp2
    go_ret
    exact ⟨_, rfl, Own.nil _ _ _, Below.refl _ _⟩
  | some ad =>
    have HB0 : Kept (Below w.heap.size w (w.alloc (.cells #[] 5))) := kp ((Below.refl _ _).alloc (Nat.le_refl _) _)
    have HR := kp ((hr.below (HB0.out.mono hB)).vals)
    have HO0 : Kept (Own (w.alloc (.cells #[] 5)) w.heap.size 5 (.slice (some ⟨w.heap.size, 0, none⟩) 0 0) []) := kp (Own.new w w.heap.size 5 [] (Nat.le_refl _) (by simp))
    clear hr
    have hnil : (binOp .eql 44 (.slice (some ad) n c) (.slice none 0 0)).run Tryd.prog w = .ok (.bool false) w := Lib.run_eql_slice_nil w _ _ (some ad) n c 0 0 Tryd.underlying44
    go_enter Tryd.func50, Tryd.ntmps50
    go_wp2_with (at_builtin; go_must (refine wpList_append_row rfl (.tmp 5) (.tmp 6) 44 rfl w.heap.size 5 _ _ Tryd.underlying44 byte_info rfl _ _ [] rfl HO0.out (some ad) n c B _ rfl HR.out (ones _ one_byteV _) (by simp [maxLen]; omega) (by simp; omega) (by simp) ?_); intro v1 w1 hown1 hg1; have HO1 := kp hown1; clear hown1; have HG1 := kp hg1; clear hg1)
    go_ret
    refine ⟨_, rfl, by simpa using HO1.out, HG1.out.below HB0.out HO0.out (by simp)⟩

/-- A writer in its block, that holds these bytes; no block of S is its. -/
def Wr (w : World) (S : Nat → Prop) (g : Nat) (bs : List Nat) : Prop :=
  ∃ v, Blk w g 74 [v] ∧ Own w 0 5 v (bs.map byteV) ∧ v.ownBlock ≠ some g ∧ ¬ S g ∧ (∀ k, v.ownBlock = some k → ¬ S k) ∧ ∀ k, S k → k < w.heap.size
/-- What a call that makes new memory leaves; its new blocks may be guarded, too. -/
theorem Wr.below {w w' : World} {S S' : Nat → Prop} {g : Nat} {bs : List Nat} (h : Wr w S g bs) (hb : Below w.heap.size w w') (hS : ∀ k, S' k → S k ∨ (w.heap.size ≤ k ∧ k < w'.heap.size)) : Wr w' S' g bs := by
  obtain ⟨v, h1, h2, h3, h4, h5, h6⟩ := h
  have hg := h1.lt
  refine ⟨v, h1.below hb hg, h2.below hb (Nat.le_refl _), h3, fun hs => ?_, fun k hk hs => ?_, fun k hk => ?_⟩
  · rcases hS g hs with h | h
    · exact h4 h
    · omega
  · have := (h2.block k hk).2
    rcases hS k hs with h | h
    · exact h5 k hk h
    · omega
  · have := hb.size
    rcases hS k hk with h | h
    · have := h6 k h; omega
    · exact h.2
theorem Wr.less {w : World} {S S' : Nat → Prop} {g : Nat} {bs : List Nat} (h : Wr w S g bs) (hS : ∀ k, S' k → S k) : Wr w S' g bs := by
  obtain ⟨v, h1, h2, h3, h4, h5, h6⟩ := h
  exact ⟨v, h1, h2, h3, fun h => h4 (hS _ h), fun k hk h => h5 k hk (hS _ h), fun k h => h6 k (hS _ h)⟩
theorem Wr.drewN {w : World} {S : Nat → Prop} {g : Nat} {bs : List Nat} (h : Wr w S g bs) (n : Nat) : Wr (w.drewN n) S g bs := h.below (below_drewN (Below.refl _ _) n) fun _ h => .inl h

set_option maxRecDepth 100000 in
set_option maxHeartbeats 800000 in
theorem wr_raw (S : Nat → Prop) (g C : Nat) (bs new : List Nat) (A : Option Addr) (n c : Nat) (w : World) (hk : Wr w S g bs) (hr : Row byteV w C A n new) (hn : bs.length + n ≤ 1000000) :
    Calls Tryd.prog 32 #[.pointer (some ⟨g, 0, none⟩), .slice A n c] w fun e w' => e = .returned (.tuple #[]) ∧ Wr w' S g (bs ++ new) ∧ Held S w w' := by
  obtain ⟨v, hblk, hown, hne, hS1, hS2, hS3⟩ := hk
  have HK := kp hblk; have HO := kp hown; have HR := kp hr.vals; have HNe := kp hne
  have HS1 := kp hS1; have HS2 := kp hS2; have HS3 := kp hS3
  have hc : w.cell? ⟨g, 0, none⟩ = some v := hblk.cell 0
  have hgs := hblk.lt
  clear hblk hown hr hne hS1 hS2 hS3
  go_enter Tryd.func32, Tryd.ntmps32
  go_wp2_with (first
    | (at_builtin; go_must (refine wpList_append_row rfl (.tmp 8) (.tmp 9) 44 rfl 0 5 _ _ Tryd.underlying44 byte_info rfl w v _ rfl HO.out A n c C _ rfl HR.out (ones _ one_byteV _) (by simp [maxLen]; omega) (by simp; omega) (Nat.zero_le _) ?_); intro v1 w1 hown1 hg1
       have HK1 := kp (HK.out.grown hg1.1 (fun e => HNe.out e.symm))
       have hf1 := HK1.out.frozen 0
       have hc1 : w1.cell? ⟨g, 0, none⟩ = some v := HK1.out.cell 0
       have HO1 := kp hown1; have HG1 := kp hg1
       obtain ⟨A1, c1, e1, _⟩ := hown1.form
       generalize (List.map byteV bs ++ List.map byteV new).length = n1 at e1
       subst e1
       clear hown1 hg1 hc))
  go_end0
  have hsz := HG1.out.size
  have hne1 : (Value.slice A1 n1 c1).ownBlock ≠ some g := by
    rcases HG1.out.2 with h | h
    · rw [h]; exact HNe.out
    · intro e
      have := h g e
      omega
  refine ⟨rfl, ⟨_, HK1.out.set 0 _, ?_, hne1, HS1.out, fun k hk hs => ?_, fun k hk => ?_⟩, ?_⟩
  · rw [List.map_append]
    exact HO1.out.far (grown_set (g := g) (grown_refl _ _)) (.inr hne1)
  · rcases HG1.out.2 with h | h
    · exact HS2.out k (by rw [← h]; exact hk) hs
    · have := h k hk
      have := HS3.out k hs
      omega
  · have := HS3.out k hk
    simp; omega
  · refine (Held.of_grown (row := v.ownBlock) HG1.out.1 fun k hk => ⟨HS3.out k hk, fun e => HS2.out k e.symm hk⟩).trans (Held.of_grown (row := some g) (grown_set (grown_refl _ _)) fun k hk => ⟨?_, fun e => ?_⟩)
    · have := HS3.out k hk; omega
    · cases e; exact HS1.out hk

/-- What is left of a number by 2^32. -/
def low32 (n : Int) : Nat := (n % 4294967296).toNat
theorem low32_lt (n : Int) : low32 n < 4294967296 := by unfold low32; omega
theorem low32_nat (n : Nat) (h : n < 4294967296) : low32 (n : Int) = n := by unfold low32; omega

set_option maxRecDepth 100000 in
set_option maxHeartbeats 800000 in
theorem wr_num (S : Nat → Prop) (g : Nat) (bs : List Nat) (n : Int) (w : World) (hk : Wr w S g bs) (hn : bs.length ≤ 900000) :
    Calls Tryd.prog 34 #[.pointer (some ⟨g, 0, none⟩), .int .i64 n] w fun e w' => e = .returned (.tuple #[]) ∧ Wr w' S g (bs ++ V.put (low32 n)) ∧ Held S w w' := by
  have HK := kp hk
  have hlt := low32_lt n
  have hw : IntKind.u32.wrap n = ((low32 n : Nat) : Int) := by
    show n % 4294967296 = _
    unfold low32; omega
  have HP := kp (put_le (low32 n) hlt)
  generalize low32 n = m at *
  clear hk
  go_enter Tryd.func34, Tryd.ntmps34
  go_wp2_with (first
    | (go_at_call 48; go_must (refine (put_any m hlt w).mono ?_); rintro e w1 ⟨v, rfl, hown, hb1⟩
       obtain ⟨A1, c1, rfl, hc1, hm1, hr1⟩ := hown.bytes
       have HR1 := kp hr1
       have HK1 := kp (HK.out.below hb1 fun _ h => .inl h)
       have HB1 : Kept (Held S w w1) := kp (Held.of_below hb1 fun k h => by obtain ⟨_, _, _, _, _, _, h6⟩ := HK.out; exact h6 k h)
       clear hown hr1 hm1 hb1)
    | (go_at_call 32; go_must (refine (wr_raw S g _ bs _ A1 _ c1 w1 HK1.out HR1.out (by have := HP.out; omega)).mono ?_); rintro e w2 ⟨rfl, hk2, hb2⟩; have HK2 := kp hk2; have HB2 := kp (HB1.out.trans hb2); clear hk2 hb2))
  go_end0
  exact ⟨rfl, HK2.out, HB2.out⟩
end Go.Proofs.YtiojobajcnifpaaDoor
