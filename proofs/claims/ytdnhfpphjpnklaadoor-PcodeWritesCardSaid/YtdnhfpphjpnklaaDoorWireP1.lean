/- The program's writer, walked: what is cloned, Raw, Num, Block. -/
import Derived.Test.YtdnhfpphjpnklaaDoorPk2
import Derived.Test.YtdnhfpphjpnklaaDoorPk1
import Derived.Test.YtdnhfpphjpnklaaDoorPk3
import Derived.Test.YtdnhfpphjpnklaaDoorPk4
import Derived.Lib.SliceRun
namespace Go.Proofs.YtdnhfpphjpnklaaDoor
open Go.RowKit

set_option maxRecDepth 100000 in
set_option maxHeartbeats 800000 in
theorem clone_any (B : Nat) (A : Option Addr) (n c : Nat) (bs : List Nat) (w : World) (hr : Row byteV w B A n bs) (hn : n ≤ 1000000) (hB : B ≤ w.heap.size) :
    Calls Tryd.prog 30 #[.slice A n c] w fun e w' => ∃ v, e = .returned v ∧ Own w' w.heap.size 5 v (bs.map byteV) ∧ Below w.heap.size w w' := by
  cases A with
  | none =>
    have hn0 : n = 0 := by
      rcases Nat.eq_zero_or_pos n with h0 | h0
      · exact h0
      · obtain ⟨_, h, _⟩ := hr.cells h0; cases h
    have hbs : bs = [] := List.eq_nil_of_length_eq_zero (by rw [hr.len]; exact hn0)
    subst hbs
    clear hr
    have hnil : (binOp .eql 27 (.slice none n c) (.slice none 0 0)).run Tryd.prog w = .ok (.bool true) w := Lib.run_eql_slice_nil w _ _ none n c 0 0 Tryd.underlying27
    subst hn0
    go_enter Tryd.func30, Tryd.ntmps30
    go_wp2
    go_ret
    exact ⟨_, rfl, Own.nil _ _ _, Below.refl _ _⟩
  | some ad =>
    have HB0 : Kept (Below w.heap.size w (w.alloc (.cells #[] 5))) := kp ((Below.refl _ _).alloc (Nat.le_refl _) _)
    have HR := kp ((hr.below (HB0.out.mono hB)).vals)
    have HO0 : Kept (Own (w.alloc (.cells #[] 5)) w.heap.size 5 (.slice (some ⟨w.heap.size, 0, none⟩) 0 0) []) := kp (Own.new w w.heap.size 5 [] (Nat.le_refl _) (by simp))
    clear hr
    have hnil : (binOp .eql 27 (.slice (some ad) n c) (.slice none 0 0)).run Tryd.prog w = .ok (.bool false) w := Lib.run_eql_slice_nil w _ _ (some ad) n c 0 0 Tryd.underlying27
    go_enter Tryd.func30, Tryd.ntmps30
    go_wp2_with (at_builtin; go_must (refine wpList_append_row rfl (.tmp 5) (.tmp 6) 27 rfl w.heap.size 5 _ _ Tryd.underlying27 byte_info rfl _ _ [] rfl HO0.out (some ad) n c B _ rfl HR.out (ones _ one_byteV _) (by simp [maxLen]; omega) (by simp; omega) (by simp) ?_); intro v1 w1 hown1 hg1; have HO1 := kp hown1; clear hown1; have HG1 := kp hg1; clear hg1)
    go_ret
    refine ⟨_, rfl, by simpa using HO1.out, HG1.out.below HB0.out HO0.out (by simp)⟩

/-- A writer in its block, that holds these bytes; no block of S is its. -/
def Wr (w : World) (S : Nat → Prop) (g : Nat) (bs : List Nat) : Prop :=
  ∃ v, Blk w g 44 [v] ∧ Own w 0 5 v (bs.map byteV) ∧ v.ownBlock ≠ some g ∧ ¬ S g ∧ (∀ k, v.ownBlock = some k → ¬ S k) ∧ ∀ k, S k → k < w.heap.size
/-- What a call that makes new memory leaves; its new blocks may be guarded, too. -/
theorem Wr.below {w w' : World} {S S' : Nat → Prop} {g : Nat} {bs : List Nat} (h : Wr w S g bs) (hb : Below w.heap.size w w') (hS : ∀ k, S' k → S k ∨ (w.heap.size ≤ k ∧ k < w'.heap.size)) : Wr w' S' g bs := by
  obtain ⟨v, h1, h2, h3, h4, h5, h6⟩ := h
  have hg := h1.lt
  refine ⟨v, h1.below hb hg, h2.below hb (Nat.le_refl _), h3, fun hs => ?_, fun k hk hs => ?_, fun k hk => ?_⟩
  · rcases hS g hs with h | h
    · exact h4 h
    · omega
  · have := (h2.block k hk).2
    rcases hS k hs with h | h
    · exact h5 k hk h
    · omega
  · have := hb.size
    rcases hS k hk with h | h
    · have := h6 k h; omega
    · exact h.2
theorem Wr.less {w : World} {S S' : Nat → Prop} {g : Nat} {bs : List Nat} (h : Wr w S g bs) (hS : ∀ k, S' k → S k) : Wr w S' g bs := by
  obtain ⟨v, h1, h2, h3, h4, h5, h6⟩ := h
  exact ⟨v, h1, h2, h3, fun h => h4 (hS _ h), fun k hk h => h5 k hk (hS _ h), fun k h => h6 k (hS _ h)⟩
theorem Wr.drewN {w : World} {S : Nat → Prop} {g : Nat} {bs : List Nat} (h : Wr w S g bs) (n : Nat) : Wr (w.drewN n) S g bs := h.below (below_drewN (Below.refl _ _) n) fun _ h => .inl h

set_option maxRecDepth 100000 in
set_option maxHeartbeats 800000 in
theorem wr_raw (S : Nat → Prop) (g C : Nat) (bs new : List Nat) (A : Option Addr) (n c : Nat) (w : World) (hk : Wr w S g bs) (hr : Row byteV w C A n new) (hn : bs.length + n ≤ 1000000) :
    Calls Tryd.prog 12 #[.pointer (some ⟨g, 0, none⟩), .slice A n c] w fun e w' => e = .returned (.tuple #[]) ∧ Wr w' S g (bs ++ new) ∧ Held S w w' := by
  obtain ⟨v, hblk, hown, hne, hS1, hS2, hS3⟩ := hk
  have HK := kp hblk; have HO := kp hown; have HR := kp hr.vals; have HNe := kp hne
  have HS1 := kp hS1; have HS2 := kp hS2; have HS3 := kp hS3
  have hc : w.cell? ⟨g, 0, none⟩ = some v := hblk.cell 0
  have hgs := hblk.lt
  clear hblk hown hr hne hS1 hS2 hS3
  go_enter Tryd.func12, Tryd.ntmps12
  go_wp2_with (first
    | (at_builtin; go_must (refine wpList_append_row rfl (.tmp 8) (.tmp 9) 27 rfl 0 5 _ _ Tryd.underlying27 byte_info rfl w v _ rfl HO.out A n c C _ rfl HR.out (ones _ one_byteV _) (by simp [maxLen]; omega) (by simp; omega) (Nat.zero_le _) ?_); intro v1 w1 hown1 hg1
       have HK1 := kp (HK.out.grown hg1.1 (fun e => HNe.out e.symm))
       have hf1 := HK1.out.frozen 0
       have hc1 : w1.cell? ⟨g, 0, none⟩ = some v := HK1.out.cell 0
       have HO1 := kp hown1; have HG1 := kp hg1
       obtain ⟨A1, c1, e1, _⟩ := hown1.form
       generalize (List.map byteV bs ++ List.map byteV new).length = n1 at e1
       subst e1
       clear hown1 hg1 hc))
  go_end0
  have hsz := HG1.out.size
  have hne1 : (Value.slice A1 n1 c1).ownBlock ≠ some g := by
    rcases HG1.out.2 with h | h
    · rw [h]; exact HNe.out
    · intro e
      have := h g e
      omega
  refine ⟨rfl, ⟨_, HK1.out.set 0 _, ?_, hne1, HS1.out, fun k hk hs => ?_, fun k hk => ?_⟩, ?_⟩
  · rw [List.map_append]
    exact HO1.out.far (grown_set (g := g) (grown_refl _ _)) (.inr hne1)
  · rcases HG1.out.2 with h | h
    · exact HS2.out k (by rw [← h]; exact hk) hs
    · have := h k hk
      have := HS3.out k hs
      omega
  · have := HS3.out k hk
    simp; omega
  · refine (Held.of_grown (row := v.ownBlock) HG1.out.1 fun k hk => ⟨HS3.out k hk, fun e => HS2.out k e.symm hk⟩).trans (Held.of_grown (row := some g) (grown_set (grown_refl _ _)) fun k hk => ⟨?_, fun e => ?_⟩)
    · have := HS3.out k hk; omega
    · cases e; exact HS1.out hk

/-- What is left of a number by 2^32. -/
def low32 (n : Int) : Nat := (n % 4294967296).toNat
theorem low32_lt (n : Int) : low32 n < 4294967296 := by unfold low32; omega
theorem low32_nat (n : Nat) (h : n < 4294967296) : low32 (n : Int) = n := by unfold low32; omega

set_option maxRecDepth 100000 in
set_option maxHeartbeats 800000 in
theorem wr_num (S : Nat → Prop) (g : Nat) (bs : List Nat) (n : Int) (w : World) (hk : Wr w S g bs) (hn : bs.length ≤ 900000) :
    Calls Tryd.prog 14 #[.pointer (some ⟨g, 0, none⟩), .int .i64 n] w fun e w' => e = .returned (.tuple #[]) ∧ Wr w' S g (bs ++ V.put (low32 n)) ∧ Held S w w' := by
  have HK := kp hk
  have hlt := low32_lt n
  have hw : IntKind.u32.wrap n = ((low32 n : Nat) : Int) := by
    show n % 4294967296 = _
    unfold low32; omega
  have HP := kp (put_le (low32 n) hlt)
  generalize low32 n = m at *
  clear hk
  go_enter Tryd.func14, Tryd.ntmps14
  go_wp2_with (first
    | (go_at_call 28; go_must (refine (put_any m hlt w).mono ?_); rintro e w1 ⟨v, rfl, hown, hb1⟩
       obtain ⟨A1, c1, rfl, hc1, hm1, hr1⟩ := hown.bytes
       have HR1 := kp hr1
       have HK1 := kp (HK.out.below hb1 fun _ h => .inl h)
       have HB1 : Kept (Held S w w1) := kp (Held.of_below hb1 fun k h => by obtain ⟨_, _, _, _, _, _, h6⟩ := HK.out; exact h6 k h)
       clear hown hr1 hm1 hb1)
    | (go_at_call 12; go_must (refine (wr_raw S g _ bs _ A1 _ c1 w1 HK1.out HR1.out (by have := HP.out; omega)).mono ?_); rintro e w2 ⟨rfl, hk2, hb2⟩; have HK2 := kp hk2; have HB2 := kp (HB1.out.trans hb2); clear hk2 hb2))
  go_end0
  exact ⟨rfl, HK2.out, HB2.out⟩
end Go.Proofs.YtdnhfpphjpnklaaDoor
