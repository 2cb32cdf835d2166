/- What the program's digest of parts is, walked. -/
import Derived.Test.YtoagmmelklkoaaaDoorShaP7
namespace Go.Proofs.YtoagmmelklkoaaaDoor
open Go.RowKit

/-- A slice of bytes, and what it reads as. -/
structure Part where
  A : Option Addr
  n : Nat
  c : Nat
  bs : List Nat
def partV (p : Part) : Value := .slice p.A p.n p.c
theorem partV_def (p : Part) : partV p = .slice p.A p.n p.c := rfl
structure Part.Ok (p : Part) (w : World) (B : Nat) : Prop where
  row : Row byteV w B p.A p.n p.bs
  byte : ∀ x ∈ p.bs, x < 256
  cap : p.n ≤ p.c
theorem Part.Ok.keep {p : Part} {w w' : World} {B : Nat} (h : p.Ok w B) (hk : ∀ q : Addr, q.block < B → w'.cell? q = w.cell? q) : p.Ok w' B := ⟨h.row.keep hk, h.byte, h.cap⟩
theorem Part.Ok.more {p : Part} {w : World} {B C : Nat} (h : p.Ok w B) (hB : B ≤ C) : p.Ok w C := ⟨h.row.more hB, h.byte, h.cap⟩
/-- All bytes, one part behind the other. -/
def joined (ps : List Part) : List Nat := ps.flatMap (·.bs)
theorem joined_snoc (ps : List Part) (p : Part) : joined (ps ++ [p]) = joined ps ++ p.bs := by simp [joined]
theorem joined_take_le (ps : List Part) (k : Nat) : (joined (ps.take k)).length ≤ (joined ps).length := by
  have h : joined ps = joined (ps.take k) ++ joined (ps.drop k) := by
    unfold joined; rw [← List.flatMap_append, List.take_append_drop]
  rw [h, List.length_append]; omega

theorem keys_size {w : World} (hk : Row wordV w 1 (some ⟨0, 0, none⟩) 64 H.K) : 1 ≤ w.heap.size := by
  obtain ⟨ad, x, e, _, _, hc⟩ := hk.get (k := 0) (by omega)
  cases e
  have := block_lt_of_cell hc
  omega
set_option maxRecDepth 1000000 in
set_option maxHeartbeats 1600000 in
theorem of_any (A : Option Addr) (n c B : Nat) (ps : List Part) (w : World) (hr : Row partV w B A n ps) (hB : B ≤ w.heap.size) (hok : ∀ p ∈ ps, p.Ok w B) (hk : Row wordV w 1 (some ⟨0, 0, none⟩) 64 H.K) (hn : n ≤ 1000000000000)
    (hm : (joined ps).length ≤ 900000000) (dig : List Nat) (hdig : H.digest (joined ps) = dig) :
    Calls Tryd.prog 8 #[.slice A n c] w fun e w' => e = .returned (.agg (dig.map byteV).toArray) ∧ Below w.heap.size w w' := by
  have HR := kp hr; have HOk := kp hok; have HK := kp hk; have HDig := kp hdig; have HM := kp hm
  have hw1 := keys_size hk
  clear hr hok hk hdig hm
  go_enter Tryd.func8, Tryd.ntmps8
  go_wp2_with (first
    | ((with_reducible show wpList _ _ _ (⟨some 2, _, _, _, _, _⟩ :: _) _ _); go_must (refine wpList_alloc_zero rfl 24 rfl _ zero32 ?_); intro g2 w2 hg2 hk2 hw2; have HG2 := kp hg2; have HK2 := kp hk2; have HW2 := kp hw2; clear hg2 hk2 hw2)
    | (go_at_call 10; go_must (refine (new_any _).mono ?_); rintro e w3 ⟨g, rfl, hg3, hs3, hw3⟩; have HG3 := kp hg3; have HS3 := kp hs3; have HW3 := kp hw3; clear hg3 hs3 hw3))
  have hg : w.heap.size ≤ g2 ∧ g2 < g ∧ 1 ≤ g := ⟨HG2.out, by have := HK2.out.lt; have := HG3.out; omega, by have := HG3.out; have := HW2.out.size; omega⟩
  obtain ⟨hg2, hg23, hg1⟩ := hg
  have HB3 : Kept (Below w.heap.size w w3) := kp <| HW2.out.trans (HW3.out.mono HW2.out.size)
  have HZ3 : Kept (Blk w3 g2 24 ((List.replicate 32 0).map byteV)) := kp <| HK2.out.below HW3.out HK2.out.lt
  clear HG2 HK2 HW2 HG3 HW3
  go_loopw [9] (fun v9 wr => ∃ k : Nat, k ≤ n ∧ v9 = .int .i64 k ∧ Holds wr g (joined (ps.take k)) ∧ Blk wr g2 24 ((List.replicate 32 0).map byteV) ∧ Below w.heap.size w wr) (fun v9 _ => n - (intOf v9).toNat)
  case atStart => exact ⟨0, by omega, rfl, HS3.out, HZ3.out, HB3.out⟩
  case round =>
    clear HS3 HZ3 HB3
    obtain ⟨k, hkn, rfl, hs, hz, hbl⟩ := hrel
    have HS := kp hs; have HZ := kp hz; have HBL := kp hbl
    have HKr : Kept (Row wordV wr 1 (some ⟨0, 0, none⟩) 64 H.K) := kp <| HK.out.below (hbl.mono (by omega))
    clear hs hz hbl
    by_cases hlt : k < n
    · obtain ⟨ad, p, rfl, hab, hp, hc0⟩ := HR.out.get hlt
      have hok := HOk.out p (List.mem_of_getElem? hp)
      have hc := (HBL.out.cell (p := ad.add k) (by rw [add_block]; omega)).trans hc0
      rw [partV_def] at hc
      have HOkp : Kept (p.Ok wr B) := kp <| hok.keep fun q hq => HBL.out.cell (by omega)
      have HJ : Kept (joined (ps.take (k + 1)) = joined (ps.take k) ++ p.bs) := kp <| by rw [List.take_add_one, hp]; exact joined_snoc _ _
      have HJ2 : Kept ((joined (ps.take k)).length + p.n ≤ 1000000000) := kp <| by
        have h1 := joined_take_le ps (k + 1)
        rw [HJ.out, List.length_append, HOkp.out.row.len] at h1
        have := HM.out; omega
      clear hok hc0 hp hab
      have hB2 := HBL.out.size
      go_wp2_with (go_at_call 11; go_must (refine (write_any g _ p.bs p.A p.n p.c B wr HS.out HOkp.out.row (by omega) HOkp.out.byte (by intro a h0 e e2; obtain ⟨a2, e3, hb2, _⟩ := HOkp.out.row.cells h0; rw [e] at e3; cases e3; omega) HKr.out hg1 HOkp.out.cap HJ2.out).mono ?_); rintro e w6 ⟨rfl, hs6, hg6⟩; have HS6 := kp hs6; have HG6 := kp hg6; clear hs6 hg6)
      go_roundw
      case rel => exact ⟨k + 1, by omega, by go_num, by rw [HJ.out]; exact HS6.out, HZ.out.grown HG6.out (by intro e; cases e; omega), HBL.out.grown HG6.out hB2 (by intro k e; cases e; omega)⟩
      case measure => simp [intOf]; omega
    · have hke : n ≤ k := by omega
      have HS2 : Kept (Holds wr g (joined ps)) := kp <| by have h := HS.out; rw [List.take_of_length_le (by rw [HR.out.len]; exact hke)] at h; exact h
      clear hlt hkn
      go_wp2_with (first
        | (go_at_call 12; go_must (refine (sum_any g (joined ps) wr HS2.out HKr.out hg1 HM.out dig HDig.out).mono ?_); rintro e w7 ⟨rfl, hw7⟩; have HW7 := kp hw7; clear hw7)
        | ((with_reducible refine wpList_store_blk rfl 24 (.tmp 2) (.tmp 18) rfl g2 (dig.map byteV) rfl rfl 24 _ (HZ.out.below HW7.out HZ.out.lt) (size32.trans (by rw [List.length_map, ← HDig.out, digest_len])) (by rw [List.length_map, List.length_map, ← HDig.out, digest_len, List.length_replicate]) (ones _ one_byteV _) ?_); intro w9 hk9 hw9 hz9; have HK9 := kp hk9; have HW9 := kp hw9; clear hk9 hw9 hz9))
      refine bodyPost_ret (results_blk (P := Tryd.prog) (fn := Tryd.f8) rfl _ _ g2 24 (dig.map byteV) (.array 32 5) rfl HK9.out Tryd.underlying24 rfl (size32.trans (by rw [List.length_map, ← HDig.out, digest_len]))) rfl ⟨rfl, ?_⟩
      have h7 : Below w.heap.size w w7 := HBL.out.trans (HW7.out.mono HBL.out.size)
      exact h7.grown HW9.out h7.size (by intro k e; cases e; omega)
end Go.Proofs.YtoagmmelklkoaaaDoor
