/- Bytes read as a program, as the document has it, walked: Read, main. -/
import Derived.Test.YtdnhfpphjpnklaaPcodeRef2
namespace Go.Proofs.Ytdnhfpphjpnklaa
open Go.RowKit

set_option maxRecDepth 1000000 in
set_option maxHeartbeats 16000000 in
/-- Behind the mark. -/
theorem ref_read_main (A : Option Addr) (n c : Nat) (bs : List Nat) (w : World) (hr : Row byteV w w.heap.size A n bs) (hb : ∀ x ∈ bs, x < 256) (hn : n ≤ 65536) (hnc : n ≤ c) (hcm : c ≤ maxLen) (out : List Nat) (s1 : R.St) (h0 : C.h0 bs = (out, s1)) (hlen : out.length = 4) (hmk : out = C.mark) (hw1 : s1.why = 0) (hok : R.Ok bs s1) (d : C.PD) (s2 : R.St) (hx : C.rdPg bs s1 = (d, s2)) (s3 : R.St) (he : C.endOf n s2 = s3) (a b : Int) (ck : Nat) (hc : Q.check (C.pgOf d) = (a, b, ck)) (dF : C.PD) (aF wF : Nat) (hF : (s3.why = 0 → ck = 0 → dF = d ∧ aF = 0 ∧ wF = 0) ∧ (s3.why = 0 → ck ≠ 0 → dF = C.none_ ∧ aF = n ∧ wF = ck) ∧ (s3.why ≠ 0 → dF = C.none_ ∧ aF = s3.wh ∧ wF = s3.why)) :
    Calls Try.prog 9 #[.slice A n c] w (RefPost w dF aF wF) := by
  unfold RefPost
  have HR := kp hr; have HB := kp hb; have HH0 := kp h0; have HLen := kp hlen
  have HS0 : Kept (R.Ok bs C.s0) := kp ⟨Nat.zero_le _, Nat.zero_le _, by decide⟩
  clear hr hb h0 hlen
  have hb := HB.out
  obtain ⟨x1, t1, h1⟩ : ∃ x t, C.hd1 bs s1 = (x, t) := ⟨_, _, rfl⟩
  obtain ⟨x2, t2, h2⟩ : ∃ x t, C.hd2 bs s1 = (x, t) := ⟨_, _, rfl⟩
  obtain ⟨x3, t3, h3⟩ : ∃ x t, C.hd3 bs s1 = (x, t) := ⟨_, _, rfl⟩
  obtain ⟨m, t4, h4⟩ : ∃ x t, C.hd4 bs s1 = (x, t) := ⟨_, _, rfl⟩
  have h1' : R.num bs s1 16 = (x1, t1) := h1
  have h2' : R.num bs t1 16 = (x2, t2) := by have h := h2; unfold C.hd2 at h; rw [h1] at h; exact h
  have h3' : R.num bs t2 8 = (x3, t3) := by have h := h3; unfold C.hd3 at h; rw [h2] at h; exact h
  have h4' : R.num bs t3 16 = (m, t4) := by have h := h4; unfold C.hd4 at h; rw [h3] at h; exact h
  have HNk : Kept (∀ (t : R.St) (most : Int) (x : Nat) (t' : R.St), R.num bs t most = (x, t') → R.Ok bs t → R.Ok bs t') := kp fun t most x t' hx ht => by
    have := (R.num_ok hb ht most).1
    rw [hx] at this; exact this
  have ok1 := HNk.out _ _ _ _ h1' hok
  have ok2 := HNk.out _ _ _ _ h2' ok1
  have ok3 := HNk.out _ _ _ _ h3' ok2
  have ok4 := HNk.out _ _ _ _ h4' ok3
  have hm16 : m ≤ 16 := by have := R.num_le (bs := bs) (s := t3) (most := 16) (by omega); rw [h4'] at this; omega
  have i1 : I64 ((x1 : Nat) : Int) := by have := C.num_i64 (bs := bs) s1 (most := 16) (by omega) (by omega); rw [h1'] at this; exact this
  have i2 : I64 ((x2 : Nat) : Int) := by have := C.num_i64 (bs := bs) t1 (most := 16) (by omega) (by omega); rw [h2'] at this; exact this
  have i3 : I64 ((x3 : Nat) : Int) := by have := C.num_i64 (bs := bs) t2 (most := 8) (by omega) (by omega); rw [h3'] at this; exact this
  have HXs : Kept ((C.rdFns bs m [] t4).2 = s2) := kp (by unfold C.rdPg at hx; rw [h4] at hx; exact (Prod.mk.inj hx).2)
  have HD : Kept (d = ⟨((x1 : Nat) : Int), ((x2 : Nat) : Int), ((x3 : Nat) : Int), (C.rdFns bs m [] t4).1⟩) := kp (by unfold C.rdPg at hx; rw [h4, h1, h2, h3] at hx; exact (Prod.mk.inj hx).1.symm)
  have HOk1 := kp hok; have HN1 := kp h1'; have HN2 := kp h2'; have HN3 := kp h3'; have HN4 := kp h4'
  have HO1 := kp ok1; have HO2 := kp ok2; have HO3 := kp ok3; have HO4 := kp ok4
  have HI1 := kp i1; have HI2 := kp i2; have HI3 := kp i3; have HC := kp hc; have HEnd := kp he; have HCm := kp hcm; have HF := kp hF
  have HLk : Kept (∀ (t : R.St), R.Ok bs t → R.Ok bs (C.rdF bs [] ⟨0, 0, 0, 0⟩ t).2) := kp fun t ht => ht
  clear hok h1 h2 h3 h4 h1' h2' h3' h4' ok1 ok2 ok3 ok4 i1 i2 i3 hx hc he hcm hF
  have hte := mark_is hmk
  have hwz : ((s1.why : Int) == 0) = true := by rw [beq_iff_eq]; omega
  clear hmk hw1
  go_enter Try.func9, Try.ntmps9
  go_wp2_with (first
    | ((with_reducible show wpList _ _ _ (⟨some 2, _, _, _, _, _⟩ :: _) _ _); go_must (refine wpList_alloc_zero rfl 26 rfl _ pcp_zero ?_); intro gr w1 hgr hk1 hw1; have HKa1 := kp hk1; have HW1 := kp hw1; have hs1 := hw1.size; have hl1 := hk1.lt; clear hk1 hw1)
    | ((with_reducible show wpList _ _ _ (⟨some 5, _, _, _, _, _⟩ :: _) _ _); go_must (refine wpList_alloc_zero rfl 26 rfl _ pcp_zero ?_); intro g5 w2 hg5 hk2 hw2
       have HKb2 := kp hk2; have HKa2 := kp (HKa1.out.below hw2 hl1); have HW2 := kp (HW1.out.trans (hw2.mono hs1)); have hs2 := hw2.size; have hl2 := hk2.lt
       clear hk2 hw2)
    | ((with_reducible show wpList _ _ _ (⟨none, _, _, _, _, _⟩ :: _) _ _); (refine wpList_store_blk rfl 26 (.tmp 5) (.tmp 21) rfl g5 [Value.int .i64 0, .int .i64 0, .int .i64 0, .slice none 0 0] rfl rfl _ _ HKb2.out pg_size rfl (pcp_ones pgNone) ?_); intro w3 hk3 hg3 hz3
       have HKb3 := kp hk3; have HKa3 := kp (HKa2.out.grown hg3 (by intro e; cases e; omega)); have HW3 := kp (HW2.out.grown hg3 (by omega) (by intro k e; cases e; omega)); have hs3 := HW3.out.size
       have HR3 := kp (HR.out.below HW3.out)
       clear hk3 hg3)
    | ((with_reducible refine wpList_box_agg rfl 53 (.tmp 27) rfl (rdC A n c C.s0) rfl ?_); intro g w4 hg4 hk4 hw4
       have HRd4 : Kept (Rd w4 g A n c C.s0) := kp hk4
       have HR4 := kp (HR3.out.below (hw4.mono hs3)); have HKa4 := kp (HKa3.out.below hw4 HKa3.out.lt); have HKb4 := kp (HKb3.out.below hw4 HKb3.out.lt); have HW4 := kp (HW3.out.trans (hw4.mono hs3)); have hs4 := HW4.out.size
       have hlg := hk4.lt
       have hla3 := HKa3.out.lt; have hlb3 := HKb3.out.lt
       clear hk4 hw4)
    | (go_at_call 19; go_must (refine (rd_raw g w.heap.size A n c bs C.s0 HS0.out 4 (by omega) out s1 HH0.out w4 HRd4.out HR4.out (by omega) (by omega) (by omega)).mono ?_); rintro e w5 ⟨v, rfl, hown, hk5, hgn5, hr5⟩
       obtain ⟨A7, c7, rfl, hc7, hm7, hr7⟩ := Own.readsN hown HLen.out
       have HRd5 := kp hk5; have HR5 := kp hr5; have HG5 := kp hgn5
       have HKa5 := kp (HKa4.out.grown hgn5 (by intro e; cases e; omega)); have HKb5 := kp (HKb4.out.grown hgn5 (by intro e; cases e; omega))
       have HW5 := kp (HW4.out.grown hgn5 hs4 (by intro k e; cases e; omega)); have hs5 := HW5.out.size; have hlg5 := hk5.lt
       obtain ⟨hq0, hq1, hq2, hq3, _, _, _⟩ := hk5.cells
       have hm77 : c7 ≤ 9223372036854775807 := by unfold maxLen at hm7; omega
       have hcv := cvr (c := c7) hr7
       clear hown hk5 hgn5 hr5 hm7 hr7)
    | ((with_reducible show wpList _ _ _ (⟨some 8, _, _, _, _, _⟩ :: _) _ _); go_must (refine wpList_alloc_zero rfl 26 rfl _ pcp_zero ?_); intro g8 w6 hg8 hk6 hw6
       have HKp6 := kp hk6; have HW6 := kp hw6; have hs6 := hw6.size; have hl6 := hk6.lt
       clear hk6 hw6)
    | ((with_reducible show wpList _ _ _ (⟨none, _, _, _, _, _⟩ :: _) _ _); (refine wpList_store_blk rfl 26 (.tmp 8) (.tmp 42) rfl g8 [Value.int .i64 0, .int .i64 0, .int .i64 0, .slice none 0 0] rfl rfl _ _ HKp6.out pg_size rfl (pcp_ones pgNone) ?_); intro wB hk7 hg7 hz7
       have HKp7 := kp hk7
       have HWB := kp (HW6.out.grown hg7 hs6 (by intro k e; cases e; exact hg8))
       have HRd7 := kp (HRd5.out.below HWB.out hlg5); have HKa7 := kp (HKa5.out.below HWB.out HKa5.out.lt); have HKb7 := kp (HKb5.out.below HWB.out HKb5.out.lt)
       have HR7 := kp (HR5.out.below (HWB.out.mono hs5)); have HW7 := kp (HW5.out.trans (HWB.out.mono hs5)); have hs7 := HW7.out.size
       have hl7 := hk7.lt; have hlg7 := HRd7.out.lt; have hla7 := HKa7.out.lt; have hlb7 := HKb7.out.lt
       have hgg8 : g < g8 := by omega
       have hsB : w5.heap.size ≤ wB.heap.size := HWB.out.size
       clear hk7 hg7))
  have HRowK : Kept (∀ W, Only (fun k => k = g ∨ k = g8) wB W → Row byteV W w.heap.size A n bs) := kp fun W hW => HR7.out.onlyB hW (by omega) fun k hk hg => by rcases hg with hg | hg <;> omega
  have HNum : Kept (∀ (t : R.St), R.Ok bs t → ∀ (most : Int) (x : Nat) (t' : R.St), R.num bs t most = (x, t') → ∀ W, Rd W g A n c t → Only (fun k => k = g ∨ k = g8) wB W →
      Calls Try.prog 20 #[.pointer (some ⟨g, 0, none⟩), .int .i64 most] W fun r w' => r = .returned (.int .i64 (x : Int)) ∧ Rd w' g A n c t' ∧ W.grownBy w' (some g) ∧ Only (fun k => k = g ∨ k = g8) wB w') := kp fun t ht most x t' hx W hW hO =>
    (rd_num g w.heap.size A n c bs t ht most x t' hx W hW (HRowK.out W hO) HB.out hnc HCm.out (by omega) (Nat.le_trans (by omega) hO.size)).mono fun r w' ⟨a1, a2, a3, _⟩ => ⟨a1, a2, a3, only_grown hO a3 (.inl (.inl rfl))⟩
  have HKaK : Kept (∀ W, Only (fun k => k = g ∨ k = g8) wB W → Blk W gr 26 [Value.int .i64 0, .int .i64 0, .int .i64 0, .slice none 0 0]) := kp fun W hW => hW.blk HKa7.out (by omega)
  have HKbK : Kept (∀ W, Only (fun k => k = g ∨ k = g8) wB W → Blk W g5 26 [Value.int .i64 0, .int .i64 0, .int .i64 0, .slice none 0 0]) := kp fun W hW => hW.blk HKb7.out (by omega)
  have HWK : Kept (∀ W, Only (fun k => k = g ∨ k = g8) wB W → Below w.heap.size w W) := kp fun W hW => HW7.out.trans (hW.below (by omega) fun k hk => by omega)
  have HOnB : Kept (Only (fun k => k = g ∨ k = g8) wB wB) := kp (Only.refl _ _)
  clear hq0 hq1 hq2 hq3 hwz hcv hte
  refine (HNum.out s1 HOk1.out 16 x1 t1 HN1.out wB HRd7.out HOnB.out).mono ?_
  rintro e u1 ⟨rfl, hk, hgr2, ho⟩
  have HBu := kp (HKp7.out.grown hgr2 (by intro e; cases e; omega))
  have HRu := kp hk; have HOu := kp ho
  have hcz : u1.cell? ⟨g8, 0, none⟩ = some (.int .i64 0) := HBu.out.cell 0
  have hfz := HBu.out.frozen 0
  clear hk hgr2 ho
  go_wp2_with fail
  have HR1v : Kept (Rd (u1.setCell ⟨g8, 0, none⟩ (.int .i64 (x1 : Int))) g A n c t1) := kp (Blk.other HRu.out _ _ (by show g ≠ g8; omega))
  have HO1v : Kept (Only (fun k => k = g ∨ k = g8) wB (u1.setCell ⟨g8, 0, none⟩ (.int .i64 (x1 : Int)))) := kp (HOu.out.trans (Only.set (.inr rfl)))
  have HB1v : Kept (Blk (u1.setCell ⟨g8, 0, none⟩ (.int .i64 (x1 : Int))) g8 26 [.int .i64 (x1 : Int), (.int .i64 0), (.int .i64 0), .slice none 0 0]) := kp (HBu.out.set 0 _)
  generalize u1.setCell ⟨g8, 0, none⟩ (.int .i64 (x1 : Int)) = v1 at *
  clear hcz hfz HBu HRu HOu
  refine (HNum.out t1 HO1.out 16 x2 t2 HN2.out v1 HR1v.out HO1v.out).mono ?_
  rintro e u2 ⟨rfl, hk, hgr2, ho⟩
  have HBu := kp (HB1v.out.grown hgr2 (by intro e; cases e; omega))
  have HRu := kp hk; have HOu := kp ho
  have hcz : u2.cell? ⟨g8, 1, none⟩ = some (.int .i64 0) := HBu.out.cell 1
  have hfz := HBu.out.frozen 1
  clear hk hgr2 ho
  go_wp2_with fail
  have HR2v : Kept (Rd (u2.setCell ⟨g8, 1, none⟩ (.int .i64 (x2 : Int))) g A n c t2) := kp (Blk.other HRu.out _ _ (by show g ≠ g8; omega))
  have HO2v : Kept (Only (fun k => k = g ∨ k = g8) wB (u2.setCell ⟨g8, 1, none⟩ (.int .i64 (x2 : Int)))) := kp (HOu.out.trans (Only.set (.inr rfl)))
  have HB2v : Kept (Blk (u2.setCell ⟨g8, 1, none⟩ (.int .i64 (x2 : Int))) g8 26 [.int .i64 (x1 : Int), .int .i64 (x2 : Int), (.int .i64 0), .slice none 0 0]) := kp (HBu.out.set 1 _)
  generalize u2.setCell ⟨g8, 1, none⟩ (.int .i64 (x2 : Int)) = v2 at *
  clear hcz hfz HBu HRu HOu
  refine (HNum.out t2 HO2.out 8 x3 t3 HN3.out v2 HR2v.out HO2v.out).mono ?_
  rintro e u3 ⟨rfl, hk, hgr2, ho⟩
  have HBu := kp (HB2v.out.grown hgr2 (by intro e; cases e; omega))
  have HRu := kp hk; have HOu := kp ho
  have hcz : u3.cell? ⟨g8, 2, none⟩ = some (.int .i64 0) := HBu.out.cell 2
  have hfz := HBu.out.frozen 2
  clear hk hgr2 ho
  go_wp2_with fail
  have HR3v : Kept (Rd (u3.setCell ⟨g8, 2, none⟩ (.int .i64 (x3 : Int))) g A n c t3) := kp (Blk.other HRu.out _ _ (by show g ≠ g8; omega))
  have HO3v : Kept (Only (fun k => k = g ∨ k = g8) wB (u3.setCell ⟨g8, 2, none⟩ (.int .i64 (x3 : Int)))) := kp (HOu.out.trans (Only.set (.inr rfl)))
  have HB3v : Kept (Blk (u3.setCell ⟨g8, 2, none⟩ (.int .i64 (x3 : Int))) g8 26 [.int .i64 (x1 : Int), .int .i64 (x2 : Int), .int .i64 (x3 : Int), .slice none 0 0]) := kp (HBu.out.set 2 _)
  generalize u3.setCell ⟨g8, 2, none⟩ (.int .i64 (x3 : Int)) = v3 at *
  clear hcz hfz HBu HRu HOu
  refine (HNum.out t3 HO3.out 16 m t4 HN4.out v3 HR3v.out HO3v.out).mono ?_
  rintro e u4 ⟨rfl, hk, hgr2, ho⟩
  have HB4v := kp (HB3v.out.grown hgr2 (by intro e; cases e; omega))
  have HR4v := kp hk; have HO4v := kp ho
  clear hk hgr2 ho HR1v HO1v HB1v HR2v HO2v HB2v HR3v HO3v HB3v
  go_wp2
  go_loopw [10] (fun v10 wr => ∃ (f : Nat) (L : List (List Nd)) (t : R.St) (fs : List Fn) (v3 : Value), f ≤ m ∧ v10 = .int .i64 f ∧ fs.map (·.nodes) = L ∧ L.length = f ∧ (C.rdFns bs (m - f) L t).2 = s2 ∧ (s2.why = 0 → (C.rdFns bs (m - f) L t).1 = d.L) ∧ R.Ok bs t ∧ Rd wr g A n c t ∧ Blk wr g8 26 [.int .i64 (x1 : Int), .int .i64 (x2 : Int), .int .i64 (x3 : Int), v3] ∧ Own wr wB.heap.size 43 v3 (fs.map fnV) ∧ (∀ fn ∈ fs, FnR wr wB.heap.size v3 fn) ∧ Only (fun k => k = g ∨ k = g8) wB wr) (fun v10 _ => m - (intOf v10).toNat)
  case atStart => exact ⟨0, [], t4, [], _, by omega, rfl, rfl, rfl, HXs.out, fun _ => by rw [HD.out]; rfl, HO4.out, HR4v.out, HB4v.out, Own.nil _ _ _, by simp, HO4v.out⟩
  case round =>
    clear HB4v HR4v HO4v HRd7 HKp7 HOnB
    obtain ⟨f, L, t, fs, v3, hf, rfl, hfl, hll, hrd, hrdL, hok, hpd, hblk, hown, hfns, honly⟩ := hrel
    have HFl := kp hfl; have HLl := kp hll; have HRd := kp hrd; have HRdL := kp hrdL; have HOk := kp hok; have HPd := kp hpd; have HBp := kp hblk; have HOwn := kp hown; have HFs := kp hfns; have HOn := kp honly
    obtain ⟨_, _, _, hqw, _, _, _⟩ := hpd.cells
    have hsr := honly.size
    have hl8 := hblk.lt; have hlgr := hpd.lt
    clear hfl hll hrd hrdL hok hpd hblk hown hfns honly
    by_cases hlt : f < m
    · by_cases hw : t.why = 0
      · have hwz : ((t.why : Int) == 0) = true := by rw [beq_iff_eq]; omega
        have hdl : decide (f < m) = true := decide_eq_true hlt
        have hb := HB.out
        obtain ⟨k, ta, hk1⟩ : ∃ k ta, R.num bs t 64 = (k, ta) := ⟨_, _, rfl⟩
        obtain ⟨lf, tb, hfn⟩ : ∃ lf tb, C.rdFn bs t = (lf, tb) := ⟨_, _, rfl⟩
        have hk64 : k ≤ 64 := by have := R.num_le (bs := bs) (s := t) (most := 64) (by omega); rw [hk1] at this; omega
        have HFn : Kept (C.rdNds bs k [] ta = (lf, tb)) := kp (by unfold C.rdFn at hfn; rw [hk1] at hfn; exact hfn)
        have HNx : Kept (∀ (l : List Nd) (t' : R.St), t' = tb → (tb.why = 0 → l = lf) → (C.rdFns bs (m - (f + 1)) (L ++ [l]) t').2 = s2 ∧ (s2.why = 0 → (C.rdFns bs (m - (f + 1)) (L ++ [l]) t').1 = d.L)) := kp fun l t' ht hl => fns_next hlt hfn HRd.out HRdL.out ht hl
        have HNk1 := kp hk1
        have HOka := kp (HNk.out _ _ _ _ hk1 HOk.out)
        clear hfn hk1 hb hw HRd HRdL
        generalize wr = wO at *
        go_wp2_with fail
        refine (HNum.out t HOk.out 64 k ta HNk1.out wO HPd.out HOn.out).mono ?_
        rintro e w8 ⟨rfl, hk8, hg8', ho8⟩
        have HRd8 := kp hk8; have HG8 := kp hg8'
        clear hk8 hg8' ho8 hqw hwz hdl
        go_wp2_with fail
        obtain ⟨B1, hB1⟩ : ∃ B1, wO.heap.size = B1 := ⟨_, rfl⟩
        have hBB : wB.heap.size ≤ B1 := by rw [← hB1]; exact hsr
        go_loopw [11, 13] (fun v11 v13 wq => ∃ (i : Nat) (l : List Nd) (t : R.St), i ≤ k ∧ v13 = .int .i64 i ∧ l.length = i ∧ OwnR 4 ndV wq B1 42 v11 l ∧ (∀ x ∈ l, x.Ok) ∧ (C.rdNds bs (k - i) l t).2 = tb ∧ (tb.why = 0 → (C.rdNds bs (k - i) l t).1 = lf) ∧ R.Ok bs t ∧ Rd wq g A n c t ∧ wO.grownBy wq (some g)) (fun _ v13 _ => k - (intOf v13).toNat)
        case atStart => exact ⟨0, [], ta, by omega, rfl, rfl, OwnR.nil _ _ _ _ _, by simp, by rw [Nat.sub_zero, HFn.out], fun _ => by rw [Nat.sub_zero, HFn.out], HOka.out, HRd8.out, HG8.out⟩
        case round =>
          clear HRd8 HG8
          obtain ⟨i, l, t, hi, rfl, hll, hown, hoks, hrd, hrdl, hok, hpd, hgr2⟩ := hrel
          have HLn := kp hll; have HOks := kp hoks; have HRd := kp hrd; have HRdl := kp hrdl; have HOkt := kp hok; have HPdt := kp hpd; have HGt := kp hgr2
          obtain ⟨_, _, _, hqw, _, _, _⟩ := hpd.cells
          have hsz2 := hgr2.size
          have hlr := hpd.lt
          have HOnt := kp (only_grown HOn.out hgr2 (.inl (.inl rfl)))
          obtain ⟨A11, c11, hv11, _, _, _⟩ := hown.form
          rw [hll] at hv11
          subst hv11
          have HOwnR := kp hown
          clear hll hown hoks hrd hrdl hok hpd hgr2
          by_cases hlk : i < k
          · by_cases hw : t.why = 0
            · have hwz : ((t.why : Int) == 0) = true := by rw [beq_iff_eq]; omega
              have hdl : decide (i < k) = true := decide_eq_true hlk
              obtain ⟨kd, tc, hkd⟩ : ∃ kd tc, R.num bs t 9 = (kd, tc) := ⟨_, _, rfl⟩
              obtain ⟨xf, td, hnd⟩ : ∃ xf td, C.rdNd bs t = (xf, td) := ⟨_, _, rfl⟩
              have hxf : xf.Ok := by have := C.rdNd_ok bs t; rw [hnd] at this; exact this
              have HXf := kp hxf
              have HRF : Kept (C.rdF bs (C.tl (kd : Int)) (C.nd0 kd) tc = (xf, td)) := kp (by unfold C.rdNd at hnd; rw [hkd] at hnd; exact hnd)
              have HNext : Kept (C.rdNds bs (k - (i + 1)) (l ++ [xf]) td = C.rdNds bs (k - i) l t) := kp (by
                rw [show k - i = (k - (i + 1)) + 1 by omega]
                conv => rhs; unfold C.rdNds
                rw [hnd])
              have HNkd := kp hkd
              have HOkc := kp (HNk.out _ _ _ _ hkd HOkt.out)
              have hkd9 : kd ≤ 9 := by have := R.num_le (bs := bs) (s := t) (most := 9) (by omega); rw [hkd] at this; omega
              obtain ⟨js, hjs⟩ : ∃ js, C.tl (kd : Int) = js := ⟨_, rfl⟩
              obtain ⟨nj, hnj⟩ : ∃ nj, js.length = nj := ⟨_, rfl⟩
              obtain ⟨s, hs⟩ : ∃ s, tlS (kd : Int) = s := ⟨_, rfl⟩
              have HS := kp hs
              have hsn : s.size = nj := by rw [← hs, tlS_size, hjs, hnj]
              have HAt : Kept (∀ (q j : Nat), js[q]? = some j → ∀ (h : q < s.size), s[q].toNat = letterOf j) := kp (by
                intro q j hj h
                subst hs
                exact tlS_at _ (by rw [hjs]; exact hj) h)
              have HLe : Kept (∀ j ∈ js, j ≤ 2) := kp (by rw [← hjs]; exact C.tl_le _)
              have HNj := kp hnj
              have hnj3 : nj ≤ 3 := by rw [← hnj, ← hjs]; exact C.tl_len _
              rw [hjs] at HRF
              have HRdK := HRd
              have HRdlK := HRdl
              clear hkd hnd hs hjs hnj hw hxf
              go_wp2_with fail
              refine (HNum.out t HOkt.out 9 kd tc HNkd.out wr HPdt.out HOnt.out).mono ?_
              rintro e w9 ⟨rfl, hk9, hg9, _⟩
              have HRd9 := kp hk9; have HG9 := kp (grown_trans HGt.out hg9)
              have HOw9 := kp (HOwnR.out.far hg9 (ownBlock_ne (fun k hk => by have := (HOwnR.out.block k hk).1; omega)))
              have hs9 := hg9.size
              clear hk9 hg9 hqw hwz hdl
              go_wp2_with (first
                | ((with_reducible show wpList _ _ _ (⟨some 14, _, _, _, _, _⟩ :: _) _ _); go_must (refine wpList_alloc_zero rfl 42 rfl _ nd_zero ?_); intro gn w10 hgn hk10 hw10; have HK10 := kp hk10; have HW10 := kp hw10; clear hk10 hw10)
                | ((with_reducible show wpList _ _ _ (⟨none, _, _, _, _, _⟩ :: _) _ _); go_must (refine wpList_store_blk rfl 42 (.tmp 14) (.tmp 82) rfl gn (ndC (C.nd0 kd)) rfl rfl _ _ HK10.out nd_size rfl (nd_ones (C.nd0 kd)) ?_); intro w11 hk11 hg11 hz11
                   have HKn := kp hk11
                   have hbw : Below w9.heap.size w9 w11 := HW10.out.grown hg11 HW10.out.size (by intro k e; cases e; exact hgn)
                   have HRd11 := kp (HRd9.out.below hbw HRd9.out.lt)
                   have HG11 := kp (grown_below HG9.out hbw)
                   have HOw11 := kp (HOw9.out.below hbw (Nat.le_refl _))
                   have hcn : w11.cell? ⟨gn, 0, none⟩ = some (.int .i64 (kd : Int)) := (nd_cells hk11).1
                   have hnb : ∀ k, (Value.slice A11 i c11).ownBlock = some k → k < gn := fun k hk => by have := (HOw9.out.block k hk).2; omega
                   have hgnB : B1 ≤ gn := by omega
                   have hggn : g < gn := by have := HRd9.out.lt; omega
                   have hbws := hbw.size
                   clear hk11 hg11 hz11 hbw)
                | (go_at_call 21; go_must (refine (ref_told (kd : Int) s HS.out w11).mono ?_); rintro e w12 ⟨rfl, rfl⟩))
              clear hcn
              go_loopw [16] (fun v16 wq => ∃ (q : Nat) (x : Nd) (t : R.St), q ≤ nj ∧ v16 = .int .i64 q ∧ C.rdF bs (js.drop q) x t = (xf, td) ∧ R.Ok bs t ∧ Rd wq g A n c t ∧ Blk wq gn 42 (ndC x) ∧ wO.grownBy wq (some g) ∧ OwnR 4 ndV wq B1 42 (.slice A11 i c11) l) (fun v16 _ => nj - (intOf v16).toNat)
              case atStart => exact ⟨0, C.nd0 kd, tc, by omega, rfl, HRF.out, HOkc.out, HRd11.out, HKn.out, HG11.out, HOw11.out⟩
              case round =>
                clear HRF HOkc HRd11 HKn HG11 HOw11 HG9 HOw9 HRd9 HOwnR HPdt HGt HOnt HOkt HRd HRdl
                obtain ⟨q, x, t, hq, rfl, hrd, hok, hpd, hblk, hgr3, hown⟩ := hrel
                have HRdq := kp hrd; have HOkq := kp hok; have HPdq := kp hpd; have HBq := kp hblk; have HGq := kp hgr3; have HOwq := kp hown
                have hszq := hgr3.size
                have hlgq := hpd.lt; have hlnq := hblk.lt
                have HOnq := kp (only_grown HOn.out hgr3 (.inl (.inl rfl)))
                clear hrd hok hpd hblk hgr3 hown
                by_cases hlq : q < nj
                · obtain ⟨j, hxj⟩ : ∃ j, js[q]? = some j := ⟨_, List.getElem?_eq_getElem (by rw [HNj.out]; exact hlq)⟩
                  have hj2 := HLe.out j (List.mem_of_getElem? hxj)
                  have hqs : q < s.size := by omega
                  have hch := HAt.out q j hxj hqs
                  obtain ⟨y, t3, hy⟩ : ∃ y t3, R.num bs t 64 = (y, t3) := ⟨_, _, rfl⟩
                  have HN := kp hy
                  have HOk3 := kp (HNk.out _ _ _ _ hy HOkq.out)
                  have HRd3 : Kept (C.rdF bs (js.drop (q + 1)) (C.set x j (y : Int)) t3 = (xf, td)) := kp (by
                    have h := HRdq.out
                    rw [List.drop_eq_getElem_cons (by rw [HNj.out]; exact hlq), (List.getElem?_eq_some_iff.1 hxj).2] at h
                    unfold C.rdF at h
                    rw [hy] at h
                    exact h)
                  have hcase : j = 0 ∨ j = 1 ∨ j = 2 := by omega
                  clear hxj hy HRdq hj2
                  rcases hcase with rfl | rfl | rfl
                  · have hch : s[q].toNat = 97 := hch
                    go_wp2_with fail
                    refine (HNum.out t HOkq.out 64 y t3 HN.out wr HPdq.out HOnq.out).mono ?_
                    rintro e w20 ⟨rfl, hk20, hg20, _⟩
                    have HRd20 := kp hk20; have HG20 := kp (grown_trans HGq.out hg20); have HB20 := kp (HBq.out.grown hg20 (by intro e; cases e; omega))
                    have HOw20 := kp (HOwq.out.far hg20 (ownBlock_ne (fun k hk => by have := (HOwq.out.block k hk).1; omega)))
                    have hs20 := hg20.size
                    clear hk20 hg20
                    go_wp2_with (first
                      | ((with_reducible show wpList _ _ _ (⟨none, _, _, _, _, _⟩ :: _) _ _); go_must (refine wpList_store_cell rfl 3 (.tmp 102) (.tmp 101) rfl gn 1 (.int .i64 (y : Int)) rfl rfl rfl rfl 42 _ HB20.out (by show 1 < 4; decide) size1i ?_); intro w21 hk21 hg21 hz21
                         have HB21 : Kept (Blk w21 gn 42 (ndC (C.set x 0 (y : Int)))) := kp hk21
                         have HRd21 := kp (HRd20.out.grown hg21 (by intro e; cases e; omega))
                         have HG21 := kp (grown_new HG20.out hg21 (by omega))
                         have HOw21 := kp (HOw20.out.far hg21 (ownBlock_ne (fun k hk => by have := hnb k hk; omega)))
                         clear hk21 hg21 hz21))
                    go_roundw
                    case rel => exact ⟨q + 1, C.set x 0 (y : Int), t3, by omega, by go_num, HRd3.out, HOk3.out, HRd21.out, HB21.out, HG21.out, HOw21.out⟩
                    case measure => simp [intOf]; omega
                  · have hch : s[q].toNat = 110 := hch
                    go_wp2_with fail
                    refine (HNum.out t HOkq.out 64 y t3 HN.out wr HPdq.out HOnq.out).mono ?_
                    rintro e w20 ⟨rfl, hk20, hg20, _⟩
                    have HRd20 := kp hk20; have HG20 := kp (grown_trans HGq.out hg20); have HB20 := kp (HBq.out.grown hg20 (by intro e; cases e; omega))
                    have HOw20 := kp (HOwq.out.far hg20 (ownBlock_ne (fun k hk => by have := (HOwq.out.block k hk).1; omega)))
                    have hs20 := hg20.size
                    clear hk20 hg20
                    go_wp2_with (first
                      | ((with_reducible show wpList _ _ _ (⟨none, _, _, _, _, _⟩ :: _) _ _); go_must (refine wpList_store_cell rfl 3 (.tmp 106) (.tmp 105) rfl gn 2 (.int .i64 (y : Int)) rfl rfl rfl rfl 42 _ HB20.out (by show 2 < 4; decide) size1i ?_); intro w21 hk21 hg21 hz21
                         have HB21 : Kept (Blk w21 gn 42 (ndC (C.set x 1 (y : Int)))) := kp hk21
                         have HRd21 := kp (HRd20.out.grown hg21 (by intro e; cases e; omega))
                         have HG21 := kp (grown_new HG20.out hg21 (by omega))
                         have HOw21 := kp (HOw20.out.far hg21 (ownBlock_ne (fun k hk => by have := hnb k hk; omega)))
                         clear hk21 hg21 hz21))
                    go_roundw
                    case rel => exact ⟨q + 1, C.set x 1 (y : Int), t3, by omega, by go_num, HRd3.out, HOk3.out, HRd21.out, HB21.out, HG21.out, HOw21.out⟩
                    case measure => simp [intOf]; omega
                  · have hch : s[q].toNat = 120 := hch
                    go_wp2_with fail
                    refine (HNum.out t HOkq.out 64 y t3 HN.out wr HPdq.out HOnq.out).mono ?_
                    rintro e w20 ⟨rfl, hk20, hg20, _⟩
                    have HRd20 := kp hk20; have HG20 := kp (grown_trans HGq.out hg20); have HB20 := kp (HBq.out.grown hg20 (by intro e; cases e; omega))
                    have HOw20 := kp (HOwq.out.far hg20 (ownBlock_ne (fun k hk => by have := (HOwq.out.block k hk).1; omega)))
                    have hs20 := hg20.size
                    clear hk20 hg20
                    go_wp2_with (first
                      | ((with_reducible show wpList _ _ _ (⟨none, _, _, _, _, _⟩ :: _) _ _); go_must (refine wpList_store_cell rfl 3 (.tmp 98) (.tmp 97) rfl gn 3 (.int .i64 (y : Int)) rfl rfl rfl rfl 42 _ HB20.out (by show 3 < 4; decide) size1i ?_); intro w21 hk21 hg21 hz21
                         have HB21 : Kept (Blk w21 gn 42 (ndC (C.set x 2 (y : Int)))) := kp hk21
                         have HRd21 := kp (HRd20.out.grown hg21 (by intro e; cases e; omega))
                         have HG21 := kp (grown_new HG20.out hg21 (by omega))
                         have HOw21 := kp (HOw20.out.far hg21 (ownBlock_ne (fun k hk => by have := hnb k hk; omega)))
                         clear hk21 hg21 hz21))
                    go_roundw
                    case rel => exact ⟨q + 1, C.set x 2 (y : Int), t3, by omega, by go_num, HRd3.out, HOk3.out, HRd21.out, HB21.out, HG21.out, HOw21.out⟩
                    case measure => simp [intOf]; omega
                · have hqn : nj ≤ q := by omega
                  have HE : Kept (x = xf ∧ t = td) := kp (by
                    have h := HRdq.out
                    rw [List.drop_eq_nil_of_le (by rw [HNj.out]; exact hqn)] at h
                    exact ⟨(Prod.mk.inj h).1, (Prod.mk.inj h).2⟩)
                  have hsq : ¬ q < s.size := by omega
                  have HBx : Kept (Blk wr gn 42 (ndC xf)) := kp (by rw [← HE.out.1]; exact HBq.out)
                  clear hlq
                  go_wp2_with (first
                    | ((with_reducible show wpList _ _ _ (⟨some 108, _, _, _, _, _⟩ :: _) _ _); go_must (refine wpList_load_blk rfl 42 (.tmp 14) rfl gn rfl _ [.int .i64 xf.kind, .int .i64 xf.arg, .int .i64 xf.next, .int .i64 xf.alt] _ HBx.out Try.underlying42 rfl nd_size ?_))
                    | (at_builtin; go_must (refine wpList_append_rec rfl (.tmp 107) (.tmp 109) 43 rfl B1 42 4 _ _ Try.underlying43 node_info rfl (by omega) ndV node_one wr (.slice A11 i c11) _ xf rfl HOwq.out _ 1 rfl rfl _ rfl (by rw [HLn.out]; unfold maxLen; omega) (by rw [HLn.out]; omega) (by omega) ?_); intro v12 w13 hown1 hg1
                       have HO13 := kp hown1
                       have HRd13 := kp (HPdq.out.grown hg1.1 (fun e => by have := (HOwq.out.block _ e.symm).1; omega))
                       have HG13 := kp (grown_grew HGq.out hg1 (fun k e => by have := (HOwq.out.block k e).1; omega))
                       clear hown1 hg1))
                  go_roundw
                  case rel => exact ⟨i + 1, l ++ [xf], td, by omega, by go_num, by rw [List.length_append, HLn.out]; rfl, HO13.out, fun z hz => by
                      rcases List.mem_append.1 hz with h | h
                      · exact HOks.out z h
                      · rw [List.mem_singleton] at h; subst h; exact HXf.out, by rw [HNext.out]; exact HRdK.out, fun h0 => by rw [HNext.out]; exact HRdlK.out h0, by rw [← HE.out.2]; exact HOkq.out, by rw [← HE.out.2]; exact HRd13.out, HG13.out⟩
                  case measure => simp [intOf]; omega
            · have hwz : ((t.why : Int) == 0) = false := by rw [beq_eq_false_iff_ne]; omega
              have hdl : decide (i < k) = true := decide_eq_true hlk
              have HT : Kept (t = tb ∧ (tb.why = 0 → l = lf)) := kp (by
                have h := HRd.out
                rw [C.rdNds_keeps (P := fun s => s = t) (C.stays_num bs t hw) (k - i) l t rfl] at h
                exact ⟨h, fun h0 => absurd (by rw [h]; exact h0) hw⟩)
              clear hw
              have HBp3 := kp (HBp.out.grown HGt.out (by intro e; cases e; omega))
              have hc3 : wr.cell? ⟨g8, 3, none⟩ = some v3 := HBp3.out.cell 3
              have HOwn3 := kp (HOwn.out.far HGt.out (ownBlock_ne (fun k hk => by have := (HOwn.out.block k hk).1; omega)))
              have hvb : ∀ k, v3.ownBlock = some k → k < B1 := fun k hk => by rw [← hB1]; exact (HOwn.out.block k hk).2
              have HFsr : Kept (∀ fn ∈ fs ++ [⟨A11, i, c11, l⟩], FnR wr wB.heap.size v3 fn) := kp (by
                intro fn hfn
                rcases List.mem_append.1 hfn with hfn | hfn
                · exact (HFs.out fn hfn).keep HGt.out (fun k e => by cases e; omega)
                · rw [List.mem_singleton] at hfn
                  subst hfn
                  have ho : OwnR 4 ndV wr B1 42 (.slice A11 i c11) l := HOwnR.out
                  exact ⟨ho.less hBB, ownBlock_ne' (fun k hk1 hk2 => by have h1 := (ho.block k hk1).1; have h2 := hvb k hk2; omega), by show l.length ≤ 64; rw [HLn.out]; omega, HOks.out⟩)
              obtain ⟨A3, c3, hv3e, hc33, hm33, hr33⟩ := HOwn3.out.readsN (n := fs.length) rfl
              have hfsl : fs.length = f := by have h := congrArg List.length HFl.out; rw [List.length_map, HLl.out] at h; exact h
              have hv3o : v3.oneCell' = true := by rw [hv3e]; rfl
              have HNX := kp (HNx.out l t HT.out.1 HT.out.2)
              have hszr : wB.heap.size ≤ wr.heap.size := by omega
              clear hc33 hm33 hr33 hv3e
              go_wp2_with (first
                | (at_builtin; go_must (refine wpList_append_one rfl (.tmp 112) (.tmp 114) 24 rfl wB.heap.size 43 (.slice none 0 0) 24 Try.underlying24 nodes_info rfl wr v3 _ (.slice A11 i c11) rfl HOwn3.out _ 1 rfl rfl rfl (by rw [List.length_map]; unfold maxLen; omega) (by rw [List.length_map]; omega) hszr ?_); intro v4 w14 hown4 hg4
                   have HOwn4 := kp hown4; have HGw := kp hg4
                   have HRd14 := kp (HPdt.out.grown hg4.1 (fun e => by have := (HOwn3.out.block _ e.symm).1; omega))
                   have HB14 := kp (HBp3.out.grown hg4.1 (fun e => by have := (HOwn3.out.block _ e.symm).1; omega))
                   have HO14 := kp (only_grew HOnt.out hg4 (fun k e => (HOwn3.out.block k e).1))
                   obtain ⟨A4, c4, hv4, _, _, _⟩ := hown4.form
                   have hv4o : v4.oneCell' = true := by rw [hv4]; rfl
                   have hv4c : v4.cells = #[v4] := by rw [hv4]; rfl
                   clear hown4 hg4 hv4 hc3)
                | ((with_reducible show wpList _ _ _ (⟨none, _, _, _, _, _⟩ :: _) _ _); go_must (refine wpList_store_cell rfl 24 (.tmp 116) (.tmp 115) rfl g8 3 v4 rfl rfl hv4o hv4c 26 _ HB14.out (by show 3 < 4; decide) size1nn ?_); intro w15 hk15 hg15 hz15
                   have HB15 : Kept (Blk w15 g8 26 [.int .i64 (x1 : Int), .int .i64 (x2 : Int), .int .i64 (x3 : Int), v4]) := kp hk15
                   have HRd15 := kp (HRd14.out.grown hg15 (by intro e; cases e; omega))
                   have HO15 := kp (only_grown HO14.out hg15 (.inl (.inr rfl)))
                   have HOwn15 := kp (HOwn4.out.far hg15 (ownBlock_ne (fun k hk => by have := (HOwn4.out.block k hk).1; omega)))
                   have HFs15 : Kept (∀ fn ∈ fs ++ [⟨A11, i, c11, l⟩], FnR w15 wB.heap.size v4 fn) := kp (fun fn hfn => ((HFsr.out fn hfn).grew HGw.out).keep hg15 (fun k e => by cases e; omega))
                   clear hk15 hg15 hz15))
              go_roundw
              case rel => exact ⟨f + 1, L ++ [l], t, fs ++ [⟨A11, i, c11, l⟩], v4, by omega, by go_num, by rw [List.map_append, HFl.out]; rfl, by rw [List.length_append, HLl.out]; rfl, HNX.out.1, HNX.out.2, HOkt.out, HRd15.out, HB15.out, by rw [List.map_append]; exact HOwn15.out, HFs15.out, HO15.out⟩
              case measure => simp [intOf]; omega
          · have hdl : decide (i < k) = false := decide_eq_false hlk
            have hki : k - i = 0 := by omega
            have HT : Kept (t = tb ∧ (tb.why = 0 → l = lf)) := kp (by
              have h := HRd.out
              have h2 := HRdl.out
              rw [hki] at h h2
              exact ⟨h, h2⟩)
            clear hlk
            have HBp3 := kp (HBp.out.grown HGt.out (by intro e; cases e; omega))
            have hc3 : wr.cell? ⟨g8, 3, none⟩ = some v3 := HBp3.out.cell 3
            have HOwn3 := kp (HOwn.out.far HGt.out (ownBlock_ne (fun k hk => by have := (HOwn.out.block k hk).1; omega)))
            have hvb : ∀ k, v3.ownBlock = some k → k < B1 := fun k hk => by rw [← hB1]; exact (HOwn.out.block k hk).2
            have HFsr : Kept (∀ fn ∈ fs ++ [⟨A11, i, c11, l⟩], FnR wr wB.heap.size v3 fn) := kp (by
              intro fn hfn
              rcases List.mem_append.1 hfn with hfn | hfn
              · exact (HFs.out fn hfn).keep HGt.out (fun k e => by cases e; omega)
              · rw [List.mem_singleton] at hfn
                subst hfn
                have ho : OwnR 4 ndV wr B1 42 (.slice A11 i c11) l := HOwnR.out
                exact ⟨ho.less hBB, ownBlock_ne' (fun k hk1 hk2 => by have h1 := (ho.block k hk1).1; have h2 := hvb k hk2; omega), by show l.length ≤ 64; rw [HLn.out]; omega, HOks.out⟩)
            obtain ⟨A3, c3, hv3e, hc33, hm33, hr33⟩ := HOwn3.out.readsN (n := fs.length) rfl
            have hfsl : fs.length = f := by have h := congrArg List.length HFl.out; rw [List.length_map, HLl.out] at h; exact h
            have hv3o : v3.oneCell' = true := by rw [hv3e]; rfl
            have HNX := kp (HNx.out l t HT.out.1 HT.out.2)
            have hszr : wB.heap.size ≤ wr.heap.size := by omega
            clear hc33 hm33 hr33 hv3e
            go_wp2_with (first
              | (at_builtin; go_must (refine wpList_append_one rfl (.tmp 112) (.tmp 114) 24 rfl wB.heap.size 43 (.slice none 0 0) 24 Try.underlying24 nodes_info rfl wr v3 _ (.slice A11 i c11) rfl HOwn3.out _ 1 rfl rfl rfl (by rw [List.length_map]; unfold maxLen; omega) (by rw [List.length_map]; omega) hszr ?_); intro v4 w14 hown4 hg4
                 have HOwn4 := kp hown4; have HGw := kp hg4
                 have HRd14 := kp (HPdt.out.grown hg4.1 (fun e => by have := (HOwn3.out.block _ e.symm).1; omega))
                 have HB14 := kp (HBp3.out.grown hg4.1 (fun e => by have := (HOwn3.out.block _ e.symm).1; omega))
                 have HO14 := kp (only_grew HOnt.out hg4 (fun k e => (HOwn3.out.block k e).1))
                 obtain ⟨A4, c4, hv4, _, _, _⟩ := hown4.form
                 have hv4o : v4.oneCell' = true := by rw [hv4]; rfl
                 have hv4c : v4.cells = #[v4] := by rw [hv4]; rfl
                 clear hown4 hg4 hv4 hc3)
              | ((with_reducible show wpList _ _ _ (⟨none, _, _, _, _, _⟩ :: _) _ _); go_must (refine wpList_store_cell rfl 24 (.tmp 116) (.tmp 115) rfl g8 3 v4 rfl rfl hv4o hv4c 26 _ HB14.out (by show 3 < 4; decide) size1nn ?_); intro w15 hk15 hg15 hz15
                 have HB15 : Kept (Blk w15 g8 26 [.int .i64 (x1 : Int), .int .i64 (x2 : Int), .int .i64 (x3 : Int), v4]) := kp hk15
                 have HRd15 := kp (HRd14.out.grown hg15 (by intro e; cases e; omega))
                 have HO15 := kp (only_grown HO14.out hg15 (.inl (.inr rfl)))
                 have HOwn15 := kp (HOwn4.out.far hg15 (ownBlock_ne (fun k hk => by have := (HOwn4.out.block k hk).1; omega)))
                 have HFs15 : Kept (∀ fn ∈ fs ++ [⟨A11, i, c11, l⟩], FnR w15 wB.heap.size v4 fn) := kp (fun fn hfn => ((HFsr.out fn hfn).grew HGw.out).keep hg15 (fun k e => by cases e; omega))
                 clear hk15 hg15 hz15))
            go_roundw
            case rel => exact ⟨f + 1, L ++ [l], t, fs ++ [⟨A11, i, c11, l⟩], v4, by omega, by go_num, by rw [List.map_append, HFl.out]; rfl, by rw [List.length_append, HLl.out]; rfl, HNX.out.1, HNX.out.2, HOkt.out, HRd15.out, HB15.out, by rw [List.map_append]; exact HOwn15.out, HFs15.out, HO15.out⟩
            case measure => simp [intOf]; omega
      · have hwz : ((t.why : Int) == 0) = false := by rw [beq_eq_false_iff_ne]; omega
        have hdl : decide (f < m) = true := decide_eq_true hlt
        have HS2 : Kept (s2 = t ∧ s2.why ≠ 0) := kp (by
          have h := HRd.out
          rw [C.rdFns_keeps (P := fun s => s = t) (C.stays_num bs t hw) (m - f) L t rfl] at h
          rw [← h]; exact ⟨rfl, hw⟩)
        clear hw
        have HE3 : Kept (s3 = t) := kp (by rw [← HEnd.out, HS2.out.1]; exact C.endOf_at (fun h => HS2.out.2 (by rw [HS2.out.1]; exact h.1)))
        have HNe : Kept (s3.why ≠ 0) := kp (by rw [HE3.out, ← HS2.out.1]; exact HS2.out.2)
        have hwn : ((t.why : Int) != 0) = true := by rw [bne_iff_ne]; have := HNe.out; rw [HE3.out] at this; omega
        have HPd3 : Kept (Rd wr g A n c s3) := kp (by rw [HE3.out]; exact HPd.out)
        have HKaz := kp (HKaK.out wr HOn.out)
        have HKbz := kp (HKbK.out wr HOn.out)
        have HWz := kp (HWK.out wr HOn.out)
        have hszz := HWz.out.size
        have hgz := HPd3.out.lt
        have hgaz := HKaz.out.lt
        have hgbz := HKbz.out.lt
        go_wp2
        apply region_acts (fun k => k = gr) [9] (phs ([fun W => Blk W gr 26 [Value.int .i64 0, .int .i64 0, .int .i64 0, .slice none 0 0], fun W => Blk W gr 26 [Value.int .i64 0, .int .i64 0, .int .i64 0, .slice none 0 0]])) (.is _ :: .is _ :: .is _ :: .is _ :: .is _ :: .is _ :: .is _ :: .is _ :: .is _ :: .any _ :: .is _ :: .is _ :: [])
          [[], [], [(1, 139)], [(2, 140)], [(3, 141)], [], [(5, 143)], [(6, 144)], [(7, 145)], [(0, 138)], [(4, 142)], [(8, 146)]]
          [(0, 138), (1, 139), (2, 140), (3, 141), (4, 142), (5, 143), (6, 144), (7, 145), (8, 146), (10, 3), (11, 4)] (by kernel_rfl) (by kernel_rfl) (by kernel_rfl) (by decide)
        case h0 => exact HKaz.out
        case hob =>
          refine gobs_calm rfl ?o0 (gobs_calm rfl ?o1 (gobs_calm rfl ?o2 (gobs_calm rfl ?o3 (gobs_calm rfl ?o4 (gobs_calm rfl ?o5 (gobs_calm rfl ?o6 (gobs_calm rfl ?o7 (gobs_calm rfl ?o8 (gobs_act 0 rfl rfl ?o9 (gobs_calm rfl ?o10 (gobs_calm rfl ?o11 (gobs_nil))))))))))))
          case o0 =>
            intro p W hO hJ; change wpList _ _ _ _ _ _
            refine wpList_load_blk rfl 26 (.tmp 5) rfl g5 rfl _ [Value.int .i64 0, .int .i64 0, .int .i64 0, .slice none 0 0] _ (hO.blk HKbz.out (by omega)) Try.underlying26 rfl pg_size ?_
            go_wp2; exact calm_post rfl rfl rfl hJ
          case o1 => intro p W hO hJ; change wpList _ _ _ _ _ _; go_wp2; exact calm_post rfl rfl rfl hJ
          case o2 => intro p W hO hJ; rintro _ rfl; change wpList _ _ _ _ _ _; go_wp2; exact calm_post rfl rfl rfl hJ
          case o3 => intro p W hO hJ; rintro _ rfl; change wpList _ _ _ _ _ _; go_wp2; exact calm_post rfl rfl rfl hJ
          case o4 =>
            intro p W hO hJ; rintro _ rfl; change wpList _ _ _ _ _ _
            have hq : W.cell? ⟨g, 2, none⟩ = some (.int .i64 (s3.wh : Int)) := (hO.blk HPd3.out (by omega)).cell 2
            go_wp2; exact calm_post rfl rfl rfl hJ
          case o5 => intro p W hO hJ; change wpList _ _ _ _ _ _; go_wp2; exact calm_post rfl rfl rfl hJ
          case o6 => intro p W hO hJ; rintro _ rfl; change wpList _ _ _ _ _ _; go_wp2; exact calm_post rfl rfl rfl hJ
          case o7 => intro p W hO hJ; rintro _ rfl; change wpList _ _ _ _ _ _; go_wp2; exact calm_post rfl rfl rfl hJ
          case o8 =>
            intro p W hO hJ; rintro _ rfl; change wpList _ _ _ _ _ _
            have hq : W.cell? ⟨g, 3, none⟩ = some (.int .i64 (s3.why : Int)) := (hO.blk HPd3.out (by omega)).cell 3
            go_wp2; exact calm_post rfl rfl rfl hJ
          case o9 =>
            intro W hO hJ; rintro _ rfl; change wpList _ _ _ _ _ _
            have hj : Blk W gr 26 [Value.int .i64 0, .int .i64 0, .int .i64 0, .slice none 0 0] := hJ
            refine wpList_store_blk rfl 26 (.tmp 2) (.tmp 138) rfl gr [Value.int .i64 0, .int .i64 0, .int .i64 0, .slice none 0 0] rfl rfl _ _ hj pg_size rfl (pcp_ones pgNone) ?_
            intro wa hka hga hza
            go_wp2
            exact act_post0 rfl (Only.of_grown hga rfl) hka
          case o10 => intro p W hO hJ; rintro _ rfl; change wpList _ _ _ _ _ _; go_wp2; exact calm_post rfl rfl rfl hJ
          case o11 => intro p W hO hJ; rintro _ rfl; change wpList _ _ _ _ _ _; go_wp2; exact calm_post rfl rfl rfl hJ
        case hend =>
          intro W hO hJ; rintro _ rfl; rintro _ rfl; rintro _ rfl; rintro _ rfl; rintro _ rfl; rintro _ rfl; rintro _ rfl; rintro _ rfl; rintro _ rfl; rintro _ rfl; rintro _ rfl
          simp only [ggiven, put_lit, List.set]
          have HKa : Kept (Blk W gr 26 [Value.int .i64 0, .int .i64 0, .int .i64 0, .slice none 0 0]) := kp hJ
          have HBa : Kept (Below w.heap.size w W) := kp (HWz.out.trans ((Only.below hO hszz (fun k hk => by subst hk; exact hgr))))
          clear hJ hO
          go_wp2
          obtain ⟨rfl, rfl, rfl⟩ := HF.out.2.2 HNe.out
          refine bodyPost_ret (results_blk3 (P := Try.prog) (fn := Try.f9) rfl _ _ gr 26 _ _ _ _ rfl rfl rfl HKa.out Try.underlying26 rfl pg_size) rfl ⟨pgNone, rfl, pgNone_ok _ _, rfl, HBa.out⟩
    · have hdl : decide (f < m) = false := decide_eq_false hlt
      have hmf : m - f = 0 := by omega
      have HS2 : Kept (t = s2) := kp (by have h := HRd.out; rw [hmf] at h; exact h)
      have HLe : Kept (s2.why = 0 → L = d.L) := kp (by intro h0; have h := HRdL.out h0; rw [hmf] at h; exact h)
      clear hlt
      obtain ⟨_, hqa, _, hqw, _, _, _⟩ := HPd.out.cells
      by_cases hw : t.why = 0
      · have hwz : ((t.why : Int) == 0) = true := by rw [beq_iff_eq]; omega
        by_cases hat : t.at_ < n
        · have HE3 : Kept (s3 = ⟨t.at_, t.at_, 7⟩) := kp (by rw [← HEnd.out, ← HS2.out]; exact C.endOf_left ⟨hw, hat⟩)
          have hda : decide (t.at_ < n) = true := decide_eq_true hat
          have HNe : Kept (s3.why ≠ 0) := kp (by rw [HE3.out]; exact (show (7 : Nat) ≠ 0 by decide))
          have HFl7 : Kept (R.fail t 7 = s3) := kp (by rw [HE3.out]; unfold R.fail; rw [if_pos hw])
          have hwn : ((s3.why : Int) != 0) = true := by rw [HE3.out]; rfl
          clear hw hat
          go_wp2_with fail
          refine (rd_fail g A n c t 7 s3 HFl7.out wr HPd.out).mono ?_
          rintro e wf ⟨rfl, hkf, hgf⟩
          have HPd3 := kp hkf
          have HOnf := kp (only_grown HOn.out hgf (.inl (.inl rfl)))
          obtain ⟨_, _, _, hqf, _, _, _⟩ := hkf.cells
          clear hkf hgf hqa hqw
          have HKaz := kp (HKaK.out wf HOnf.out)
          have HKbz := kp (HKbK.out wf HOnf.out)
          have HWz := kp (HWK.out wf HOnf.out)
          have hszz := HWz.out.size
          have hgz := HPd3.out.lt
          have hgaz := HKaz.out.lt
          have hgbz := HKbz.out.lt
          go_wp2
          apply region_acts (fun k => k = gr) [9] (phs ([fun W => Blk W gr 26 [Value.int .i64 0, .int .i64 0, .int .i64 0, .slice none 0 0], fun W => Blk W gr 26 [Value.int .i64 0, .int .i64 0, .int .i64 0, .slice none 0 0]])) (.is _ :: .is _ :: .is _ :: .is _ :: .is _ :: .is _ :: .is _ :: .is _ :: .is _ :: .any _ :: .is _ :: .is _ :: [])
            [[], [], [(1, 139)], [(2, 140)], [(3, 141)], [], [(5, 143)], [(6, 144)], [(7, 145)], [(0, 138)], [(4, 142)], [(8, 146)]]
            [(0, 138), (1, 139), (2, 140), (3, 141), (4, 142), (5, 143), (6, 144), (7, 145), (8, 146), (10, 3), (11, 4)] (by kernel_rfl) (by kernel_rfl) (by kernel_rfl) (by decide)
          case h0 => exact HKaz.out
          case hob =>
            refine gobs_calm rfl ?o0 (gobs_calm rfl ?o1 (gobs_calm rfl ?o2 (gobs_calm rfl ?o3 (gobs_calm rfl ?o4 (gobs_calm rfl ?o5 (gobs_calm rfl ?o6 (gobs_calm rfl ?o7 (gobs_calm rfl ?o8 (gobs_act 0 rfl rfl ?o9 (gobs_calm rfl ?o10 (gobs_calm rfl ?o11 (gobs_nil))))))))))))
            case o0 =>
              intro p W hO hJ; change wpList _ _ _ _ _ _
              refine wpList_load_blk rfl 26 (.tmp 5) rfl g5 rfl _ [Value.int .i64 0, .int .i64 0, .int .i64 0, .slice none 0 0] _ (hO.blk HKbz.out (by omega)) Try.underlying26 rfl pg_size ?_
              go_wp2; exact calm_post rfl rfl rfl hJ
            case o1 => intro p W hO hJ; change wpList _ _ _ _ _ _; go_wp2; exact calm_post rfl rfl rfl hJ
            case o2 => intro p W hO hJ; rintro _ rfl; change wpList _ _ _ _ _ _; go_wp2; exact calm_post rfl rfl rfl hJ
            case o3 => intro p W hO hJ; rintro _ rfl; change wpList _ _ _ _ _ _; go_wp2; exact calm_post rfl rfl rfl hJ
            case o4 =>
              intro p W hO hJ; rintro _ rfl; change wpList _ _ _ _ _ _
              have hq : W.cell? ⟨g, 2, none⟩ = some (.int .i64 (s3.wh : Int)) := (hO.blk HPd3.out (by omega)).cell 2
              go_wp2; exact calm_post rfl rfl rfl hJ
            case o5 => intro p W hO hJ; change wpList _ _ _ _ _ _; go_wp2; exact calm_post rfl rfl rfl hJ
            case o6 => intro p W hO hJ; rintro _ rfl; change wpList _ _ _ _ _ _; go_wp2; exact calm_post rfl rfl rfl hJ
            case o7 => intro p W hO hJ; rintro _ rfl; change wpList _ _ _ _ _ _; go_wp2; exact calm_post rfl rfl rfl hJ
            case o8 =>
              intro p W hO hJ; rintro _ rfl; change wpList _ _ _ _ _ _
              have hq : W.cell? ⟨g, 3, none⟩ = some (.int .i64 (s3.why : Int)) := (hO.blk HPd3.out (by omega)).cell 3
              go_wp2; exact calm_post rfl rfl rfl hJ
            case o9 =>
              intro W hO hJ; rintro _ rfl; change wpList _ _ _ _ _ _
              have hj : Blk W gr 26 [Value.int .i64 0, .int .i64 0, .int .i64 0, .slice none 0 0] := hJ
              refine wpList_store_blk rfl 26 (.tmp 2) (.tmp 138) rfl gr [Value.int .i64 0, .int .i64 0, .int .i64 0, .slice none 0 0] rfl rfl _ _ hj pg_size rfl (pcp_ones pgNone) ?_
              intro wa hka hga hza
              go_wp2
              exact act_post0 rfl (Only.of_grown hga rfl) hka
            case o10 => intro p W hO hJ; rintro _ rfl; change wpList _ _ _ _ _ _; go_wp2; exact calm_post rfl rfl rfl hJ
            case o11 => intro p W hO hJ; rintro _ rfl; change wpList _ _ _ _ _ _; go_wp2; exact calm_post rfl rfl rfl hJ
          case hend =>
            intro W hO hJ; rintro _ rfl; rintro _ rfl; rintro _ rfl; rintro _ rfl; rintro _ rfl; rintro _ rfl; rintro _ rfl; rintro _ rfl; rintro _ rfl; rintro _ rfl; rintro _ rfl
            simp only [ggiven, put_lit, List.set]
            have HKa : Kept (Blk W gr 26 [Value.int .i64 0, .int .i64 0, .int .i64 0, .slice none 0 0]) := kp hJ
            have HBa : Kept (Below w.heap.size w W) := kp (HWz.out.trans ((Only.below hO hszz (fun k hk => by subst hk; exact hgr))))
            clear hJ hO
            go_wp2
            obtain ⟨rfl, rfl, rfl⟩ := HF.out.2.2 HNe.out
            refine bodyPost_ret (results_blk3 (P := Try.prog) (fn := Try.f9) rfl _ _ gr 26 _ _ _ _ rfl rfl rfl HKa.out Try.underlying26 rfl pg_size) rfl ⟨pgNone, rfl, pgNone_ok _ _, rfl, HBa.out⟩
        · have hda : decide (t.at_ < n) = false := decide_eq_false hat
          have HE3 : Kept (s3 = t) := kp (by rw [← HEnd.out, ← HS2.out]; exact C.endOf_at (fun h => hat h.2))
          have HW0 : Kept (s3.why = 0) := kp (by rw [HE3.out]; exact hw)
          have hwn : ((t.why : Int) != 0) = false := by rw [bne_eq_false_iff_eq]; omega
          have HLe2 : Kept (fs.map (·.nodes) = d.L) := kp (by rw [HFl.out]; exact HLe.out (by rw [← HS2.out]; exact hw))
          obtain ⟨A3, c3, hv3, hc33, hm33, hr33⟩ := HOwn.out.readsN (n := fs.length) rfl
          subst hv3
          obtain ⟨p, hp⟩ : ∃ p : Pg, p = ⟨(x1 : Int), (x2 : Int), (x3 : Int), A3, fs.length, c3, fs⟩ := ⟨_, rfl⟩
          have HP : Kept ([.int .i64 (x1 : Int), .int .i64 (x2 : Int), .int .i64 (x3 : Int), .slice A3 fs.length c3] = pgC p) := kp (by rw [hp]; rfl)
          have hA3 : A3 = none → c3 = 0 := by
            intro e
            rcases HOwn.out.2 with ⟨hv, _⟩ | ⟨gx, cx, _, hv, _⟩
            · injection hv
            · injection hv with h1 _ _; rw [e] at h1; cases h1
          have HPK : Kept (∀ W, Held (fun k => wB.heap.size ≤ k ∧ k < wr.heap.size) wr W → p.Ok W W.heap.size) := kp (by
            intro W hW
            obtain ⟨A3', c3', hv3', _, _, hr3'⟩ := (HOwn.out.heldAt hW (fun k hk => HOwn.out.block k hk)).readsN (n := fs.length) rfl
            injection hv3' with e1 _ e3
            rw [hp]
            exact ⟨HI1.out, HI2.out, HI3.out, by rw [e1]; exact hr3', fun fn hfn => ((HFs.out fn hfn).held hW (fun k h1 h2 => ⟨h1, h2⟩)).ok_, hc33, hm33, hA3⟩)
          have HPOk : Kept (p.Ok wr wr.heap.size) := kp (HPK.out wr (Held.refl _ _))
          have HPD : Kept (C.dataOf p = d) := kp (by rw [hp]; unfold C.dataOf; simp only; rw [HLe2.out, HD.out])
          have HPC : Kept (Q.check p = (a, b, ck)) := kp (by rw [C.check_data HPOk.out.row.len, HPD.out]; exact HC.out)
          have HBp2 : Kept (Blk wr g8 26 (pgC p)) := kp (by rw [← HP.out]; exact HBp.out)
          clear hw hat hp hr33 hA3 hm33
          have HKaz := kp (HKaK.out wr HOn.out)
          have HKbz := kp (HKbK.out wr HOn.out)
          have HWz := kp (HWK.out wr HOn.out)
          have hszz := HWz.out.size
          have hga3 := HKaz.out.lt
          go_wp2_with (first
            | ((with_reducible show wpList _ _ _ (⟨some 148, _, _, _, _, _⟩ :: _) _ _); go_must (refine wpList_load_blk rfl 26 (.tmp 8) rfl g8 rfl _ (pgC p) _ HBp2.out Try.underlying26 rfl pg_size ?_))
            | (go_at_call 23; fail))
          rw [← pgA_is]
          refine (ref_check wr.heap.size p wr HPOk.out (Nat.le_refl _) a b ck HPC.out).mono ?_
          rintro e wc ⟨rfl, hbc⟩
          have HKac := kp (HKaz.out.below hbc HKaz.out.lt); have HKbc := kp (HKbz.out.below hbc HKbz.out.lt); have HBpc := kp (HBp2.out.below hbc HBp2.out.lt); have HWc := kp (HWz.out.trans (hbc.mono hszz)); have HHc : Kept (Held (fun k => wB.heap.size ≤ k ∧ k < wr.heap.size) wr wc) := kp (Held.of_below hbc fun k h => h.2)
          have hszc := hbc.size
          clear hbc
          by_cases hck : ck = 0
          · subst hck
            go_wp2_with (first
              | ((with_reducible show wpList _ _ _ (⟨some 159, _, _, _, _, _⟩ :: _) _ _); go_must (refine wpList_load_blk rfl 26 (.tmp 8) rfl g8 rfl _ (pgC p) _ HBpc.out Try.underlying26 rfl pg_size ?_))
              | ((with_reducible show wpList _ _ _ (⟨none, _, _, _, _, _⟩ :: _) _ _); (refine wpList_store_blk rfl 26 (.tmp 2) (.tmp 159) rfl gr (pgC p) rfl rfl _ _ (HKac.out) pg_size rfl (pcp_ones p) ?_); intro wa hka hga hza
                 have HKa := kp hka
                 have HBa : Kept (Below w.heap.size w wa) := kp (HWc.out.grown hga (by have := HWc.out.size; omega) (by intro k e; cases e; exact hgr))
                 have HGa := kp hga
                 clear hka hga))
            have HPa : Kept (p.Ok wa wa.heap.size) := kp (HPK.out _ (HHc.out.trans (Held.of_grown HGa.out fun k h => ⟨by omega, fun e => by cases e; omega⟩)))
            obtain ⟨rfl, rfl, rfl⟩ := HF.out.1 HW0.out (by first | rfl | trivial)
            refine bodyPost_ret (results_blk3 (P := Try.prog) (fn := Try.f9) rfl _ _ gr 26 _ _ _ _ rfl rfl rfl HKa.out Try.underlying26 rfl pg_size) rfl ⟨p, rfl, HPa.out, HPD.out, HBa.out⟩
          · have hcb : ((ck : Int) != 0) = true := by rw [bne_iff_ne]; omega
            have HCk := kp hck
            clear hck
            go_wp2_with (first
              | ((with_reducible show wpList _ _ _ (⟨some 155, _, _, _, _, _⟩ :: _) _ _); go_must (refine wpList_load_blk rfl 26 (.tmp 5) rfl g5 rfl _ [Value.int .i64 0, .int .i64 0, .int .i64 0, .slice none 0 0] _ (HKbc.out) Try.underlying26 rfl pg_size ?_))
              | ((with_reducible show wpList _ _ _ (⟨none, _, _, _, _, _⟩ :: _) _ _); (refine wpList_store_blk rfl 26 (.tmp 2) (.tmp 155) rfl gr ([Value.int .i64 0, .int .i64 0, .int .i64 0, .slice none 0 0]) rfl rfl _ _ (HKac.out) pg_size rfl (pcp_ones pgNone) ?_); intro wa hka hga hza
                 have HKa := kp hka
                 have HBa : Kept (Below w.heap.size w wa) := kp (HWc.out.grown hga (by have := HWc.out.size; omega) (by intro k e; cases e; exact hgr))
                 have HGa := kp hga
                 clear hka hga))
            obtain ⟨rfl, rfl, rfl⟩ := HF.out.2.1 HW0.out HCk.out
            refine bodyPost_ret (results_blk3 (P := Try.prog) (fn := Try.f9) rfl _ _ gr 26 _ _ _ _ rfl rfl rfl HKa.out Try.underlying26 rfl pg_size) rfl ⟨pgNone, rfl, pgNone_ok _ _, rfl, HBa.out⟩
      · have hwz : ((t.why : Int) == 0) = false := by rw [beq_eq_false_iff_ne]; omega
        have HE3 : Kept (s3 = t) := kp (by rw [← HEnd.out, ← HS2.out]; exact C.endOf_at (fun h => hw h.1))
        have HNe : Kept (s3.why ≠ 0) := kp (by rw [HE3.out]; exact hw)
        have hwn : ((t.why : Int) != 0) = true := by rw [bne_iff_ne]; omega
        have HPd3 : Kept (Rd wr g A n c s3) := kp (by rw [HE3.out]; exact HPd.out)
        clear hw hqa
        have HKaz := kp (HKaK.out wr HOn.out)
        have HKbz := kp (HKbK.out wr HOn.out)
        have HWz := kp (HWK.out wr HOn.out)
        have hszz := HWz.out.size
        have hgz := HPd3.out.lt
        have hgaz := HKaz.out.lt
        have hgbz := HKbz.out.lt
        go_wp2
        apply region_acts (fun k => k = gr) [9] (phs ([fun W => Blk W gr 26 [Value.int .i64 0, .int .i64 0, .int .i64 0, .slice none 0 0], fun W => Blk W gr 26 [Value.int .i64 0, .int .i64 0, .int .i64 0, .slice none 0 0]])) (.is _ :: .is _ :: .is _ :: .is _ :: .is _ :: .is _ :: .is _ :: .is _ :: .is _ :: .any _ :: .is _ :: .is _ :: [])
          [[], [], [(1, 139)], [(2, 140)], [(3, 141)], [], [(5, 143)], [(6, 144)], [(7, 145)], [(0, 138)], [(4, 142)], [(8, 146)]]
          [(0, 138), (1, 139), (2, 140), (3, 141), (4, 142), (5, 143), (6, 144), (7, 145), (8, 146), (10, 3), (11, 4)] (by kernel_rfl) (by kernel_rfl) (by kernel_rfl) (by decide)
        case h0 => exact HKaz.out
        case hob =>
          refine gobs_calm rfl ?o0 (gobs_calm rfl ?o1 (gobs_calm rfl ?o2 (gobs_calm rfl ?o3 (gobs_calm rfl ?o4 (gobs_calm rfl ?o5 (gobs_calm rfl ?o6 (gobs_calm rfl ?o7 (gobs_calm rfl ?o8 (gobs_act 0 rfl rfl ?o9 (gobs_calm rfl ?o10 (gobs_calm rfl ?o11 (gobs_nil))))))))))))
          case o0 =>
            intro p W hO hJ; change wpList _ _ _ _ _ _
            refine wpList_load_blk rfl 26 (.tmp 5) rfl g5 rfl _ [Value.int .i64 0, .int .i64 0, .int .i64 0, .slice none 0 0] _ (hO.blk HKbz.out (by omega)) Try.underlying26 rfl pg_size ?_
            go_wp2; exact calm_post rfl rfl rfl hJ
          case o1 => intro p W hO hJ; change wpList _ _ _ _ _ _; go_wp2; exact calm_post rfl rfl rfl hJ
          case o2 => intro p W hO hJ; rintro _ rfl; change wpList _ _ _ _ _ _; go_wp2; exact calm_post rfl rfl rfl hJ
          case o3 => intro p W hO hJ; rintro _ rfl; change wpList _ _ _ _ _ _; go_wp2; exact calm_post rfl rfl rfl hJ
          case o4 =>
            intro p W hO hJ; rintro _ rfl; change wpList _ _ _ _ _ _
            have hq : W.cell? ⟨g, 2, none⟩ = some (.int .i64 (s3.wh : Int)) := (hO.blk HPd3.out (by omega)).cell 2
            go_wp2; exact calm_post rfl rfl rfl hJ
          case o5 => intro p W hO hJ; change wpList _ _ _ _ _ _; go_wp2; exact calm_post rfl rfl rfl hJ
          case o6 => intro p W hO hJ; rintro _ rfl; change wpList _ _ _ _ _ _; go_wp2; exact calm_post rfl rfl rfl hJ
          case o7 => intro p W hO hJ; rintro _ rfl; change wpList _ _ _ _ _ _; go_wp2; exact calm_post rfl rfl rfl hJ
          case o8 =>
            intro p W hO hJ; rintro _ rfl; change wpList _ _ _ _ _ _
            have hq : W.cell? ⟨g, 3, none⟩ = some (.int .i64 (s3.why : Int)) := (hO.blk HPd3.out (by omega)).cell 3
            go_wp2; exact calm_post rfl rfl rfl hJ
          case o9 =>
            intro W hO hJ; rintro _ rfl; change wpList _ _ _ _ _ _
            have hj : Blk W gr 26 [Value.int .i64 0, .int .i64 0, .int .i64 0, .slice none 0 0] := hJ
            refine wpList_store_blk rfl 26 (.tmp 2) (.tmp 138) rfl gr [Value.int .i64 0, .int .i64 0, .int .i64 0, .slice none 0 0] rfl rfl _ _ hj pg_size rfl (pcp_ones pgNone) ?_
            intro wa hka hga hza
            go_wp2
            exact act_post0 rfl (Only.of_grown hga rfl) hka
          case o10 => intro p W hO hJ; rintro _ rfl; change wpList _ _ _ _ _ _; go_wp2; exact calm_post rfl rfl rfl hJ
          case o11 => intro p W hO hJ; rintro _ rfl; change wpList _ _ _ _ _ _; go_wp2; exact calm_post rfl rfl rfl hJ
        case hend =>
          intro W hO hJ; rintro _ rfl; rintro _ rfl; rintro _ rfl; rintro _ rfl; rintro _ rfl; rintro _ rfl; rintro _ rfl; rintro _ rfl; rintro _ rfl; rintro _ rfl; rintro _ rfl
          simp only [ggiven, put_lit, List.set]
          have HKa : Kept (Blk W gr 26 [Value.int .i64 0, .int .i64 0, .int .i64 0, .slice none 0 0]) := kp hJ
          have HBa : Kept (Below w.heap.size w W) := kp (HWz.out.trans ((Only.below hO hszz (fun k hk => by subst hk; exact hgr))))
          clear hJ hO
          go_wp2
          obtain ⟨rfl, rfl, rfl⟩ := HF.out.2.2 HNe.out
          refine bodyPost_ret (results_blk3 (P := Try.prog) (fn := Try.f9) rfl _ _ gr 26 _ _ _ _ rfl rfl rfl HKa.out Try.underlying26 rfl pg_size) rfl ⟨pgNone, rfl, pgNone_ok _ _, rfl, HBa.out⟩
end Go.Proofs.Ytdnhfpphjpnklaa

